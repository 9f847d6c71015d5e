/-
  Any calls of two memories: 'play' is true: its walk.
-/
import Derived.Test.YtljhdibnnaepdaaPgl
namespace Go.Proofs.Ytljhdibnnaepdaa
open Go.RowKit
variable {w0 w w' : World} {f : Feet} {la lb lo l2 : List Nat} {mx : Nat}

theorem new_11 (w : World) : Calls Try.prog 10 #[.int .i64 1, .int .i64 1] w (NewYes 52 1 1 w) := new_yes 1 1 (by decide) (by decide) w
theorem rnew_11 (w : World) : Calls Try.prog 17 #[.int .i64 1, .int .i64 1] w (NewYes 46 1 1 w) := rnew_yes 1 1 (by decide) (by decide) w
def loL : List Nat := splice (List.replicate (1024 * 1) 0) 0 otherT
theorem put_other {p B : Nat} (hg : Pg 52 p B (List.replicate (1024 * 1) 0) 1 (pmark w otherT)) : Calls Try.prog 11 #[.pointer (some ⟨p, 0, none⟩), .int .u64 0, .slice (some ⟨w.heap.size, 0, none⟩) 16 16] (pmark w otherT) (Wrote 52 p B (.bool true) loL 1 (pmark w otherT)) :=
  put_yes hg 0 (some ⟨w.heap.size, 0, none⟩) otherT 16 (bytes_pmark w otherT (by decide)) (by rw [List.length_replicate]; decide)
theorem rput_other {p B : Nat} (hg : Pg 46 p B (List.replicate (1024 * 1) 0) 1 (pmark w otherT)) : Calls Try.prog 18 #[.pointer (some ⟨p, 0, none⟩), .int .u64 0, .slice (some ⟨w.heap.size, 0, none⟩) 16 16] (pmark w otherT) (Wrote 46 p B (.bool true) loL 1 (pmark w otherT)) :=
  rput_yes hg 0 (some ⟨w.heap.size, 0, none⟩) otherT 16 (bytes_pmark w otherT (by decide)) (by rw [List.length_replicate]; decide)

theorem inside_0_5 (n : Int) (w : World) : Calls Try.prog 9 #[.int .i64 n, .int .i64 0, .int .i64 5] w (InsideP 0 5 w) := inside_any n 0 5 (by decide) (by decide) w
def wideL : List Int := [1, 2, 4, 8, 3, 0]
theorem wide_cell (w : World) (r : Nat) (h : r ≤ 5) : (w.alloc (.cells #[.int .i64 1, .int .i64 2, .int .i64 4, .int .i64 8, .int .i64 3, .int .i64 0] 3)).cell? ⟨w.heap.size, r, none⟩ = some (.int .i64 (wideL.getD r 0)) := by
  rw [World.cell?_alloc_new]
  match r, h with
  | 0, _ => rfl
  | 1, _ => rfl
  | 2, _ => rfl
  | 3, _ => rfl
  | 4, _ => rfl
  | 5, _ => rfl
  | _ + 6, h => exact absurd h (by omega)
theorem AskAt.frozen_made (w : World) (T : TypeId) (cs : Array Value) (j : Nat) : (w.alloc (.cells cs T)).frozen? ⟨w.heap.size, j, none⟩ = false := by
  simp [World.frozen?, World.alloc, -World.alloc_eq]
/-- A number of the box is written. -/
theorem AskAt.set1 {G : Nat} {kd n z : Int} {q s v : Nat} {x : Value} (h : AskAt G kd n q s v x w) : AskAt G kd z q s v x (w.setCell ⟨G, 1, none⟩ (.int .i64 z)) := by
  obtain ⟨h0, h1, h2, h3, h4, h5⟩ := h
  have far : ∀ j, j ≠ 1 → (w.setCell ⟨G, 1, none⟩ (.int .i64 z)).cell? ⟨G, j, none⟩ = w.cell? ⟨G, j, none⟩ := fun j hj =>
    World.cell?_setCell_other w ⟨G, 1, none⟩ ⟨G, j, none⟩ (.int .i64 z) (fun e => hj (congrArg Addr.off e).symm)
  refine ⟨by rw [far 0 (by decide), h0], ?_, by rw [far 2 (by decide), h2], by rw [far 3 (by decide), h3], by rw [far 4 (by decide), h4], by rw [far 5 (by decide), h5]⟩
  exact World.cell?_setCell_same w ⟨G, 1, none⟩ (.int .i64 z) h1
/-- What lies apart from the four is written. -/
theorem Four.aside {G : Nat} (h : Four w0 f la lb lo mx w) (hb : But [G] w w') (hG : ∀ i, i < 8 → f i ≠ G) (hlo : w0.heap.size ≤ G) : Four w0 f la lb lo mx w' := by
  have hf : ∀ {i : Nat}, i < 8 → f i ∉ [G] := fun {i} hi hm => hG i hi (by simpa using hm)
  exact ⟨h.a.next hb (hf (by decide)) (hf (by decide)), h.b.next hb (hf (by decide)) (hf (by decide)), h.o.next hb (hf (by decide)) (hf (by decide)), h.x.next hb (hf (by decide)) (hf (by decide)), h.inj, h.lo_, h.acc.trans (hb.below (by simp; exact hlo) h.acc.size)⟩
set_option maxHeartbeats 4000000 in
set_option maxRecDepth 100000 in
theorem play_yes (k mx : Nat) (hk : k ≤ mx) (hmx : mx ≤ 512) (v : Value) (N : Nat) (near : Bool) (w : World) (hv : AsksIn w v N) :
    Calls Try.prog 7 #[.int .i64 (k : Int), .int .i64 (mx : Int), v, .bool near] w (BoolPost true w) := by
  obtain ⟨A, c, rfl, hN, hc⟩ := hv
  have HC := Lib.hid hc
  clear hc
  go_enter Try.func7, Try.ntmps7
  go_wp2_with fail
  go_at_call 10
  refine (new_yes k mx hk hmx w).mono ?_
  rintro e w1 ⟨p, B, rfl, a1, a2, ga, h1⟩
  go_wp2_with fail
  go_at_call 10
  refine (new_11 w1).mono ?_
  rintro e w2 ⟨pO, BO, rfl, o1, o2, go, h2⟩
  go_wp2_with fail
  go_at_call 17
  refine (rnew_yes k mx hk hmx w2).mono ?_
  rintro e w3 ⟨p2, B2, rfl, b1, b2, gb, h3⟩
  go_wp2_with fail
  go_at_call 17
  refine (rnew_11 w3).mono ?_
  rintro e w4 ⟨pX, BX, rfl, x1, x2, gx, h4⟩
  have h := four_new a1 a2 ga h1 o1 o2 go h2 b1 b2 gb h3 x1 x2 gx h4
  clear a1 a2 ga h1 o1 o2 go h2 b1 b2 gb h3 x1 x2 gx h4
  have hcv := conv_other w4
  have hP := h.below (below_pmark w4 otherT)
  have H5 := Lib.hid hP
  clear h hP
  go_wp2_with fail
  go_at_call 11
  refine (put_other H5.out.o).mono ?_
  rintro e w6 ⟨rfl, hb6, g6⟩
  have hcv2 := conv_other w6
  have HB6 := Lib.hid hb6
  have G6 := Lib.hid g6
  clear hcv hb6 g6
  go_wp2_with fail
  go_at_call 18
  refine (rput_other (H5.out.x_at HB6.out (below_pmark w6 otherT))).mono ?_
  rintro e w8 ⟨rfl, hb8, g8⟩
  have H8 := Lib.hid (H5.out.puts HB6.out G6.out (below_pmark w6 otherT) hb8 g8)
  clear hcv2 hb8 g8 H5 HB6 G6
  obtain ⟨F, hF0, hF2, hF4, hF6, HF⟩ : ∃ F : Feet, F 0 = p ∧ F 2 = p2 ∧ F 4 = pO ∧ F 6 = pX ∧ Hid (Four w F (List.replicate (1024 * k) 0) (List.replicate (1024 * k) 0) loL mx w8) := ⟨_, rfl, rfl, rfl, rfl, H8⟩
  have E0 := Lib.hid hF0
  have E2 := Lib.hid hF2
  have E4 := Lib.hid hF4
  have E6 := Lib.hid hF6
  clear H8 hF0 hF2 hF4 hF6
  go_wp2_with fail
  go_loopw [13, 14] (fun vi _ wr => ∃ (i : Nat) (f : Feet) (l : List Nat), vi = .int .i64 (i : Int) ∧ i ≤ N ∧ i ≤ 60 ∧ Hid (f 0 = p) ∧ Hid (f 2 = p2) ∧ Hid (f 4 = pO) ∧ Hid (f 6 = pX) ∧ Hid (Four w f l l loL mx wr)) (fun vi _ _ => 60 - (intOf vi).toNat)
  case atStart => exact ⟨0, F, _, rfl, Nat.zero_le _, Nat.zero_le _, E0, E2, E4, E6, HF⟩
  case round =>
    clear HF E0 E2 E4 E6
    obtain ⟨i, f, l, rfl, hiN, hi60, E0, E2, E4, E6, HF⟩ := hrel
    by_cases hlt : i < N ∧ i < 60
    · obtain ⟨hlt1, hlt2⟩ := hlt
      obtain ⟨g, o, rfl, hg, hcs⟩ := HC.out (by omega)
      obtain ⟨kd, n, q, s, v, b, e0, e1, e2, e3, e4, e5, hb⟩ := hcs i hlt1
      have ec : ∀ j, wr.cell? ⟨g, j, none⟩ = w.cell? ⟨g, j, none⟩ := fun j => HF.out.acc.cell (p := ⟨g, j, none⟩) hg
      rw [← ec] at e0 e1 e2 e3 e4 e5
      obtain ⟨Ab, nb, cb, ys, rfl, hbi⟩ := hb
      have HBI : Hid (BytesIn w (.slice Ab nb cb)) := Lib.hid ⟨Ab, nb, cb, ys, rfl, hbi⟩
      have HAL := Lib.hid ((Below.refl wr.heap.size wr).alloc (Nat.le_refl _) (.cells #[.int .i64 kd, .int .i64 n, .int .u64 (q : Int), .int .u64 (s : Int), .int .u64 (v : Int), .slice Ab nb cb] 29))
      clear hcs ec hbi
      cases near with
      | false =>
        go_wp2_with fail
        go_at_call 19
        have CD := do_in (HF.out.below HAL.out) HBI.out kd n q s v
        rw [E0.out, E2.out, E4.out, E6.out] at CD
        refine CD.mono ?_
        rintro e w9 ⟨rfl, f', l', g0, g2, g4, g6, hF9⟩
        have E0' := Lib.hid (g0.trans E0.out)
        have E2' := Lib.hid (g2.trans E2.out)
        have E4' := Lib.hid (g4.trans E4.out)
        have E6' := Lib.hid (g6.trans E6.out)
        have HF9 := Lib.hid hF9
        clear g0 g2 g4 g6 hF9 CD
        go_wp2
        go_roundw
        case rel => exact ⟨i + 1, f', l', by go_num, by omega, by omega, E0', E2', E4', E6', HF9⟩
        case measure => simp [intOf]; omega
      | true =>
        go_upto_region 13 with fail
        have hask := AskAt.made wr 29 kd n (q % 3100) (s % 1100) (v % 1100) (.slice Ab nb cb)
        have hal := (Below.refl wr.heap.size wr).alloc (Nat.le_refl _) (.cells #[.int .i64 kd, .int .i64 n, .int .u64 ((q % 3100 : Nat) : Int), .int .u64 ((s % 1100 : Nat) : Int), .int .u64 ((v % 1100 : Nat) : Int), .slice Ab nb cb] 29)
        have hfz := AskAt.frozen_made wr 29 #[.int .i64 kd, .int .i64 n, .int .u64 ((q % 3100 : Nat) : Int), .int .u64 ((s % 1100 : Nat) : Int), .int .u64 ((v % 1100 : Nat) : Int), .slice Ab nb cb] 1
        have hG : wr.heap.size < (wr.alloc (.cells #[.int .i64 kd, .int .i64 n, .int .u64 ((q % 3100 : Nat) : Int), .int .u64 ((s % 1100 : Nat) : Int), .int .u64 ((v % 1100 : Nat) : Int), .slice Ab nb cb] 29)).heap.size := by simp
        have eq : ((q % 3100 : Nat) : Int) = (q : Int) % 3100 := by omega
        have es : ((s % 1100 : Nat) : Int) = (s : Int) % 1100 := by omega
        have ev : ((v % 1100 : Nat) : Int) = (v : Int) % 1100 := by omega
        rw [← eq, ← es, ← ev]
        generalize q % 3100 = q1 at *
        generalize s % 1100 = s1 at *
        generalize v % 1100 = v1 at *
        clear eq es ev
        generalize wr.alloc (.cells #[.int .i64 kd, .int .i64 n, .int .u64 (q1 : Int), .int .u64 (s1 : Int), .int .u64 (v1 : Int), .slice Ab nb cb] 29) = w9 at *
        have hfar : ∀ i, i < 8 → f i ≠ wr.heap.size := fun i hi => by have := HF.out.lt i hi; omega
        have hlo := HF.out.acc.size
        have F9 := HF.out.below hal
        have hints := (Below.refl w9.heap.size w9).alloc (Nat.le_refl _) (.cells #[.int .i64 1, .int .i64 2, .int .i64 4, .int .i64 8, .int .i64 3, .int .i64 0] 3)
        have F10 := Lib.hid (F9.below hints)
        have hask10 := hask.but hG (but_of hints []) (by simp)
        have hfz10 : (w9.alloc (.cells #[.int .i64 1, .int .i64 2, .int .i64 4, .int .i64 8, .int .i64 3, .int .i64 0] 3)).frozen? ⟨wr.heap.size, 1, none⟩ = false := (hints.frozen (p := ⟨wr.heap.size, 1, none⟩) hG).trans hfz
        have HWC := Lib.hid (wide_cell w9)
        have HFAR := Lib.hid hfar
        have HLO := Lib.hid hlo
        have HA10 := Lib.hid hask10
        clear hfar hlo F9 hints hask hal hfz HAL HF e0 e1 e2 e3 e4 e5
        obtain ⟨k0, k1, k2, k3, k4, k5⟩ := hask10
        generalize wr.heap.size = G at *
        go_wp2_with fail
        go_at_call 9
        generalize w9.alloc (.cells #[.int .i64 1, .int .i64 2, .int .i64 4, .int .i64 8, .int .i64 3, .int .i64 0] 3) = w10 at *
        generalize w9.heap.size = G9 at *
        refine (inside_0_5 n w10).mono ?_
        rintro e wq ⟨⟨r, hr0, hr5, rfl⟩, rfl⟩
        have hwc := HWC.out r hr5
        generalize wideL.getD r 0 = z at hwc
        go_upto_region 14 with fail
        have ha11 := HA10.out.set1 (z := z)
        have HF11 := Lib.hid (F10.out.aside (But.setCell w10 (a := ⟨G, 1, none⟩) (X := [G]) (by simp) (.int .i64 z)) HFAR.out HLO.out)
        have hfz11 : (w10.setCell ⟨G, 1, none⟩ (.int .i64 z)).frozen? ⟨G, 1, none⟩ = false := (World.frozen?_setCell w10 _ _ _).trans hfz10
        have HA11 := Lib.hid ha11
        clear hwc HWC k0 k1 k2 k3 k4 k5 hfz10 HA10 F10 hG
        generalize w10.setCell ⟨G, 1, none⟩ (.int .i64 z) = w11 at *
        obtain ⟨k0, k1, k2, k3, k4, k5⟩ := ha11
        by_cases hkd : kd = 0
        · subst hkd
          have HF12 := Lib.hid (HF11.out.aside (But.setCell w11 (a := ⟨G, 1, none⟩) (X := [G]) (by simp) (.int .i64 (Go.bits .and .i64 z 1))) HFAR.out HLO.out)
          have ha12 := HA11.out.set1 (z := Go.bits .and .i64 z 1)
          obtain ⟨m0, m1, m2, m3, m4, m5⟩ := ha12
          have CD := do_in HF12.out HBI.out 0 (Go.bits .and .i64 z 1) q1 s1 v1
          rw [E0.out, E2.out, E4.out, E6.out] at CD
          have HCD := Lib.hid CD
          clear CD
          go_wp2_with fail
          go_at_call 19
          refine HCD.out.mono ?_
          rintro e w9 ⟨rfl, f', l', g0, g2, g4, g6, hF9⟩
          have E0' := Lib.hid (g0.trans E0.out)
          have E2' := Lib.hid (g2.trans E2.out)
          have E4' := Lib.hid (g4.trans E4.out)
          have E6' := Lib.hid (g6.trans E6.out)
          have HF9 := Lib.hid hF9
          clear g0 g2 g4 g6 hF9
          go_wp2
          go_roundw
          case rel => exact ⟨i + 1, f', l', by go_num, by omega, by omega, E0', E2', E4', E6', HF9⟩
          case measure => simp [intOf]; omega
        · have hkd2 : (kd == 0) = false := by simpa using hkd
          have CD := do_in HF11.out HBI.out kd z q1 s1 v1
          rw [E0.out, E2.out, E4.out, E6.out] at CD
          have HCD := Lib.hid CD
          clear CD
          go_wp2_with fail
          go_at_call 19
          refine HCD.out.mono ?_
          rintro e w9 ⟨rfl, f', l', g0, g2, g4, g6, hF9⟩
          have E0' := Lib.hid (g0.trans E0.out)
          have E2' := Lib.hid (g2.trans E2.out)
          have E4' := Lib.hid (g4.trans E4.out)
          have E6' := Lib.hid (g6.trans E6.out)
          have HF9 := Lib.hid hF9
          clear g0 g2 g4 g6 hF9
          go_wp2
          go_roundw
          case rel => exact ⟨i + 1, f', l', by go_num, by omega, by omega, E0', E2', E4', E6', HF9⟩
          case measure => simp [intOf]; omega
    · have hways : decide (i < N) = false ∨ decide (i < N) = true ∧ decide ((i : Int) < 60) = false := by
        by_cases h1 : i < N
        · exact .inr ⟨by simpa using h1, by simp; omega⟩
        · exact .inl (by simpa using h1)
      clear hlt
      rcases hways with hd | ⟨hd, hd2⟩
      all_goals
        go_upto_region 18 with fail
        have ga := HF.out.a
        have gb := HF.out.b
        rw [E0.out] at ga
        rw [E2.out] at gb
        generalize f 1 = B1 at ga
        generalize f 3 = B3 at gb
        have CB := Lib.hid (bytes_out (ga.next (But.drew [] wr) (by simp) (by simp)))
        obtain ⟨cc, hcc, c0⟩ := gb.cell0
        have HLT := Lib.hid gb.ltP
        have HS := Lib.hid fun (w' : World) (hq : Below wr.heap.size wr w') => says_any (gb.bytes.below hq) l.length cc rfl
        have HBY := Lib.hid ga.byte
        have HACC := Lib.hid HF.out.acc
        have C0 := Lib.hid c0
        clear ga gb hcc HF
        have s0 := HS.out wr.drew (Below.refl _ _).drew
        unfold SaysP at s0 HS
        generalize hL : l.length = L at *
        have HL := Lib.hid hL
        clear hL
        go_region_with (first
           | (go_at_call 12; refine CB.out.mono ?_; rintro e w9 ⟨F2, rfl, hF2, hFb2, hb9⟩
              have hq9 : Below wr.heap.size wr w9 := below_then ((Below.refl _ _).drew) hb9
              have hby9 : Bytes w9 (some ⟨F2, 0, none⟩) l := ⟨HBY.out, fun _ => ⟨F2, 0, rfl, (Array.getElem?_eq_some_iff.1 hFb2).1, fun j hj => by rw [Nat.zero_add, cell_of_row w9 F2 j _ _ _ hFb2]; simp [hj, byt]⟩⟩
              have s9 := says_any hby9 l.length l.length rfl
              unfold SaysP at s9
              have s8 := HS.out w9 hq9
              have c9 : w9.cell? ⟨p2, 0, none⟩ = some (.slice (some ⟨B3, 0, none⟩) L cc) := (hq9.cell (p := ⟨p2, 0, none⟩) HLT.out).trans C0.out
              clear hby9 hFb2))
        all_goals
          go_wp2
          go_ret
          exact ⟨rfl, below_then HACC.out hq9⟩
end Go.Proofs.Ytljhdibnnaepdaa
