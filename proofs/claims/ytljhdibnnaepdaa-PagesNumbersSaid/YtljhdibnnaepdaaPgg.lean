/-
  The statement that memories grow: its walk.
-/
import Derived.Test.YtljhdibnnaepdaaPgk
import Derived.Test.YtljhdibnnaepdaaKrow
import Derived.Laws.BytesArg
import Derived.Deep.CutBlock
namespace Go.Proofs.Ytljhdibnnaepdaa
open Go.RowKit
variable {p B : Nat} {l : List Nat} {mx : Nat} {w w' : World}

/-! ### Bytes as strings -/
def strP (l : List Nat) : ByteArray := strOfNums (l.map fun x : Nat => (x : Int))
abbrev SaysP (v : Value) (l : List Nat) (w : World) : Prop := (convert 27 9 v).run Try.prog w = .ok (.string (strP l)) w
theorem convP_empty (w : World) (a : Addr) (c : Nat) : (convert 27 9 (.slice (some a) 0 c)).run Try.prog w = .ok (.string (strP [])) w := by
  rw [run_convert_bytes_string w 27 9 5 _ 0 c Try.underlying27 Try.underlying5 Try.underlying9]
  simp [Conv.bytesToString, loadCells, loadCellsFrom, strP, strOfNums]
  rfl
theorem says_any {w : World} {A : Option Addr} {l : List Nat} (h : Bytes w A l) (n c : Nat) (hn : l.length = n) : SaysP (.slice A n c) l w := by
  subst hn
  rcases Nat.eq_zero_or_pos l.length with hl | hl
  · obtain rfl := List.eq_nil_of_length_eq_zero hl
    rcases A with _ | a
    · exact run_convert_bytes_nil w 27 5 Try.underlying27 Try.underlying5 0 c 9 Try.underlying9
    · exact convP_empty w a c
  · obtain ⟨g, o, rfl, _, hcell⟩ := h.2 hl
    exact run_convert_bytes_arg w 27 5 Try.underlying27 Try.underlying5 g o l.length c (l.map fun x : Nat => (x : Int)) (by simp) (fun i hi => by rw [hcell i hi]; simp [List.getD, hi]) 9 Try.underlying9

/-! ### Within -/
def InsideP (lo hi : Nat) (w : World) (e : Ending) (w' : World) : Prop := (∃ r : Nat, lo ≤ r ∧ r ≤ hi ∧ e = .returned (.int .i64 (r : Int))) ∧ w = w'
theorem inside_mk {lo hi : Nat} {z : Int} (h1 : (lo : Int) ≤ z) (h2 : z ≤ (hi : Int)) : ∃ r : Nat, lo ≤ r ∧ r ≤ hi ∧ Ending.returned (.int .i64 z) = .returned (.int .i64 (r : Int)) :=
  ⟨z.toNat, by omega, by omega, ret_int (by omega)⟩
theorem inside_any (n : Int) (lo hi : Nat) (hl : lo ≤ hi) (hh : hi ≤ 1000) (w : World) : Calls Try.prog 9 #[.int .i64 n, .int .i64 (lo : Int), .int .i64 (hi : Int)] w (InsideP lo hi w) := by
  have hz : ((hi : Int) - lo + 1 == 0) = false := by simp; omega
  have h0 : (0 : Int) < (hi : Int) - lo + 1 := by omega
  have t0 := Int.lt_tmod_of_pos n h0
  have t1 := Int.tmod_lt_of_pos n h0
  have e0 := Int.emod_nonneg n (Int.ne_of_gt h0)
  have e1 := Int.emod_lt_of_pos n h0
  go_enter Try.func9, Try.ntmps9
  go_wp2
  all_goals go_ret
  all_goals exact ⟨inside_mk (by omega) (by omega), rfl⟩
theorem inside_1_8 (n : Int) (w : World) : Calls Try.prog 9 #[.int .i64 n, .int .i64 1, .int .i64 8] w (InsideP 1 8 w) := inside_any n 1 8 (by decide) (by decide) w
theorem inside_0_4 (n : Int) (w : World) : Calls Try.prog 9 #[.int .i64 n, .int .i64 0, .int .i64 4] w (InsideP 0 4 w) := inside_any n 0 4 (by decide) (by decide) w

/-! ### What a memory holds behind so many pages -/
def growL (ys : List Nat) (s : Nat) : List Nat := ys ++ List.replicate (1024 * s - ys.length) 0
theorem growL_len (ys : List Nat) (s : Nat) (h : ys.length ≤ 1024 * s) : (growL ys s).length = 1024 * s := by simp [growL]; omega
theorem growL_one (ys : List Nat) : splice (List.replicate (1024 * 1) 0) 0 ys = growL ys 1 := by
  unfold splice growL
  rw [List.take_zero, List.nil_append, Nat.zero_add, List.drop_replicate]
theorem growL_more (ys : List Nat) (s b : Nat) (h : ys.length ≤ 1024 * s) : growL ys s ++ List.replicate (1024 * b) 0 = growL ys (s + b) := by
  unfold growL
  rw [List.append_assoc, List.replicate_append_replicate]
  congr 2
  omega
theorem growL_zero (ys : List Nat) (s j : Nat) (h : ys.length ≤ j) : (growL ys s).getD j 0 = 0 := by
  unfold growL
  rw [List.getD_eq_getElem?_getD, List.getElem?_append_right h, List.getElem?_replicate]
  split <;> rfl
theorem growL_take (ys : List Nat) (s : Nat) : (growL ys s).take ys.length = ys := by unfold growL; simp
theorem pg_put0 (hg : Pg 52 p B (List.replicate (1024 * 1) 0) mx w) (A : Option Addr) (ys : List Nat) (c n : Nat) (hn : ys.length = n) (hb : Bytes w A ys) (h : n ≤ 1024) :
    Calls Try.prog 11 #[.pointer (some ⟨p, 0, none⟩), .int .u64 0, .slice A n c] w (Wrote 52 p B (.bool true) (growL ys 1) mx w) := by
  subst hn
  have h2 := put_yes hg 0 A ys c hb (by rw [List.length_replicate]; omega)
  rw [growL_one ys] at h2
  exact h2

set_option maxHeartbeats 2000000 in
set_option maxRecDepth 10000 in
theorem pgrows_walk (a : Int) (A0 : Option Addr) (l1 : List Nat) (n0 c0 : Nat) (hn0 : l1.length = n0) (hc0 : n0 ≤ c0) (hm0 : n0 ≤ 9223372036854775807) (v2 : Value) (l2 : List Int) (w : World) (hb : Bytes w A0 l1) (hi : IntsK (fun k => k < w.heap.size) w v2 l2) :
    Calls Try.prog 6 #[.int .i64 a, .slice A0 n0 c0, v2] w (BoolPost true w) := by
  obtain ⟨A2, c2, rfl, hm2, _, hcell⟩ := hi
  unfold maxLen at hm2
  have HB := Lib.hid hb
  have HC := Lib.hid hcell
  have HN0 := Lib.hid hn0
  clear hb hcell hn0
  generalize hL2 : l2.length = L2 at *
  have HL2 := Lib.hid hL2
  clear hL2
  go_enter Try.func6, Try.ntmps6
  go_wp2_with fail
  go_at_call 9
  refine (inside_1_8 a w).mono ?_
  rintro e w1 ⟨⟨n, h1, h8, rfl⟩, rfl⟩
  go_wp2_with fail
  go_at_call 10
  refine (show Calls Try.prog 10 #[.int .i64 1, .int .i64 (n : Int)] w (NewYes 52 1 n w) from new_yes 1 n h1 (by omega) w).mono ?_
  rintro e w1 ⟨p, B, rfl, hp, hB, hg, hw⟩
  have HP := Lib.hid hp
  have HBB := Lib.hid hB
  have G := Lib.hid hg
  have HW := Lib.hid hw
  clear hp hB hg hw
  go_upto_if 23 with fail
  go_cut [1] from 21 to 25 (fun v wx => ∃ (A : Option Addr) (ys : List Nat) (k c : Nat), v = .slice A k c ∧ Hid (ys.length = k) ∧ k ≤ 1024 ∧ k ≤ c ∧ Hid (Bytes w A ys) ∧ wx = w1)
  case first =>
    by_cases h60 : n0 ≤ 1024
    · have hd : decide ((1024 : Int) < (n0 : Int)) = false := by simp; omega
      go_wp2
      go_meet
      exact ⟨A0, l1, n0, c0, rfl, HN0, h60, hc0, HB, rfl⟩
    · have hd : decide ((1024 : Int) < (n0 : Int)) = true := by simp; omega
      obtain ⟨g, o, rfl, _, _⟩ := HB.out.2 (by have := HN0.out; omega)
      have hpart := HB.out.part 0 1024 (by rw [HN0.out]; omega) (some ⟨g, o, none⟩) (fun g' o' _ e => by simpa using e)
      rw [List.drop_zero] at hpart
      have HPT := Lib.hid hpart
      clear hpart
      go_wp2
      go_meet
      refine ⟨_, l1.take 1024, 1024, _, rfl, ?_, Nat.le_refl _, ?_, HPT, rfl⟩
      · show _ = _; rw [List.length_take, HN0.out]; omega
      · omega
  case rest =>
    obtain ⟨A, ys, k, c, rfl, HK, hk, hkc, HY, rfl⟩ := hcut
    obtain ⟨w2, rfl⟩ : ∃ w2 : World, w2 = wc := ⟨_, rfl⟩
    clear HB HN0 hc0 hm0
    go_wp2_with fail
    go_at_call 11
    refine (pg_put0 G.out A ys c k HK.out (HY.out.below HW.out) hk).mono ?_
    rintro e w3 ⟨rfl, hb, hg⟩
    have HW3 := Lib.hid (own_step HW.out hb (by intro k hk; simp at hk; subst hk; exact HBB.out))
    have G3 := Lib.hid hg
    clear hb hg
    go_wp2_with fail
    go_loopw [9, 10, 11, 12] (fun vs vi _ _ wr => ∃ (s i B' : Nat), vs = .int .i64 (s : Int) ∧ vi = .int .i64 (i : Int) ∧ 1 ≤ s ∧ s ≤ n ∧ i ≤ 10 ∧ i ≤ L2 ∧ Hid (w.heap.size ≤ B') ∧ Hid (Below w.heap.size w wr) ∧ Hid (Pg 52 p B' (growL ys s) n wr)) (fun _ vi _ _ _ => 10 - (intOf vi).toNat)
    case atStart => exact ⟨1, 0, B, rfl, rfl, Nat.le_refl _, h1, by omega, by omega, HBB, HW3, G3⟩
    case round =>
      obtain ⟨s, i, B', rfl, rfl, hs1, hsn, hi10, hiL, HB', HWr, HG⟩ := hrel
      clear HW3 G3 HW G HBB
      by_cases hlt : i < L2 ∧ i < 10
      · obtain ⟨hlt1, hlt2⟩ := hlt
        obtain ⟨g, o, rfl, hgl, hcl⟩ := HC.out (by omega)
        have hci := (HWr.out.cell (p := ⟨g, o + i, none⟩) hgl).trans (hcl i hlt1)
        generalize l2.getD i 0 = z at hci
        clear hcl
        go_wp2_with fail
        go_at_call 9
        refine (inside_0_4 z wr).mono ?_
        rintro e w4 ⟨⟨b, hb0, hb4, rfl⟩, rfl⟩
        have hys : ys.length ≤ 1024 * s := by have := HK.out; omega
        by_cases hbig : n < s + b
        · have hd : decide (n < s + b) = true := by simp; omega
          go_wp2_with fail
          go_at_call 14
          refine (grow_no HG.out s b (growL_len ys s hys) (.inr (by omega))).mono ?_
          rintro e w5 ⟨rfl, hb, hg⟩
          have HW5 := Lib.hid (own_step HWr.out hb (by intro k hk; simp at hk; subst hk; exact HB'.out))
          have G5 := Lib.hid hg
          clear hb hg
          go_wp2_with fail
          go_at_call 15
          refine (pages_any G5.out s (growL_len ys s hys)).mono ?_
          rintro e w6 ⟨rfl, rfl⟩
          go_wp2_with fail
          go_at_call 16
          refine (max_any G5.out).mono ?_
          rintro e w6 ⟨rfl, rfl⟩
          go_wp2
          go_roundw
          case rel => exact ⟨s, i + 1, B', rfl, by go_num, hs1, hsn, by omega, by omega, HB', HW5, G5⟩
          case measure => simp [intOf]; omega
        · have hd : decide (n < s + b) = false := by simp; omega
          go_wp2_with fail
          go_at_call 14
          refine (grow_yes HG.out s b (growL_len ys s hys) (by omega)).mono ?_
          rintro e w5 ⟨B5, rfl, hb, hB5, hg⟩
          rw [growL_more ys s b hys] at hg
          have HB5 := Lib.hid (show w.heap.size ≤ B5 from hB5.elim (fun h => h ▸ HB'.out) (fun h => Nat.le_trans HWr.out.size h))
          have HW5 := Lib.hid (own_step HWr.out hb (by intro k hk; simp at hk; exact hk.elim (fun h => h ▸ HP.out) (fun h => h ▸ HB'.out)))
          have G5 := Lib.hid hg
          clear hb hg hB5
          go_wp2_with fail
          go_at_call 15
          refine (pages_any G5.out (s + b) (growL_len ys (s + b) (by omega))).mono ?_
          rintro e w6 ⟨rfl, rfl⟩
          go_wp2_with fail
          go_at_call 16
          refine (max_any G5.out).mono ?_
          rintro e w6 ⟨rfl, rfl⟩
          go_wp2
          go_roundw
          case rel => exact ⟨s + b, i + 1, B5, by go_num, by go_num, by omega, by omega, by omega, by omega, HB5, HW5, G5⟩
          case measure => simp [intOf]; omega
      · have hys : ys.length ≤ 1024 * s := by have := HK.out; omega
        have hways : decide (i < L2) = false ∨ decide (i < L2) = true ∧ decide ((i : Int) < 10) = false := by
          by_cases h1 : i < L2
          · exact .inr ⟨by simpa using h1, by simp; omega⟩
          · exact .inl (by simpa using h1)
        clear hlt
        have HYL := Lib.hid hys
        rcases hways with hd | ⟨hd, hd2⟩
        all_goals
          go_wp2_with fail
          go_at_call 12
          refine (bytes_out HG.out).mono ?_
          rintro e w4 ⟨F, rfl, hF, hFb, hb⟩
          have hW4 := below_then HWr.out hb
          have hFby : Bytes w4 (some ⟨F, 0, none⟩) (growL ys s) := ⟨HG.out.byte, fun _ => ⟨F, 0, rfl, (Array.getElem?_eq_some_iff.1 hFb).1, fun j hj => by
            rw [Nat.zero_add, cell_of_row w4 F j _ _ _ hFb]; simp [hj, byt]⟩⟩
          have hpart := hFby.part 0 k (by rw [growL_len ys s hys]; omega) (some ⟨F, 0, none⟩) (fun g o _ e => by simpa using e)
          rw [List.drop_zero, ← HK.out, growL_take] at hpart
          have s1 : ∀ m, SaysP (.slice (some ⟨F, 0, none⟩) k (1024 * s)) ys (w4.drewN m) := fun m => says_any (hpart.below (below_drewN (Below.refl _ _) m)) k (1024 * s) HK.out
          have s2 : ∀ m, SaysP (.slice A k c) ys (w4.drewN m) := fun m => says_any ((HY.out.below hW4).below (below_drewN (Below.refl _ _) m)) k c HK.out
          unfold SaysP at s1 s2
          have hcz : ∀ j, k ≤ j → j < 1024 * s → w4.cell? ⟨F, j, none⟩ = some (.int .u8 0) := fun j h1 h2 => by
            obtain ⟨g, o, e, _, hc⟩ := hFby.2 (by rw [growL_len ys s hys]; omega)
            simp only [Option.some.injEq, Addr.mk.injEq] at e
            obtain ⟨rfl, rfl, _⟩ := e
            have h3 := hc j (by rw [growL_len ys s hys]; exact h2)
            rw [Nat.zero_add, growL_zero ys s j (by rw [HK.out]; exact h1)] at h3
            exact h3
          have HCZ := Lib.hid hcz
          have HW4 := Lib.hid hW4
          rw [growL_len ys s hys]
          obtain ⟨M, hM⟩ : ∃ M, 1024 * s = M := ⟨_, rfl⟩
          have hM2 : (s : Int) * 1024 = (M : Int) := by omega
          have hkM : k ≤ M := by omega
          have hM3 : M ≤ 8192 := by omega
          rw [hM] at s1 HCZ ⊢
          clear hFb hFby hpart hcz hb hW4 hys hM
          generalize strP ys = S at s1 s2
          have hwM : IntKind.i64.wrap (M : Int) = (M : Int) := IntWalk.i64_in _ (by omega)
          have hwS : IntKind.i64.wrap ((s : Int) * 1024) = (M : Int) := by rw [hM2]; exact hwM
          go_upto_region 20 with fail
          go_quiet (fail)
          clear s1 s2 hwM hwS
          have HW5 := Lib.hid (below_drewN HW4.out nq)
          have HCZ5 := Lib.hid (show ∀ j, k ≤ j → j < M → (w4.drewN nq).cell? ⟨F, j, none⟩ = some (.int .u8 0) from fun j h1 h2 => HCZ.out j h1 h2)
          clear HCZ HW4
          generalize w4.drewN nq = w5 at *
          go_wp2_with fail
          go_loop [14] (fun vj => ∃ j : Nat, k ≤ j ∧ j ≤ M ∧ vj = .int .i64 (j : Int)) (fun vj => M - (intOf vj).toNat)
          case atStart => exact ⟨k, Nat.le_refl _, hkM, rfl⟩
          case round =>
            obtain ⟨j, hj1, hj2, rfl⟩ := hrel
            by_cases hlt : j < M
            · have hcj := HCZ5.out j hj1 hlt
              go_wp2
              go_round
              case rel => exact ⟨j + 1, by omega, by omega, by go_num⟩
              case measure => simp [intOf]; omega
            · go_wp2_with (go_at_call 8; refine (pknown_any w5).mono ?_; rintro e w6 ⟨rfl, hb⟩)
              go_ret
              exact ⟨rfl, below_then HW5.out hb⟩
end Go.Proofs.Ytljhdibnnaepdaa
