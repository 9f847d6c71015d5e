/-
  MatchNested's walk.
-/
import Derived.Test.YthofjcbdmdblpaaKmodule
import Derived.Test.YthofjcbdmdblpaaMcode
import Derived.Test.YthofjcbdmdblpaaMNest
import Derived.Test.YthofjcbdmdblpaaMk
import Derived.BigQuiet
import Derived.Deep.QuietTactic
namespace Go.Proofs.Ythofjcbdmdblpaa
open Go.RowKit

/-- What the first loop wants of one function: its cells, its code, what is found of it. -/
structure FunFacts (w : World) (g o j : Nat) (d : List Int) (out : List Sp) (ty : Int) (Al : Option Addr) (nl cl : Nat) (Ac : Option Addr) (cc : Nat) : Prop where
  c0 : w.cell? ⟨g, o + j * 3, none⟩ = some (.int .i64 ty)
  c1 : w.cell? ⟨g, o + j * 3 + 1, none⟩ = some (.slice Al nl cl)
  c2 : w.cell? ⟨g, o + j * 3 + 2, none⟩ = some (.slice Ac (d.length + 1) cc)
  le : d.length + 1 ≤ cc ∧ d.length + 1 ≤ 900000
  code : CodeAt w Ac (d.length + 1) (d ++ [11])
  nest : nestOf d [] = some []
  out_ : matchP (d ++ [11]) = (out, 0)
theorem fun_facts {w : World} {g o m c : Nat} {l : List Fnc} (h : FunsK (fun k => k < w.heap.size) w (.slice (some ⟨g, o, none⟩) m c) l) (hok : ∀ f ∈ l, fncOk f) (j : Nat) (hj : j < l.length) :
    ∃ d out ty Al nl cl Ac cc, FunFacts w g o j d out ty Al nl cl Ac cc := by
  obtain ⟨Al, nl, cl, Ac, cc, k0, k1, k2, k3, k4⟩ := h.at_ j hj
  obtain ⟨_, _, _, _, hlen, d, hd, hn⟩ := hok _ (fnc_mem l j fnc0 hj)
  obtain ⟨out, ho, _⟩ := nested_facts _ hn
  have e1 : (l.getD j fnc0).code.length = (d.map Ins.op).length + 1 := by rw [hd]; simp
  have e2 : (l.getD j fnc0).code.map Ins.op = d.map Ins.op ++ [11] := by rw [hd]; simp
  rw [e1] at k2 k3 k4 hlen
  rw [e2] at k4
  exact ⟨_, out, _, Al, nl, cl, Ac, cc, k0, k1, k2, ⟨k3, hlen⟩, k4, hn, ho⟩
theorem FunFacts.below {w w' : World} {g o j : Nat} {d : List Int} {out : List Sp} {ty : Int} {Al : Option Addr} {nl cl : Nat} {Ac : Option Addr} {cc : Nat} (h : FunFacts w g o j d out ty Al nl cl Ac cc) (hb : Below w.heap.size w w') : FunFacts w' g o j d out ty Al nl cl Ac cc :=
  ⟨(hb.cell (p := ⟨g, o + j * 3, none⟩) (World.block_lt_of_cell? w _ h.c0)).trans h.c0, (hb.cell (p := ⟨g, o + j * 3 + 1, none⟩) (World.block_lt_of_cell? w _ h.c1)).trans h.c1, (hb.cell (p := ⟨g, o + j * 3 + 2, none⟩) (World.block_lt_of_cell? w _ h.c2)).trans h.c2, h.le, h.code.below hb, h.nest, h.out_⟩
/-- A module that is handed back, as the statements' walks want it: eight slices, the functions. -/
theorem mod_forms {w : World} {v : Mv} {m : Mdl} (h : ModAt (fun k => k < w.heap.size) w v m) (hm : MadeM m) :
    ∃ A0 n0 c0 A1 n1 c1 g2 o2 c2 A3 n3 c3 A4 n4 c4 A5 n5 c5 A6 n6 c6 A7 n7 c7, v = ⟨.slice A0 n0 c0, .slice A1 n1 c1, .slice (some ⟨g2, o2, none⟩) m.funs.length c2, .slice A3 n3 c3, .slice A4 n4 c4, .slice A5 n5 c5, .slice A6 n6 c6, .slice A7 n7 c7⟩ ∧ FunsK (fun k => k < w.heap.size) w (.slice (some ⟨g2, o2, none⟩) m.funs.length c2) m.funs := by
  obtain ⟨v0, v1, v2, v3, v4, v5, v6, v7⟩ := v
  obtain ⟨h0, h1, h2, h3, h4, h5, h6, h7⟩ := h
  simp only at h0 h1 h2 h3 h4 h5 h6 h7
  obtain ⟨A0, n0, c0, rfl⟩ := CellsK.form3 h0
  obtain ⟨A1, n1, c1, rfl⟩ := CellsK.form3 h1
  obtain ⟨A3, n3, c3, rfl⟩ := CellsK.form3 h3
  obtain ⟨A4, n4, c4, rfl⟩ := CellsK.form3 h4
  obtain ⟨A5, n5, c5, rfl⟩ := CellsK.form3 h5
  obtain ⟨A6, n6, c6, rfl⟩ := CellsK.form3 h6
  obtain ⟨A7, n7, c7, rfl⟩ := CellsK.form3 h7
  obtain ⟨g2, o2, c2, rfl, _, _⟩ := CellsK.some_ h2 hm.funs.1.1
  exact ⟨A0, n0, c0, A1, n1, c1, g2, o2, c2, A3, n3, c3, A4, n4, c4, A5, n5, c5, A6, n6, c6, A7, n7, c7, rfl, h2⟩
theorem SpIn.cells {w : World} {A : Option Addr} {n c : Nat} {l : List Sp} (h : SpIn w (.slice A n c) l) (k : Nat) (hk : k < n) : n = l.length ∧ ∃ g, A = some ⟨g, 0, none⟩ ∧ g < w.heap.size ∧ ∀ j, j < n → w.cell? ⟨g, j * 3, none⟩ = some (.int .i64 (spAt l j).1) ∧ w.cell? ⟨g, j * 3 + 1, none⟩ = some (.int .i64 (spAt l j).2.1) ∧ w.cell? ⟨g, j * 3 + 2, none⟩ = some (.int .i64 (spAt l j).2.2) := by
  obtain ⟨A', c', he, _, h2⟩ := h
  simp only [Value.slice.injEq] at he
  obtain ⟨rfl, rfl, rfl⟩ := he
  obtain ⟨g, h3, h4, h5⟩ := h2 (by omega)
  exact ⟨rfl, g, h3, h4, h5⟩

set_option maxRecDepth 100000 in
set_option maxHeartbeats 4000000 in
theorem nested_walk (w : World) (tv : Value) (tl : List Int) (htl : IntsK (fun k => k < w.heap.size) w tv tl) :
    Calls Try.prog 5 #[tv] w (BoolPost true w) := by
  have HM := Lib.hid (module_any w tv tl htl)
  obtain ⟨At, ct, htv, _, _⟩ := htl.form
  clear htl
  rw [htv] at HM ⊢
  clear htv
  generalize tl.length = ntl at *
  go_enter Try.func5, Try.ntmps5
  go_wp2_with fail
  go_at_call 10
  refine HM.out.mono ?_
  rintro e w1 ⟨v, m, rfl, hmm, hma, hb1⟩
  obtain ⟨A0, n0, c0, A1, n1, c1, g2, o2, c2, A3, n3, c3, A4, n4, c4, A5, n5, c5, A6, n6, c6, A7, n7, c7, rfl, hfk⟩ := mod_forms hma hmm
  have HOK := Lib.hid hmm.funs.2
  have hnf := hmm.funs.1
  have HFK := Lib.hid (fun j hj => fun_facts hfk HOK.out j hj)
  obtain ⟨nf, hnf'⟩ : ∃ nf, m.funs.length = nf := ⟨_, rfl⟩
  rw [hnf'] at hnf HFK ⊢
  have HB1 := Lib.hid (below_new hb1 (.cells #[.slice A0 n0 c0, .slice A1 n1 c1, .slice (some ⟨g2, o2, none⟩) nf c2, .slice A3 n3 c3, .slice A4 n4 c4, .slice A5 n5 c5, .slice A6 n6 c6, .slice A7 n7 c7] 39))
  have HB12 := Lib.hid ((Below.refl w1.heap.size w1).alloc (Nat.le_refl _) (.cells #[.slice A0 n0 c0, .slice A1 n1 c1, .slice (some ⟨g2, o2, none⟩) nf c2, .slice A3 n3 c3, .slice A4 n4 c4, .slice A5 n5 c5, .slice A6 n6 c6, .slice A7 n7 c7] 39))
  clear hfk hmm hma hb1 hnf' HM HOK
  simp only [Mv.cells]
  go_wp2_with fail
  generalize w1.alloc (.cells #[.slice A0 n0 c0, .slice A1 n1 c1, .slice (some ⟨g2, o2, none⟩) nf c2, .slice A3 n3 c3, .slice A4 n4 c4, .slice A5 n5 c5, .slice A6 n6 c6, .slice A7 n7 c7] 39) = w2 at HB1 HB12 ⊢
  go_loopw [16] (fun i wr => ∃ j : Nat, j ≤ nf ∧ i = .int .i64 (j : Int) ∧ Hid (Below w2.heap.size w2 wr)) (fun i _ => nf - (intOf i).toNat)
  case atStart => exact ⟨0, Nat.zero_le _, rfl, Lib.hid (Below.refl _ _)⟩
  case round =>
    obtain ⟨j, hj, rfl, HB⟩ := hrel
    obtain ⟨w3, rfl⟩ : ∃ w3, w3 = wr := ⟨_, rfl⟩
    by_cases hlt : j < nf
    · have hd0 : decide ((j : Int) < (nf : Int)) = true := by simp; omega
      obtain ⟨d, out, ty, Al, nl, cl, Ac, cc, hff⟩ := HFK.out j hlt
      have hf3 := hff.below (below_then HB12.out HB.out)
      obtain ⟨k0, k1, k2, hle, hcd, hns, hmp⟩ := hf3
      have HN := Lib.hid hns
      have HMP := Lib.hid hmp
      obtain ⟨out', hmp', hol, hfx⟩ := nested_facts d hns
      obtain rfl : out' = out := by rw [hmp] at hmp'; exact (Prod.mk.inj hmp').1.symm
      have HX := Lib.hid hfx
      obtain ⟨nd, hnd⟩ : ∃ nd, d.length = nd := ⟨_, rfl⟩
      rw [hnd] at k2 hle hcd hol HX
      have HND := Lib.hid hnd
      have hb4 := below_new HB.out (.cells #[.int .i64 ty, .slice Al nl cl, .slice Ac (nd + 1) cc] 43)
      have hcd4 := hcd.below ((Below.refl w3.heap.size w3).alloc (Nat.le_refl _) (.cells #[.int .i64 ty, .slice Al nl cl, .slice Ac (nd + 1) cc] 43))
      have HOF := Lib.hid (of_any _ Ac (nd + 1) cc (d ++ [11]) hcd4 (by simp [hnd]) hle.2 hle.1)
      have HCD := Lib.hid hcd4
      have HB4 := Lib.hid hb4
      have hD : ∀ i : Nat, (w3.alloc (.cells #[.int .i64 ty, .slice Al nl cl, .slice Ac (nd + 1) cc] 43)).cell? ⟨w3.heap.size, i, none⟩ = #[Value.int .i64 ty, .slice Al nl cl, .slice Ac (nd + 1) cc][i]? := fun i => World.cell?_alloc_new w3 _ _ i
      have hD2 := hD 2
      simp only [List.getElem?_toArray, List.getElem?_cons_zero, List.getElem?_cons_succ] at hD2
      have HDL : Hid (w3.heap.size < (w3.alloc (.cells #[.int .i64 ty, .slice Al nl cl, .slice Ac (nd + 1) cc] 43)).heap.size) := Lib.hid (by simp)
      have HD2 := Lib.hid hD2
      clear hff hcd hcd4 hns hmp hmp' hfx hnd hb4 hD hD2
      go_upto_region 5 with (fail)
      generalize hG : w3.heap.size = D at *
      clear hG
      generalize w3.alloc (.cells #[.int .i64 ty, .slice Al nl cl, .slice Ac (nd + 1) cc] 43) = w4 at *
      clear k0 k1 k2
      have hD2 := HD2.out
      go_wp2_with fail
      go_at_call 12
      refine HOF.out.mono ?_
      rintro e w5 ⟨v5, rfl, hs5, hb5⟩
      rw [HMP.out] at hs5 ⊢
      simp only at hs5 ⊢
      obtain ⟨A5', c5', rfl, hl5, _⟩ := id hs5
      obtain ⟨L, hL⟩ : ∃ L, out'.length = L := ⟨_, rfl⟩
      rw [hL] at hs5 hl5 hol HX ⊢
      have HS5 := Lib.hid hs5
      have HB5 := Lib.hid (below_then HB4.out hb5)
      have HCD5 := Lib.hid (HCD.out.below hb5)
      have HD5 := Lib.hid ((hb5.cell (p := ⟨D, 2, none⟩) HDL.out).trans HD2.out)
      clear hs5 hb5 HOF HCD HB4 HMP HD2 HDL hD2 hL
      go_wp2_with fail
      go_loopw [8] (fun i wr => ∃ a : Nat, a ≤ L ∧ i = .int .i64 (a : Int) ∧ Hid (Below w5.heap.size w5 wr)) (fun i _ => L - (intOf i).toNat)
      case atStart => exact ⟨0, Nat.zero_le _, rfl, Lib.hid (Below.refl _ _)⟩
      case round =>
        obtain ⟨a, ha, rfl, HBA⟩ := hrel
        obtain ⟨w6, rfl⟩ : ∃ w6, w6 = wr := ⟨_, rfl⟩
        by_cases hla : a < L
        · have hd1 : decide ((a : Int) < (L : Int)) = true := by simp; omega
          obtain ⟨-, gs, rfl, hgs, hsc⟩ := (HS5.out.below HBA.out).cells a hla
          obtain ⟨s0, s1, s2⟩ := hsc a hla
          obtain ⟨⟨x1, x2, x3, x4⟩, x5, x6⟩ := HX.out a hla
          have HSC := Lib.hid hsc
          have xp : ∀ k, k < a → (spAt out' k).1 < (spAt out' a).1 := fun k hk => ((HX.out k (by omega)).2.2 a hk hla).1
          generalize spAt out' a = s at s0 s1 s2 x1 x2 x3 x4 x5 x6 xp
          obtain ⟨sa, se, sz⟩ := s
          simp only at s0 s1 s2 x1 x2 x3 x4 x5 x6 xp
          obtain ⟨z, rfl⟩ : ∃ z : Nat, sz = z := ⟨sz.toNat, by omega⟩
          obtain ⟨q, rfl⟩ : ∃ q : Nat, sa = q := ⟨sa.toNat, by omega⟩
          rw [Int.toNat_natCast] at x4 x5
          obtain ⟨gc, oc, rfl, hgc, hcc⟩ := (HCD5.out.below HBA.out) (Nat.succ_pos nd)
          obtain ⟨_, _, _, _, _, _, cz, _⟩ := hcc z (by omega)
          obtain ⟨_, _, _, _, _, _, cq, _⟩ := hcc q (by omega)
          rw [x4] at cz
          generalize (d ++ [11]).getD q 0 = X at cq x5
          have d6 := (HBA.out.cell (p := ⟨D, 2, none⟩) (World.block_lt_of_cell? _ _ HD5.out)).trans HD5.out
          have HAL : ∀ p u, w6.cell? p = some u → (w6.alloc (.cells #[.int .i64 (q : Int), .int .i64 se, .int .i64 (z : Int)] 51)).cell? p = some u := fun p u h => by rw [World.cell?_alloc_lt _ _ _ (World.block_lt_of_cell? _ _ h)]; exact h
          have e6 := HAL _ _ d6
          have ez := HAL _ _ cz
          have ecq := HAL _ _ cq
          have HPV : Hid (∀ k, k < L → (w6.alloc (.cells #[.int .i64 (q : Int), .int .i64 se, .int .i64 (z : Int)] 51)).cell? ⟨gs, k * 3, none⟩ = some (.int .i64 (spAt out' k).1) ∧ (w6.alloc (.cells #[.int .i64 (q : Int), .int .i64 se, .int .i64 (z : Int)] 51)).cell? ⟨gs, k * 3 + 2, none⟩ = some (.int .i64 (spAt out' k).2.2)) := fun k hk => ⟨HAL _ _ (HSC.out k hk).1, HAL _ _ (HSC.out k hk).2.2⟩
          have hE : ∀ i : Nat, (w6.alloc (.cells #[.int .i64 (q : Int), .int .i64 se, .int .i64 (z : Int)] 51)).cell? ⟨w6.heap.size, i, none⟩ = #[Value.int .i64 (q : Int), .int .i64 se, .int .i64 (z : Int)][i]? := fun i => World.cell?_alloc_new w6 _ _ i
          have E0 := hE 0
          have E1 := hE 1
          have E2 := hE 2
          simp only [List.getElem?_toArray, List.getElem?_cons_zero, List.getElem?_cons_succ] at E0 E1 E2
          have HB7 := Lib.hid (below_new HBA.out (.cells #[.int .i64 (q : Int), .int .i64 se, .int .i64 (z : Int)] 51))
          have HX6 := Lib.hid x6
          have HXP := Lib.hid xp
          clear hE hsc hcc d6 cz cq x4 x6 xp
          go_upto_region 12 with (fail)
          clear s0 s1 s2 HAL
          generalize w6.heap.size = E at *
          generalize w6.alloc (.cells #[.int .i64 (q : Int), .int .i64 se, .int .i64 (z : Int)] 51) = w7 at *
          go_cut [104] from 34 to 104 (fun c wx => c = .bool false ∧ Hid (Below w7.heap.size w7 wx))
          case first =>
            as_aux_lemma =>
              simp only [List.append_eq, List.cons_append, List.nil_append]
              have t1 : decide ((z : Int) ≤ (q : Int)) = false := by simp; omega
              have t2 : decide (((nd + 1 : Nat) : Int) ≤ (z : Int)) = false := by simp; omega
              have t1n : decide (z ≤ q) = false := by simp; omega
              have t2n : decide (nd + 1 ≤ z) = false := by simp; omega
              have t2m : decide (nd < z) = false := by simp; omega
              have t2i : decide ((nd : Int) + 1 ≤ (z : Int)) = false := by simp; omega
              have tz : (0 : Int) ≤ (z : Int) ∧ (z : Int) < ((nd + 1 : Nat) : Int) := by omega
              have tq : (0 : Int) ≤ (q : Int) ∧ (q : Int) < ((nd + 1 : Nat) : Int) := by omega
              rcases Nat.eq_zero_or_pos a with ha0 | ha0
              case' inl =>
                subst ha0
              case' inr =>
                obtain ⟨k, rfl⟩ : ∃ k, a = k + 1 := ⟨a - 1, by omega⟩
                have p0 := (HPV.out k (by omega)).1
                have p1 := HXP.out k (by omega)
                generalize (spAt out' k).1 = pv at p0 p1
                have t5 : decide ((q : Int) ≤ pv) = false := by simp; omega
                have t6 : decide ((0 : Int) < ((k + 1 : Nat) : Int)) = true := by simp
                have t7 : IntKind.i64.wrap (((k + 1 : Nat) : Int) - 1) = (k : Int) := by rw [show ((k + 1 : Nat) : Int) - 1 = (k : Int) by omega]; exact IntWalk.i64_in _ (by omega)
              all_goals
                rcases x5 with rfl | ⟨y1, y2, y3⟩
                case' inl =>
                  have t3 : decide ((0 : Int) ≤ (-1 : Int)) = false := rfl
                case' inr =>
                  subst y3
                  have t3 : decide ((0 : Int) ≤ se) = true := by simp; omega
                  have t4 : decide (se ≤ (q : Int)) = false := by simp; omega
                  have t8 : decide ((z : Int) ≤ se) = false := by simp; omega
                  clear y1 y2
                all_goals
                  go_big_quiet (fail)
                  go_wp2
                  go_meet
                  exact ⟨rfl, Lib.hid (below_drewN (Below.refl _ _) nq)⟩
          case rest =>
            obtain ⟨rfl, HBC⟩ := hcut
            obtain ⟨w8, rfl⟩ : ∃ w8, w8 = wc := ⟨_, rfl⟩
            have HE0 := Lib.hid ((HBC.out.cell (p := ⟨E, 0, none⟩) (World.block_lt_of_cell? _ _ E0)).trans E0)
            have HE1 := Lib.hid ((HBC.out.cell (p := ⟨E, 1, none⟩) (World.block_lt_of_cell? _ _ E1)).trans E1)
            have HE2 := Lib.hid ((HBC.out.cell (p := ⟨E, 2, none⟩) (World.block_lt_of_cell? _ _ E2)).trans E2)
            clear E0 E1 E2 e6 ez ecq x1 x2 x3 x5 HXP
            go_wp2_with fail
            go_loopw [10] (fun i wr => ∃ b : Nat, a < b ∧ b ≤ L ∧ i = .int .i64 (b : Int) ∧ Hid (Below w8.heap.size w8 wr)) (fun i _ => L - (intOf i).toNat)
            case atStart => exact ⟨a + 1, by omega, by omega, by go_num, Lib.hid (Below.refl _ _)⟩
            case round =>
              obtain ⟨b, hab, hb, rfl, HBB⟩ := hrel
              by_cases hlb : b < L
              · as_aux_lemma =>
                  have hd2 : decide ((b : Int) < (L : Int)) = true := by simp; omega
                  have f0 := (HBB.out.cell (p := ⟨E, 0, none⟩) (World.block_lt_of_cell? _ _ HE0.out)).trans HE0.out
                  have f1 := (HBB.out.cell (p := ⟨E, 1, none⟩) (World.block_lt_of_cell? _ _ HE1.out)).trans HE1.out
                  have f2 := (HBB.out.cell (p := ⟨E, 2, none⟩) (World.block_lt_of_cell? _ _ HE2.out)).trans HE2.out
                  obtain ⟨v0, v2⟩ := HPV.out b hlb
                  have g0 := ((below_then HBC.out HBB.out).cell (p := ⟨gs, b * 3, none⟩) (World.block_lt_of_cell? _ _ v0)).trans v0
                  have g2 := ((below_then HBC.out HBB.out).cell (p := ⟨gs, b * 3 + 2, none⟩) (World.block_lt_of_cell? _ _ v2)).trans v2
                  obtain ⟨r1, r2, r3⟩ := HX6.out b hab hlb
                  clear v0 v2
                  generalize spAt out' b = kb at g0 g2 r1 r2 r3
                  obtain ⟨ka, ke, kz⟩ := kb
                  simp only at g0 g2 r1 r2 r3
                  have hway : (decide (ka < (z : Int)) = false ∧ decide ((0 : Int) ≤ se) = false) ∨ (decide (ka < (z : Int)) = false ∧ decide ((0 : Int) ≤ se) = true ∧ decide (ka < se) = false) ∨ (decide (ka < (z : Int)) = false ∧ decide ((0 : Int) ≤ se) = true ∧ decide (ka < se) = true ∧ decide (se ≤ kz) = false) ∨ (decide (ka < (z : Int)) = true ∧ decide ((z : Int) ≤ kz) = false ∧ decide ((0 : Int) ≤ se) = false) ∨ (decide (ka < (z : Int)) = true ∧ decide ((z : Int) ≤ kz) = false ∧ decide ((0 : Int) ≤ se) = true ∧ decide (ka < se) = false) ∨ (decide (ka < (z : Int)) = true ∧ decide ((z : Int) ≤ kz) = false ∧ decide ((0 : Int) ≤ se) = true ∧ decide (ka < se) = true ∧ decide (se ≤ kz) = false) := by
                    simp only [decide_eq_false_iff_not, decide_eq_true_eq]
                    omega
                  clear r1 r2 r3
                  rcases hway with ⟨t1, t3⟩ | ⟨t1, t3, t4⟩ | ⟨t1, t3, t4, t5⟩ | ⟨t1, t2, t3⟩ | ⟨t1, t2, t3, t4⟩ | ⟨t1, t2, t3, t4, t5⟩
                  all_goals
                    go_wp2_with fail
                    go_big_quiet (fail)
                    have HBQ := Lib.hid (below_drewN HBB.out nq)
                    go_wp2
                    go_roundw
                    case rel => exact ⟨b + 1, by omega, by omega, by go_num, HBQ⟩
                    case measure => simp [intOf]; omega
              · have hd2 : decide ((b : Int) < (L : Int)) = false := by simp; omega
                have HB9 := Lib.hid (below_then HB7.out (below_then HBC.out HBB.out))
                go_wp2_with fail
                go_roundw
                case rel => exact ⟨a + 1, by omega, by go_num, HB9⟩
                case measure => simp [intOf]; omega
        · have hd1 : decide ((a : Int) < (L : Int)) = false := by simp; omega
          have HB9 := Lib.hid (below_then HB5.out HBA.out)
          go_wp2_with fail
          go_roundw
          case rel => exact ⟨j + 1, by omega, by go_num, HB9⟩
          case measure => simp [intOf]; omega
    · have hd0 : decide ((j : Int) < (nf : Int)) = false := by simp; omega
      have HBW := Lib.hid (below_then HB1.out HB.out)
      go_wp2_with fail
      go_at_call 8
      refine (known_any _).mono ?_
      rintro e w9 ⟨rfl, hb9⟩
      go_wp2
      go_ret
      exact ⟨rfl, below_then HBW.out hb9⟩
end Go.Proofs.Ythofjcbdmdblpaa
