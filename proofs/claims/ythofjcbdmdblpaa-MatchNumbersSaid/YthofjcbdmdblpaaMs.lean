/-
  What the statements of stage 7 ask of one code: the program's answers and the document's are the same.
-/
import Derived.Test.YthofjcbdmdblpaaMro
import Derived.Test.YthofjcbdmdblpaaMf
namespace Go.Proofs.Ythofjcbdmdblpaa
open Go.RowKit

set_option maxRecDepth 100000 in
set_option maxHeartbeats 2000000 in
theorem same_code (w : World) (A : Option Addr) (n c : Nat) (ops : List Int) (hc : CodeAt w A n ops) (hn : ops.length = n) (hm : n ≤ 900000) (hcn : n ≤ c) :
    Calls Try.prog 7 #[.slice A n c] w (BoolPost true w) := by
  have HO := Lib.hid (of_any w A n c ops hc hn hm hcn)
  have HR := Lib.hid (fun wz (hb : Below w.heap.size w wz) => rof_any wz A n c ops (hc.below hb) hn hm)
  obtain ⟨P, hP⟩ : ∃ P, matchP ops = P := ⟨_, rfl⟩
  have HPP := Lib.hid hP
  clear hP hc hn hm hcn
  go_enter Try.func7, Try.ntmps7
  go_wp2_with fail
  go_at_call 12
  refine HO.out.mono ?_
  rintro e w1 ⟨v1, rfl, hs1, hb1⟩
  rw [HPP.out] at hs1 ⊢
  obtain ⟨A1, c1, rfl, hl1, hc1⟩ := id hs1
  have HS1 := Lib.hid hs1
  have HB1 := Lib.hid hb1
  have HRW := Lib.hid (HR.out w1 hb1)
  clear hs1 hb1 hc1 HO HR
  obtain ⟨L, en⟩ := P
  simp only at HS1 hl1 ⊢
  obtain ⟨m, hm⟩ : ∃ m, L.length = m := ⟨_, rfl⟩
  rw [hm] at HS1 hl1 ⊢
  have HM := Lib.hid hm
  clear hm
  go_wp2_with fail
  go_at_call 13
  refine HRW.out.mono ?_
  rintro e w2 ⟨v2, rfl, hs2, hb2⟩
  rw [HPP.out] at hs2 ⊢
  obtain ⟨A2, c2, rfl, hl2, hc2⟩ := id hs2
  have HS2 := Lib.hid hs2
  have HS1' := Lib.hid (HS1.out.below hb2)
  have HB2 := Lib.hid (below_then HB1.out hb2)
  simp only at HS2 hl2 ⊢
  rw [HM.out] at HS2 hl2 ⊢
  clear hs2 hb2 hc2 HRW HS1 HB1 hl2
  go_wp2_with fail
  go_loopw [7] (fun i wr => ∃ k : Nat, k ≤ m ∧ i = .int .i64 (k : Int) ∧ Hid (Below w2.heap.size w2 wr)) (fun i _ => m - (intOf i).toNat)
  case atStart => exact ⟨0, Nat.zero_le _, rfl, Lib.hid (Below.refl _ _)⟩
  case round =>
    obtain ⟨k, hk, rfl, HBR⟩ := hrel
    by_cases hlt : k < m
    · have hd0 : decide ((k : Int) < (m : Int)) = true := by simp; omega
      have h1 := HS1'.out.below HBR.out
      have h2 := HS2.out.below HBR.out
      obtain ⟨_, _, he1, _, q1⟩ := h1
      obtain ⟨_, _, he2, _, q2⟩ := h2
      simp only [Value.slice.injEq] at he1 he2
      obtain ⟨rfl, -, rfl⟩ := he1
      obtain ⟨rfl, -, rfl⟩ := he2
      obtain ⟨g1, rfl, hg1, p1⟩ := q1 (by rw [HM.out]; omega)
      obtain ⟨g2, rfl, hg2, p2⟩ := q2 (by rw [HM.out]; omega)
      obtain ⟨a1, a2, a3⟩ := p1 k (by rw [HM.out]; exact hlt)
      obtain ⟨b1, b2, b3⟩ := p2 k (by rw [HM.out]; exact hlt)
      generalize spAt L k = s at a1 a2 a3 b1 b2 b3
      obtain ⟨sa, se, sz⟩ := s
      simp only at a1 a2 a3 b1 b2 b3
      clear p1 p2 q1 q2
      go_wp2_with fail
      go_quiet (fail)
      rename_i nq _
      have HBQ := Lib.hid (below_drewN HBR.out nq)
      go_wp2
      go_roundw
      case rel => exact ⟨k + 1, by omega, by go_num, HBQ⟩
      case measure => simp [intOf]; omega
    · obtain ⟨w9, rfl⟩ : ∃ w9, w9 = wr := ⟨_, rfl⟩
      have hd0 : decide ((k : Int) < (m : Int)) = false := by simp; omega
      go_wp2_with fail
      have HB3 := Lib.hid (below_then HB2.out HBR.out)
      have HS13 := Lib.hid (HS1'.out.below HBR.out)
      have HS23 := Lib.hid (HS2.out.below HBR.out)
      clear HBR HB2 HS1' HS2 hd0 hlt hk
      go_loopw [8] (fun i wr2 => ∃ k : Nat, k ≤ 9 ∧ i = .int .i64 ((k : Int) - 1) ∧ Hid (Below w9.heap.size w9 wr2)) (fun i _ => 9 - (intOf i + 1).toNat)
      case atStart => exact ⟨0, by omega, rfl, Lib.hid (Below.refl _ _)⟩
      case round =>
        obtain ⟨j, hj, rfl, HBR⟩ := hrel
        by_cases hlt : j < 9
        · have hd0 : decide ((j : Int) - 1 < 8) = true := by simp; omega
          have HF1 := Lib.hid (find_any wr _ L ((j : Int) - 1) (HS13.out.below HBR.out))
          have HF2 := Lib.hid (fun wz (hz : Below wr.heap.size wr wz) => rfind_any wz _ L ((j : Int) - 1) (HS23.out.below (below_then HBR.out hz)))
          unfold FindPost at HF1 HF2
          generalize findP L ((j : Int) - 1) = q at HF1 HF2
          obtain ⟨⟨sa, se, sz⟩, bb⟩ := q
          simp only at HF1 HF2
          go_wp2_with fail
          go_at_call 14
          refine HF1.out.mono ?_
          rintro e w3 ⟨rfl, hb3⟩
          have HF2b := Lib.hid (HF2.out _ (below_new hb3 (.cells #[.int .i64 sa, .int .i64 se, .int .i64 sz] 51)))
          have HB4 := Lib.hid (below_new (below_then HBR.out hb3) (.cells #[.int .i64 sa, .int .i64 se, .int .i64 sz] 51))
          have HCN := Lib.hid (fun (j : Nat) => World.cell?_alloc_new w3 #[.int .i64 sa, .int .i64 se, .int .i64 sz] 51 j)
          clear HF1 HF2 hb3
          go_wp2_with fail
          go_at_call 15
          refine HF2b.out.mono ?_
          rintro e w4 ⟨rfl, hb4⟩
          have hlt3 : w3.heap.size < (w3.alloc (.cells #[.int .i64 sa, .int .i64 se, .int .i64 sz] 51)).heap.size := by simp
          have hbb := (hb4.alloc hb4.size (.cells #[.int .i64 sa, .int .i64 se, .int .i64 sz] 57))
          have k0 := (hbb.cell (p := ⟨w3.heap.size, 0, none⟩) hlt3).trans (HCN.out 0)
          have k1 := (hbb.cell (p := ⟨w3.heap.size, 1, none⟩) hlt3).trans (HCN.out 1)
          have k2 := (hbb.cell (p := ⟨w3.heap.size, 2, none⟩) hlt3).trans (HCN.out 2)
          simp only [List.getElem?_toArray, List.getElem?_cons_zero, List.getElem?_cons_succ] at k0 k1 k2
          have HB5 := Lib.hid (below_new (below_then HB4.out hb4) (.cells #[.int .i64 sa, .int .i64 se, .int .i64 sz] 57))
          have hbs : (bb != bb) = false := by cases bb <;> rfl
          clear HF2b hb4 HB4 HCN hlt3 hbb
          go_wp2
          go_roundw
          case rel => exact ⟨j + 1, by omega, by simp, HB5⟩
          case measure => simp [intOf]; omega
        · have hd0 : decide ((j : Int) - 1 < 8) = false := by simp; omega
          go_wp2
          go_ret
          exact ⟨rfl, below_then HB3.out HBR.out⟩
end Go.Proofs.Ythofjcbdmdblpaa
