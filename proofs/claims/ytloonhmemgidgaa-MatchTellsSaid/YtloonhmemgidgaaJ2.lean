/-
  What the statements of stage 7 ask of one code: the program's answers and the document's are the same.
  Code that the statements make: rows of instructions of which the number alone is told. 'known'.
  MatchNumbers.
  Code of a module in memory, as the statements of stage 7 read it.
-/
import Derived.Test.YtloonhmemgidgaaJ1
import Derived.Test.YtloonhmemgidgaaKapp
import Derived.Test.YtloonhmemgidgaaMd
import Derived.Test.YtloonhmemgidgaaKrow
import Derived.ChangeSlices
import Derived.WideShapes
import Derived.Carry
import Derived.OpenShut
namespace Go.Proofs.Ytloonhmemgidgaa
open Go.RowKit

set_option maxRecDepth 100000 in
set_option maxHeartbeats 2000000 in
theorem same_code (w : World) (A : Option Addr) (n c : Nat) (ops : List Int) (hc : CodeAt w A n ops) (hn : ops.length = n) (hm : n ≤ 950000) (hcn : n ≤ c) :
    Calls Try.prog 7 #[.slice A n c] w (BoolPost true w) := by
  have HO := Lib.hid (of_any w A n c ops hc hn hm hcn)
  have HR := Lib.hid (fun wz (hb : Below w.heap.size w wz) => rof_any wz A n c ops (hc.below hb) hn hm)
  obtain ⟨P, hP⟩ : ∃ P, matchP ops = P := ⟨_, rfl⟩
  have HPP := Lib.hid hP
  clear hP hc hn hm hcn
  go_enter Try.func7, Try.ntmps7
  go_wp2_with fail
  go_at_call 10
  refine HO.out.mono ?_
  rintro e w1 ⟨v1, rfl, hs1, hb1⟩
  rw [HPP.out] at hs1 ⊢
  obtain ⟨A1, c1, rfl, hl1, hc1⟩ := id hs1
  have HS1 := Lib.hid hs1
  have HB1 := Lib.hid hb1
  have HRW := Lib.hid (HR.out w1 hb1)
  clear hs1 hb1 hc1 HO HR
  obtain ⟨L, en⟩ := P
  simp only at HS1 hl1 ⊢
  obtain ⟨m, hm⟩ : ∃ m, L.length = m := ⟨_, rfl⟩
  rw [hm] at HS1 hl1 ⊢
  have HM := Lib.hid hm
  clear hm
  go_wp2_with fail
  go_at_call 19
  refine HRW.out.mono ?_
  rintro e w2 ⟨v2, rfl, hs2, hb2⟩
  rw [HPP.out] at hs2 ⊢
  obtain ⟨A2, c2, rfl, hl2, hc2⟩ := id hs2
  have HS2 := Lib.hid hs2
  have HS1' := Lib.hid (HS1.out.below hb2)
  have HB2 := Lib.hid (below_then HB1.out hb2)
  simp only at HS2 hl2 ⊢
  rw [HM.out] at HS2 hl2 ⊢
  clear hs2 hb2 hc2 HRW HS1 HB1 hl2
  go_wp2_with fail
  go_loopw [7] (fun i wr => ∃ k : Nat, k ≤ m ∧ i = .int .i64 (k : Int) ∧ Hid (Below w2.heap.size w2 wr)) (fun i _ => m - (intOf i).toNat)
  case atStart => exact ⟨0, Nat.zero_le _, rfl, Lib.hid (Below.refl _ _)⟩
  case round =>
    obtain ⟨k, hk, rfl, HBR⟩ := hrel
    by_cases hlt : k < m
    · have hd0 : decide ((k : Int) < (m : Int)) = true := by simp; omega
      have h1 := HS1'.out.below HBR.out
      have h2 := HS2.out.below HBR.out
      obtain ⟨_, _, he1, _, q1⟩ := h1
      obtain ⟨_, _, he2, _, q2⟩ := h2
      simp only [Value.slice.injEq] at he1 he2
      obtain ⟨rfl, -, rfl⟩ := he1
      obtain ⟨rfl, -, rfl⟩ := he2
      obtain ⟨g1, rfl, hg1, p1⟩ := q1 (by rw [HM.out]; omega)
      obtain ⟨g2, rfl, hg2, p2⟩ := q2 (by rw [HM.out]; omega)
      obtain ⟨a1, a2, a3⟩ := p1 k (by rw [HM.out]; exact hlt)
      obtain ⟨b1, b2, b3⟩ := p2 k (by rw [HM.out]; exact hlt)
      generalize spAt L k = s at a1 a2 a3 b1 b2 b3
      obtain ⟨sa, se, sz⟩ := s
      simp only at a1 a2 a3 b1 b2 b3
      clear p1 p2 q1 q2
      go_wp2_with fail
      go_quiet (fail)
      rename_i nq _
      have HBQ := Lib.hid (below_drewN HBR.out nq)
      go_wp2
      go_roundw
      case rel => exact ⟨k + 1, by omega, by go_num, HBQ⟩
      case measure => simp [intOf]; omega
    · obtain ⟨w9, rfl⟩ : ∃ w9, w9 = wr := ⟨_, rfl⟩
      have hd0 : decide ((k : Int) < (m : Int)) = false := by simp; omega
      go_wp2_with fail
      have HB3 := Lib.hid (below_then HB2.out HBR.out)
      have HS13 := Lib.hid (HS1'.out.below HBR.out)
      have HS23 := Lib.hid (HS2.out.below HBR.out)
      clear HBR HB2 HS1' HS2 hd0 hlt hk
      go_loopw [8] (fun i wr2 => ∃ k : Nat, k ≤ 9 ∧ i = .int .i64 ((k : Int) - 1) ∧ Hid (Below w9.heap.size w9 wr2)) (fun i _ => 9 - (intOf i + 1).toNat)
      case atStart => exact ⟨0, by omega, rfl, Lib.hid (Below.refl _ _)⟩
      case round =>
        obtain ⟨j, hj, rfl, HBR⟩ := hrel
        by_cases hlt : j < 9
        · have hd0 : decide ((j : Int) - 1 < 8) = true := by simp; omega
          have HF1 := Lib.hid (find_any wr _ L ((j : Int) - 1) (HS13.out.below HBR.out))
          have HF2 := Lib.hid (fun wz (hz : Below wr.heap.size wr wz) => rfind_any wz _ L ((j : Int) - 1) (HS23.out.below (below_then HBR.out hz)))
          unfold FindPost at HF1 HF2
          generalize findP L ((j : Int) - 1) = q at HF1 HF2
          obtain ⟨⟨sa, se, sz⟩, bb⟩ := q
          simp only at HF1 HF2
          go_wp2_with fail
          go_at_call 20
          refine HF1.out.mono ?_
          rintro e w3 ⟨rfl, hb3⟩
          have HF2b := Lib.hid (HF2.out _ (below_new hb3 (.cells #[.int .i64 sa, .int .i64 se, .int .i64 sz] 51)))
          have HB4 := Lib.hid (below_new (below_then HBR.out hb3) (.cells #[.int .i64 sa, .int .i64 se, .int .i64 sz] 51))
          have HCN := Lib.hid (fun (j : Nat) => World.cell?_alloc_new w3 #[.int .i64 sa, .int .i64 se, .int .i64 sz] 51 j)
          clear HF1 HF2 hb3
          go_wp2_with fail
          go_at_call 21
          refine HF2b.out.mono ?_
          rintro e w4 ⟨rfl, hb4⟩
          have hlt3 : w3.heap.size < (w3.alloc (.cells #[.int .i64 sa, .int .i64 se, .int .i64 sz] 51)).heap.size := by simp
          have hbb := (hb4.alloc hb4.size (.cells #[.int .i64 sa, .int .i64 se, .int .i64 sz] 87))
          have k0 := (hbb.cell (p := ⟨w3.heap.size, 0, none⟩) hlt3).trans (HCN.out 0)
          have k1 := (hbb.cell (p := ⟨w3.heap.size, 1, none⟩) hlt3).trans (HCN.out 1)
          have k2 := (hbb.cell (p := ⟨w3.heap.size, 2, none⟩) hlt3).trans (HCN.out 2)
          simp only [List.getElem?_toArray, List.getElem?_cons_zero, List.getElem?_cons_succ] at k0 k1 k2
          have HB5 := Lib.hid (below_new (below_then HB4.out hb4) (.cells #[.int .i64 sa, .int .i64 se, .int .i64 sz] 87))
          have hbs : (bb != bb) = false := by cases bb <;> rfl
          clear HF2b hb4 HB4 HCN hlt3 hbb
          go_wp2
          go_roundw
          case rel => exact ⟨j + 1, by omega, by simp, HB5⟩
          case measure => simp [intOf]; omega
        · have hd0 : decide ((j : Int) - 1 < 8) = false := by simp; omega
          go_wp2
          go_ret
          exact ⟨rfl, below_then HB3.out HBR.out⟩
end Go.Proofs.Ytloonhmemgidgaa
namespace Go.Proofs.Ytloonhmemgidgaa
open Go.RowKit

def inCells (x : Int) : List Value := [.int .i64 x, .int .i64 0, .int .i64 0, .int .u64 0, .slice none 0 0]
def flatI (l : List Int) : List Value := l.flatMap inCells
theorem flatI_length (l : List Int) : (flatI l).length = l.length * 5 := by
  induction l with
  | nil => rfl
  | cons x l ih => simp only [flatI, List.flatMap_cons, List.length_append, inCells, List.length_cons, List.length_nil] at ih ⊢; omega
theorem flatI_append (a b : List Int) : flatI (a ++ b) = flatI a ++ flatI b := by simp [flatI]
theorem flatI_at (l : List Int) : ∀ k, k < l.length → (flatI l)[k * 5]? = some (.int .i64 (l.getD k 0)) ∧ (flatI l)[k * 5 + 1]? = some (.int .i64 0) ∧ (flatI l)[k * 5 + 2]? = some (.int .i64 0) ∧ (flatI l)[k * 5 + 3]? = some (.int .u64 0) ∧ (flatI l)[k * 5 + 4]? = some (.slice none 0 0) := by
  induction l with
  | nil => intro k h; simp at h
  | cons x l ih =>
    intro k h
    rw [show flatI (x :: l) = inCells x ++ flatI l from rfl]
    cases k with
    | zero => exact ⟨rfl, rfl, rfl, rfl, rfl⟩
    | succ k =>
      have h3 : (inCells x).length = 5 := rfl
      rw [List.getElem?_append_right (by rw [h3]; omega), List.getElem?_append_right (by rw [h3]; omega), List.getElem?_append_right (by rw [h3]; omega), List.getElem?_append_right (by rw [h3]; omega), List.getElem?_append_right (by rw [h3]; omega), h3, show (k + 1) * 5 - 5 = k * 5 by omega, show (k + 1) * 5 + 1 - 5 = k * 5 + 1 by omega, show (k + 1) * 5 + 2 - 5 = k * 5 + 2 by omega, show (k + 1) * 5 + 3 - 5 = k * 5 + 3 by omega, show (k + 1) * 5 + 4 - 5 = k * 5 + 4 by omega]
      exact ih k (by simp at h; omega)
/-- Code that the call owns. -/
theorem codeAt_owned {T : TypeId} {w : World} {base : Nat} {A : Option Addr} {n c : Nat} {ops : List Int} (h : w.ownsRow base T 5 (.slice A n c) n (flatI ops)) (hn : ops.length = n) : CodeAt w A n ops ∧ n ≤ c := by
  rcases h.2 with ⟨h1, h0⟩ | ⟨g, cap, cur, h1, _, _, h2, _⟩
  · simp only [Value.slice.injEq] at h1
    exact ⟨fun h3 => by omega, by omega⟩
  · simp only [Value.slice.injEq] at h1
    obtain ⟨rfl, -, rfl⟩ := h1
    refine ⟨fun _ => ⟨g, 0, rfl, (h.lt g rfl).2, fun j hj => ?_⟩, h2⟩
    obtain ⟨f0, f1, f2, f3, f4⟩ := flatI_at ops j (by omega)
    rw [Nat.zero_add]
    exact ⟨0, 0, 0, none, 0, 0, by rw [h.cellAt _ (by omega), f0], by rw [h.cellAt _ (by omega), f1], by rw [h.cellAt _ (by omega), f2], by rw [h.cellAt _ (by omega), f3], by rw [h.cellAt _ (by omega), f4]⟩
/-- A literal row of code. -/
theorem codeAt_lit (w : World) (cs : Array Value) (T : TypeId) (ops : List Int) (n : Nat) (hn : ops.length = n) (h : cs = (flatI ops).toArray) : CodeAt (w.alloc (.cells cs T)) (some ⟨w.heap.size, 0, none⟩) n ops := fun _ => by
  subst h
  refine ⟨w.heap.size, 0, rfl, by simp, fun j hj => ?_⟩
  obtain ⟨f0, f1, f2, f3, f4⟩ := flatI_at ops j (by omega)
  rw [Nat.zero_add]
  refine ⟨0, 0, 0, none, 0, 0, ?_, ?_, ?_, ?_, ?_⟩ <;> rw [World.cell?_alloc_new, List.getElem?_toArray] <;> assumption
theorem Try.infoInst5 : (Try.prog.info? 43).map (fun i => (i.zero, i.size, i.bytes)) = some (some (.agg #[.int .i64 0, .int .i64 0, .int .i64 0, .int .u64 0, .slice none 0 0]), 5, 56) := by kernel_rfl

set_option maxRecDepth 100000 in
set_option maxHeartbeats 2000000 in
theorem known_any (w : World) : Calls Try.prog 9 #[] w (BoolPost true w) := by
  have HL1 := Lib.hid (codeAt_lit w #[.int .i64 2, .int .i64 0, .int .i64 0, .int .u64 0, .slice none 0 0, .int .i64 11, .int .i64 0, .int .i64 0, .int .u64 0, .slice none 0 0, .int .i64 11, .int .i64 0, .int .i64 0, .int .u64 0, .slice none 0 0] 43 [2, 11, 11] 3 rfl rfl)
  have HP1 : Hid (matchP [2, 11, 11] = ([(0, -1, 1)], 0)) := Lib.hid (by decide)
  have HP2 : Hid (matchP [] = ([], 12)) := Lib.hid (by decide)
  have HP3 : Hid (matchP [5, 11] = ([], 12)) := Lib.hid (by decide)
  have HB1 := Lib.hid ((Below.refl w.heap.size w).alloc (Nat.le_refl _) (.cells #[.int .i64 2, .int .i64 0, .int .i64 0, .int .u64 0, .slice none 0 0, .int .i64 11, .int .i64 0, .int .i64 0, .int .u64 0, .slice none 0 0, .int .i64 11, .int .i64 0, .int .i64 0, .int .u64 0, .slice none 0 0] 43))
  go_enter Try.func9, Try.ntmps9
  go_wp2_with fail
  go_at_call 10
  refine (of_any _ _ 3 3 _ HL1.out rfl (by omega) (by omega)).mono ?_
  rintro e w1 ⟨v1, rfl, hs1, hb1⟩
  rw [HP1.out] at hs1 ⊢
  have HS1 := Lib.hid hs1
  have HBB := Lib.hid (below_then HB1.out hb1)
  obtain ⟨A1, c1, rfl, _, _⟩ := id hs1
  simp only [List.length_singleton] at HS1 ⊢
  clear HL1 HB1 hb1 hs1
  go_wp2_with fail
  go_at_call 10
  refine (of_any _ none 0 0 [] (fun h => by omega) rfl (by omega) (by omega)).mono ?_
  rintro e w2 ⟨v2, rfl, hs2, hb2⟩
  rw [HP2.out] at hs2 ⊢
  obtain ⟨A2, c2, rfl, _, _⟩ := hs2
  have HS2 := Lib.hid (HS1.out.below hb2)
  have HB2 := Lib.hid (below_then HBB.out hb2)
  have HL3 := Lib.hid (codeAt_lit w2 #[.int .i64 5, .int .i64 0, .int .i64 0, .int .u64 0, .slice none 0 0, .int .i64 11, .int .i64 0, .int .i64 0, .int .u64 0, .slice none 0 0] 43 [5, 11] 2 rfl rfl)
  have HB3 := Lib.hid (HB2.out.alloc HB2.out.size (.cells #[.int .i64 5, .int .i64 0, .int .i64 0, .int .u64 0, .slice none 0 0, .int .i64 11, .int .i64 0, .int .i64 0, .int .u64 0, .slice none 0 0] 43))
  have HS3 := Lib.hid (HS2.out.below ((Below.refl _ _).alloc (Nat.le_refl _) (.cells #[.int .i64 5, .int .i64 0, .int .i64 0, .int .u64 0, .slice none 0 0, .int .i64 11, .int .i64 0, .int .i64 0, .int .u64 0, .slice none 0 0] 43)))
  clear HS1 HBB hb2 HS2 HB2
  go_wp2_with fail
  go_at_call 10
  refine (of_any _ _ 2 2 _ HL3.out rfl (by omega) (by omega)).mono ?_
  rintro e w4 ⟨v3, rfl, hs4, hb4⟩
  rw [HP3.out] at hs4 ⊢
  obtain ⟨A4, c4, rfl, _, _⟩ := hs4
  have HS4 := Lib.hid (HS3.out.below hb4)
  have HB4 := Lib.hid (below_then HB3.out hb4)
  clear HL3 HB3 HS3 hb4
  have HF1 := Lib.hid (find_any w4 _ _ 0 HS4.out)
  unfold FindPost at HF1
  rw [show findP [((0 : Int), (-1 : Int), (1 : Int))] 0 = ((0, -1, 1), true) by decide] at HF1
  go_wp2_with fail
  go_at_call 20
  refine HF1.out.mono ?_
  rintro e w5 ⟨rfl, hb5⟩
  have hb6 := below_new hb5 (.cells #[.int .i64 0, .int .i64 (-1), .int .i64 1] 51)
  have HF2 := Lib.hid (find_any _ _ _ 1 (HS4.out.below hb6))
  unfold FindPost at HF2
  rw [show findP [((0 : Int), (-1 : Int), (1 : Int))] 1 = ((0, 0, 0), false) by decide] at HF2
  have HB6 := Lib.hid (below_then HB4.out hb6)
  have HCN := Lib.hid (fun (j : Nat) => World.cell?_alloc_new w5 #[.int .i64 0, .int .i64 (-1), .int .i64 1] 51 j)
  clear HF1 hb5 hb6 HS4 HB4
  go_wp2_with fail
  go_at_call 20
  refine HF2.out.mono ?_
  rintro e w7 ⟨rfl, hb7⟩
  have hlt3 : w5.heap.size < (w5.alloc (.cells #[.int .i64 0, .int .i64 (-1), .int .i64 1] 51)).heap.size := by simp
  have hbb := (hb7.alloc hb7.size (.cells #[.int .i64 0, .int .i64 0, .int .i64 0] 51))
  have k1 := (hbb.cell (p := ⟨w5.heap.size, 1, none⟩) hlt3).trans (HCN.out 1)
  have k2 := (hbb.cell (p := ⟨w5.heap.size, 2, none⟩) hlt3).trans (HCN.out 2)
  simp only [List.getElem?_toArray, List.getElem?_cons_zero, List.getElem?_cons_succ] at k1 k2
  have HB7 := Lib.hid (below_new (below_then HB6.out hb7) (.cells #[.int .i64 0, .int .i64 0, .int .i64 0] 51))
  clear HF2 hb7 HCN hlt3 hbb HB6
  go_wp2
  go_ret
  exact ⟨rfl, HB7.out⟩
end Go.Proofs.Ytloonhmemgidgaa
namespace Go.Proofs.Ytloonhmemgidgaa
open Go.RowKit

/-- Code that the call makes. -/
def OwnC (W wr : World) (v : Value) (ops : List Int) : Prop := (∃ A c, v = .slice A ops.length c) ∧ wr.ownsRow 0 43 5 v ops.length (flatI ops) ∧ (∀ g, v.ownBlock = some g → W.heap.size ≤ g) ∧ Below W.heap.size W wr
theorem OwnC.nil {W wr : World} (h : Below W.heap.size W wr) : OwnC W wr (.slice none 0 0) [] := ⟨⟨none, 0, rfl⟩, World.ownsRow_nil _ _ _ _, (fun g h => by cases h), h⟩
theorem OwnC.below {W wr w' : World} {v : Value} {ops : List Int} (h : OwnC W wr v ops) (hb : Below wr.heap.size wr w') : OwnC W w' v ops := ⟨h.1, owns_below h.2.1 hb, h.2.2.1, below_then h.2.2.2 hb⟩
theorem OwnC.push {W wr w' : World} {v v' : Value} {ops more : List Int} (h : OwnC W wr v ops) (o : Obj) {m : Nat} {xs : List Value} (ho : w'.ownsRow 0 43 5 v' m xs) (hm : m = (ops ++ more).length) (hx : xs = flatI (ops ++ more)) (hg : (wr.alloc o).grownBy w' v.ownBlock) (hat : v'.ownBlock = v.ownBlock ∨ v'.ownBlock = some (wr.alloc o).heap.size) : OwnC W w' v' (ops ++ more) := by
  subst hm hx
  have hs : (wr.alloc o).heap.size = wr.heap.size + 1 := by simp
  have hb := h.2.2.2.alloc h.2.2.2.size o
  refine ⟨owns_slice ho, ho, fun g hg' => ?_, hb.grown hg hb.size h.2.2.1⟩
  rcases hat with h1 | h1
  · exact h.2.2.1 g (h1 ▸ hg')
  · have := h1.symm.trans hg'
    simp only [Option.some.injEq] at this
    have := h.2.2.2.size
    omega
theorem same_owned {W wr : World} {A : Option Addr} {c n : Nat} {ops : List Int} (h : OwnC W wr (.slice A n c) ops) (hl : ops.length ≤ 950000) : Calls Try.prog 7 #[.slice A n c] wr (BoolPost true wr) := by
  obtain ⟨⟨A', c', he⟩, ho, _⟩ := h
  simp only [Value.slice.injEq] at he
  obtain ⟨rfl, rfl, rfl⟩ := he
  obtain ⟨h1, h2⟩ := codeAt_owned ho rfl
  exact same_code wr _ _ _ ops h1 rfl hl h2
def lit5 : List Int := [2, 4, 5, 11, 1]
def lit4 : List Int := [63, 64, 65, 66]
theorem lit4_le (k : Nat) : ∃ n : Nat, lit4.getD k 0 = (n : Int) ∧ n ≤ 66 := by
  match k with
  | 0 => exact ⟨63, rfl, by omega⟩
  | 1 => exact ⟨64, rfl, by omega⟩
  | 2 => exact ⟨65, rfl, by omega⟩
  | 3 => exact ⟨66, rfl, by omega⟩
  | k + 4 => exact ⟨0, rfl, by omega⟩
theorem lit_cell (w : World) (l : List Int) (t : TypeId) (r : Nat) (h : r < l.length) : (w.alloc (.cells (l.map (Value.int .i64)).toArray t)).cell? ⟨w.heap.size, r, none⟩ = some (.int .i64 (l.getD r 0)) := by
  rw [World.cell?_alloc_new]; simp [h]

end Go.Proofs.Ytloonhmemgidgaa
namespace Go.Proofs.Ytloonhmemgidgaa
open Go.RowKit

theorem CodeK.code {w : World} {v : Value} {c : List Ins} (h : CodeK (fun k => k < w.heap.size) w v c) : ∃ A cap, v = .slice A c.length cap ∧ c.length ≤ cap ∧ CodeAt w A c.length (c.map Ins.op) := by
  obtain ⟨A, cap, rfl, h1, _, _, h3⟩ := h
  refine ⟨A, cap, rfl, h1, fun hm => ?_⟩
  obtain ⟨g, o, rfl, hg, hc⟩ := h3 hm
  refine ⟨g, o, rfl, hg, fun j hj => ?_⟩
  have hop : (c.map Ins.op).getD j 0 = (c.getD j ins0).op := by
    rw [List.getD_eq_getElem?_getD, List.getD_eq_getElem?_getD, List.getElem?_map, List.getElem?_eq_getElem hj]; rfl
  obtain ⟨u0, k0, rfl⟩ := hc j 0 hj (by omega)
  obtain ⟨u1, k1, rfl⟩ := hc j 1 hj (by omega)
  obtain ⟨u2, k2, rfl⟩ := hc j 2 hj (by omega)
  obtain ⟨u3, k3, rfl⟩ := hc j 3 hj (by omega)
  obtain ⟨u4, k4, h4⟩ := hc j 4 hj (by omega)
  obtain ⟨Al, cl, rfl, _⟩ := IntsK.form h4
  rw [hop]
  exact ⟨_, _, _, Al, _, cl, k0, k1, k2, k3, k4⟩
/-- A function in the row: what its cells hold. -/
theorem FunsK.at_ {w : World} {g o m c : Nat} {l : List Fnc} (h : FunsK (fun k => k < w.heap.size) w (.slice (some ⟨g, o, none⟩) m c) l) (j : Nat) (hj : j < l.length) :
    ∃ (Al : Option Addr) (nl cl : Nat) (Ac : Option Addr) (cc : Nat), w.cell? ⟨g, o + j * 3, none⟩ = some (.int .i64 (l.getD j fnc0).ty) ∧ w.cell? ⟨g, o + j * 3 + 1, none⟩ = some (.slice Al nl cl) ∧ w.cell? ⟨g, o + j * 3 + 2, none⟩ = some (.slice Ac (l.getD j fnc0).code.length cc) ∧ (l.getD j fnc0).code.length ≤ cc ∧ CodeAt w Ac (l.getD j fnc0).code.length ((l.getD j fnc0).code.map Ins.op) := by
  obtain ⟨u0, k0, rfl⟩ := CellsK.at_ h j 0 hj (by omega)
  obtain ⟨u1, k1, h1⟩ := CellsK.at_ h j 1 hj (by omega)
  obtain ⟨u2, k2, h2⟩ := CellsK.at_ h j 2 hj (by omega)
  obtain ⟨Al, cl, rfl, _⟩ := IntsK.form h1
  obtain ⟨Ac, cc, rfl, hcc, hcd⟩ := CodeK.code h2
  exact ⟨Al, _, cl, Ac, cc, k0, k1, k2, hcc, hcd⟩
theorem fnc_mem {α : Type} (l : List α) (j : Nat) (d : α) (h : j < l.length) : l.getD j d ∈ l := by
  rw [List.getD_eq_getElem?_getD, List.getElem?_eq_getElem h]; exact List.getElem_mem h

/-! ### A slice of ints that comes in -/
open Go.ChangeShapes Go.WideShapes

theorem Try.laidOutAll : laidOutB Try.prog = true := by kernel_rfl
theorem Try.cells_int : Try.prog.cellsOf 3 = 1 := by kernel_rfl
set_option maxRecDepth 100000 in
theorem open_intsK {H : Type} {enc : TypeId × Value → H} {W : World} {r : Reach} {b0 : Nat} {v : Value} {d : DataW H} {ps : List MemPlace} (hval : Value.okWide Try.prog W r b0 22 v)
    (h : DataW.Trod enc Try.prog W 0 (fun _ => true) true 22 v d ps) :
    ∃ l : List Int, IntsK (fun k => k < W.heap.size) W v l ∧ ∀ z ∈ l, (Lit.int .i64 z).wf = true := by
  obtain ⟨a0, len, cap, rfl⟩ := okWide_slice Try.underlying22 hval
  obtain ⟨fuel, hf⟩ := h
  rcases open_ints Try.underlying22 Try.underlying3 Try.cells_int hf with ⟨hcs, _⟩ | ⟨a, len', cap', zs, hcs, _, hl, hm, hz, _, hcell, hwz⟩
  · simp [Value.cells] at hcs
    obtain ⟨rfl, rfl, rfl⟩ := hcs
    exact ⟨[], IntsK.nil _ W, by simp⟩
  · simp [Value.cells] at hcs
    obtain ⟨rfl, rfl, rfl⟩ := hcs
    simp only [if_true] at hz
    have hlen : (zs.take len).length = len := by rw [List.length_take]; omega
    refine ⟨zs.take len, ⟨some a, cap, by rw [hlen], by rw [hlen]; omega, (fun h => by cases h), fun h0 => ?_⟩, fun z hzm => hwz z (List.mem_of_mem_take hzm)⟩
    rw [hlen] at h0
    have c0 := hcell 0 (by omega)
    have hspot : a.spot = none := by
      have e : a.add 0 = a := by unfold Addr.add; simp
      rw [e] at c0
      unfold World.cell? at c0
      split at c0
      · split at c0
        · cases c0
        · rename_i h2; simpa using h2
      · cases c0
    obtain ⟨g, o, sp⟩ := a
    obtain rfl : sp = none := hspot
    refine ⟨g, o, rfl, World.block_lt_of_cell? W _ (by rw [Addr.add_lit] at c0; exact c0), fun j hj => ?_⟩
    rw [hlen] at hj
    have cj := hcell j (by omega)
    rw [Addr.add_lit] at cj
    rw [cj, List.getD_eq_getElem?_getD, List.getD_eq_getElem?_getD, List.getElem?_take, if_pos hj]
end Go.Proofs.Ytloonhmemgidgaa
