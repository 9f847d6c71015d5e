/-
  Contract of ops.Numeric: what it gives back, for any number.
-/
import Derived.Test.YtmcogjfiocfmnaaOsh
import Derived.Test.YtmcogjfiocfmnaaOrep
namespace Go.Proofs.Ytmcogjfiocfmnaa
open Go.RowKit

/-- What ops.Numeric gives. -/
def NumPost (op : Int) (w : World) (e : Ending) (w' : World) : Prop :=
  ∃ p q : Value, e = .returned (.tuple #[.agg #[p, q], .bool (numB op)]) ∧ RowOf w' p (paramsB op) ∧ RowOf w' q (resultsB op) ∧ Below w.heap.size w w'

theorem num_no (op : Int) (h : numB op = false) (w : World) : Calls Try.prog 13 #[.int .i64 op] w (NumPost op w) := by
  have h1 : paramsB op = [] := by unfold paramsB; rw [h]; rfl
  have h2 : resultsB op = [] := by unfold resultsB; rw [h]; rfl
  have C := fun w => numeric_any op w
  rw [h] at C
  have HC := Lib.hid C
  have HH := Lib.hid h
  have H1 := Lib.hid h1
  have H2 := Lib.hid h2
  clear C h h1 h2
  go_enter Try.func13, Try.ntmps13
  go_wp2_with (go_at_call 24; refine (HC.out _).mono ?_; rintro e w' ⟨rfl, rfl⟩)
  exact bodyPost_ret (v := .tuple #[.agg #[.slice none 0 0, .slice none 0 0], .bool false]) (by simp [results, Try.results13, go_sem]) rfl
    ⟨_, _, by rw [HH.out], .inl ⟨rfl, H1.out⟩, .inl ⟨rfl, H2.out⟩, (Below.refl _ _).alloc (Nat.le_refl _) _⟩

theorem bcell {W w1 : World} (hb : Below W.heap.size W w1) : (∀ b o, b < W.heap.size → w1.cell? ⟨b, o, none⟩ = W.cell? ⟨b, o, none⟩) ∧ (∀ b o, b < W.heap.size → w1.frozen? ⟨b, o, none⟩ = W.frozen? ⟨b, o, none⟩) :=
  ⟨fun b o h => hb.cell (p := ⟨b, o, none⟩) h, fun b o h => hb.frozen (p := ⟨b, o, none⟩) h⟩

theorem RowOf.setCell {w : World} {ao : Option Addr} {n c : Nat} {xs : List Int} (h : RowOf w (.slice ao n c) xs) (p : Addr) (u : Value) (hp : ∀ a, ao = some a → p.block < a.block) : RowOf (w.setCell p u) (.slice ao n c) xs := by
  rcases h with h | ⟨g, cap, h1, h2, h3, h4, h5⟩
  · exact .inl h
  · refine .inr ⟨g, cap, h1, by simpa [World.setCell] using h2, h3, h4, fun j hj => ?_⟩
    rw [← h5 j hj]
    have hg : p.block < g := by
      have h6 : ao = some ⟨g, 0, none⟩ := by cases h1; rfl
      exact hp _ h6
    exact World.cell?_of_block (Below.heap_setCell _ _ _ _ (by simp; omega))

theorem num_end (op : Int) (w w2 : World) (a b : Int) (n : Nat) (ao : Option Addr) (nn cc : Nat) (h : numB op = true) (h1 : paramsB op = List.replicate n a) (h2 : resultsB op = [b])
    (hrow : RowOf w2 (.slice ao nn cc) (List.replicate n a)) (hfrom : ∀ x, ao = some x → w.heap.size < x.block) (hB : Below (w.heap.size + 1) (w.alloc (.cells #[.slice none 0 0, .slice none 0 0] 29)) w2) :
    NumPost op w (.returned (.tuple #[.agg #[.slice ao nn cc, .slice (some ⟨w2.heap.size, 0, none⟩) 1 1], .bool true]))
      (((w2.setCell ⟨w.heap.size, 0, none⟩ (.slice ao nn cc)).setCell ⟨w.heap.size, 1, none⟩ (.slice (some ⟨w2.heap.size, 0, none⟩) 1 1)).alloc (.cells #[.int .i64 b] 3)) := by
  have hs : w.heap.size + 1 ≤ w2.heap.size := by have := hB.size; simpa using this
  have r1 := (hrow.setCell ⟨w.heap.size, 0, none⟩ (.slice ao nn cc) hfrom).setCell ⟨w.heap.size, 1, none⟩ (.slice (some ⟨w2.heap.size, 0, none⟩) 1 1) hfrom
  have b1 : Below w.heap.size w ((w2.setCell ⟨w.heap.size, 0, none⟩ (.slice ao nn cc)).setCell ⟨w.heap.size, 1, none⟩ (.slice (some ⟨w2.heap.size, 0, none⟩) 1 1)) :=
    ((((Below.refl w.heap.size w).alloc (Nat.le_refl _) _).trans (hB.mono (Nat.le_succ _))).setCell (p := ⟨w.heap.size, 0, none⟩) (Nat.le_refl _) _).setCell (p := ⟨w.heap.size, 1, none⟩) (Nat.le_refl _) _
  have es : ((w2.setCell ⟨w.heap.size, 0, none⟩ (.slice ao nn cc)).setCell ⟨w.heap.size, 1, none⟩ (.slice (some ⟨w2.heap.size, 0, none⟩) 1 1)).heap.size = w2.heap.size := by simp [World.setCell]
  refine ⟨_, _, by rw [h], ?_, ?_, b1.alloc (by rw [es]; omega) _⟩
  · rw [h1]
    exact r1.below ((Below.refl _ _).alloc (Nat.le_refl _) _)
  · rw [h2]
    refine .inr ⟨w2.heap.size, 1, rfl, by simp [es], by simp, by simp, fun j hj => ?_⟩
    have nc := new_cells ((w2.setCell ⟨w.heap.size, 0, none⟩ (.slice ao nn cc)).setCell ⟨w.heap.size, 1, none⟩ (.slice (some ⟨w2.heap.size, 0, none⟩) 1 1)) 3 [b] j hj
    rw [es] at nc
    exact nc

theorem num_yes (op : Int) (h : numB op = true) (w : World) : Calls Try.prog 13 #[.int .i64 op] w (NumPost op w) := by
  have h1 : paramsB op = List.replicate (sigB op).1 (sigB op).2.1 := by unfold paramsB; rw [h]; rfl
  have h2 : resultsB op = [(sigB op).2.2] := by unfold resultsB; rw [h]; rfl
  have h3 := sig_count op h
  have C := fun w => numeric_any op w
  have D := fun w => shape_any op w
  rw [h] at C
  rw [shape_sig op h] at D
  obtain ⟨n, a, b, hs⟩ : ∃ n a b, sigB op = (n, a, b) := ⟨_, _, _, rfl⟩
  rw [hs] at h1 h2 h3
  simp only [hs] at D
  simp only at h1 h2 h3
  have HC := Lib.hid C
  have HH := Lib.hid h
  have H1 := Lib.hid h1
  have H2 := Lib.hid h2
  clear C h h1 h2 hs
  rcases h3 with rfl | rfl
  · have HD := Lib.hid D
    clear D
    go_enter Try.func13, Try.ntmps13
    go_wp2_with (first | (go_at_call 24; refine (HC.out _).mono ?_; rintro e w' ⟨rfl, rfl⟩) | (go_at_call 25; refine (HD.out _).mono ?_; rintro e w1 ⟨rfl, hb1⟩; obtain ⟨hc1, hf1⟩ := bcell hb1; have hz1 : w.heap.size + 1 ≤ w1.heap.size := (by have := hb1.size; simpa using this)))
    refine (repeat_1 a w1.heap.size _ (by simp) (by simp)).mono ?_
    rintro e w2 ⟨v, rfl, hrow, hnew, hb2⟩
    obtain ⟨ao, nn, cc, rfl⟩ := hrow.slice
    have hB : Below (w.alloc (.cells #[.slice none 0 0, .slice none 0 0] 29)).heap.size (w.alloc (.cells #[.slice none 0 0, .slice none 0 0] 29)) w2 :=
      (hb1.alloc hb1.size _).trans (hb2.mono (by simp; omega))
    have f0 : w2.cell? ⟨w.heap.size, 0, none⟩ = some (.slice none 0 0) := (hB.cell (p := ⟨w.heap.size, 0, none⟩) (by simp)).trans (by simp)
    have f1 : w2.cell? ⟨w.heap.size, 1, none⟩ = some (.slice none 0 0) := (hB.cell (p := ⟨w.heap.size, 1, none⟩) (by simp)).trans (by simp)
    have f2 : w2.frozen? ⟨w.heap.size, 0, none⟩ = false := (hB.frozen (p := ⟨w.heap.size, 0, none⟩) (by simp)).trans (by simp [go_sem])
    have f3 : w2.frozen? ⟨w.heap.size, 1, none⟩ = false := (hB.frozen (p := ⟨w.heap.size, 1, none⟩) (by simp)).trans (by simp [go_sem])
    have hz2 : w1.heap.size + 1 ≤ w2.heap.size := by have := hb2.size; simpa using this
    have hz3 : w.heap.size < w2.heap.size := by omega
    clear hc1 hf1
    have hfrom : ∀ x, ao = some x → w.heap.size < x.block := fun x e => by have h := hnew x nn cc (by rw [e]); have e3 : w1.heap.size + 1 ≤ x.block := (by simpa using h); omega
    rw [show (w.alloc (.cells #[.slice none 0 0, .slice none 0 0] 29)).heap.size = w.heap.size + 1 by simp] at hB
    have HB := Lib.hid hB
    have HR := Lib.hid hrow
    have HF := Lib.hid hfrom
    clear hrow hfrom hnew
    clear hb1 hb2 hB
    go_wp2
    exact bodyPost_ret (v := .tuple #[.agg #[.slice ao nn cc, .slice (some ⟨w2.heap.size, 0, none⟩) 1 1], .bool true]) (by simp [results, Try.results13, go_sem, hz3, f0, f1]) rfl (num_end op w w2 a b 1 ao nn cc HH.out H1.out H2.out HR.out HF.out HB.out)
  · have HD := Lib.hid D
    clear D
    go_enter Try.func13, Try.ntmps13
    go_wp2_with (first | (go_at_call 24; refine (HC.out _).mono ?_; rintro e w' ⟨rfl, rfl⟩) | (go_at_call 25; refine (HD.out _).mono ?_; rintro e w1 ⟨rfl, hb1⟩; obtain ⟨hc1, hf1⟩ := bcell hb1; have hz1 : w.heap.size + 1 ≤ w1.heap.size := (by have := hb1.size; simpa using this)))
    refine (repeat_2 a w1.heap.size _ (by simp) (by simp)).mono ?_
    rintro e w2 ⟨v, rfl, hrow, hnew, hb2⟩
    obtain ⟨ao, nn, cc, rfl⟩ := hrow.slice
    have hB : Below (w.alloc (.cells #[.slice none 0 0, .slice none 0 0] 29)).heap.size (w.alloc (.cells #[.slice none 0 0, .slice none 0 0] 29)) w2 :=
      (hb1.alloc hb1.size _).trans (hb2.mono (by simp; omega))
    have f0 : w2.cell? ⟨w.heap.size, 0, none⟩ = some (.slice none 0 0) := (hB.cell (p := ⟨w.heap.size, 0, none⟩) (by simp)).trans (by simp)
    have f1 : w2.cell? ⟨w.heap.size, 1, none⟩ = some (.slice none 0 0) := (hB.cell (p := ⟨w.heap.size, 1, none⟩) (by simp)).trans (by simp)
    have f2 : w2.frozen? ⟨w.heap.size, 0, none⟩ = false := (hB.frozen (p := ⟨w.heap.size, 0, none⟩) (by simp)).trans (by simp [go_sem])
    have f3 : w2.frozen? ⟨w.heap.size, 1, none⟩ = false := (hB.frozen (p := ⟨w.heap.size, 1, none⟩) (by simp)).trans (by simp [go_sem])
    have hz2 : w1.heap.size + 1 ≤ w2.heap.size := by have := hb2.size; simpa using this
    have hz3 : w.heap.size < w2.heap.size := by omega
    clear hc1 hf1
    have hfrom : ∀ x, ao = some x → w.heap.size < x.block := fun x e => by have h := hnew x nn cc (by rw [e]); have e3 : w1.heap.size + 1 ≤ x.block := (by simpa using h); omega
    rw [show (w.alloc (.cells #[.slice none 0 0, .slice none 0 0] 29)).heap.size = w.heap.size + 1 by simp] at hB
    have HB := Lib.hid hB
    have HR := Lib.hid hrow
    have HF := Lib.hid hfrom
    clear hrow hfrom hnew
    clear hb1 hb2 hB
    go_wp2
    exact bodyPost_ret (v := .tuple #[.agg #[.slice ao nn cc, .slice (some ⟨w2.heap.size, 0, none⟩) 1 1], .bool true]) (by simp [results, Try.results13, go_sem, hz3, f0, f1]) rfl (num_end op w w2 a b 2 ao nn cc HH.out H1.out H2.out HR.out HF.out HB.out)
theorem num_any (op : Int) (w : World) : Calls Try.prog 13 #[.int .i64 op] w (NumPost op w) := by
  cases h : numB op with
  | true => exact num_yes op h w
  | false => exact num_no op h w
end Go.Proofs.Ytmcogjfiocfmnaa
