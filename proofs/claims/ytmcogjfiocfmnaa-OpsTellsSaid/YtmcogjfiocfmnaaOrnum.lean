/-
  The document's Numeric: what it gives back; how each of its ways ends.
-/
import Derived.Test.YtmcogjfiocfmnaaOrow
namespace Go.Proofs.Ytmcogjfiocfmnaa
open Go.RowKit

/-- What the document's Numeric gives. -/
def RNumPost (op : Int) (w : World) (e : Ending) (w' : World) : Prop :=
  ∃ p q : Value, e = .returned (.tuple #[p, q, .bool (numB op)]) ∧ RowOf w' p (paramsB op) ∧ RowOf w' q (resultsB op) ∧ Below w.heap.size w w'

theorem rnum_end (op : Int) (n : Nat) (hn : 0 < n) (hm : n ≤ 2) (a b : Int) (w : World) (h : numB op = true) (hs : sigB op = (n, a, b)) :
    RNumPost op w (.returned (.tuple #[.slice (some ⟨w.heap.size, 0, none⟩) n n, .slice (some ⟨w.heap.size + 1, 0, none⟩) 1 1, .bool true]))
      ((w.alloc (.cells ((List.replicate n a).map (Value.int .i64)).toArray 3)).alloc (.cells #[.int .i64 b] 3)) := by
  have h1 : paramsB op = List.replicate n a := by unfold paramsB; rw [h, hs]; rfl
  have h2 : resultsB op = [b] := by unfold resultsB; rw [h, hs]; rfl
  refine ⟨_, _, by rw [h], ?_, ?_, ((Below.refl _ _).alloc (Nat.le_refl _) _).alloc (by simp) _⟩
  · rw [h1]
    refine .inr ⟨w.heap.size, n, by simp, by simp; omega, by simpa using hn, by simp; omega, fun j hj => ?_⟩
    rw [World.cell?_alloc_lt _ _ _ (by simp)]
    exact new_cells w 3 (List.replicate n a) j hj
  · rw [h2]
    refine .inr ⟨w.heap.size + 1, 1, rfl, by simp, by simp, by simp, fun j hj => ?_⟩
    have nc := new_cells (w.alloc (.cells ((List.replicate n a).map (Value.int .i64)).toArray 3)) 3 [b] j hj
    rw [show (w.alloc (.cells ((List.replicate n a).map (Value.int .i64)).toArray 3)).heap.size = w.heap.size + 1 by simp] at nc
    exact nc
theorem rnum_end1 (op a b : Int) (w : World) (h : numB op = true) (hs : sigB op = (1, a, b)) :
    RNumPost op w (.returned (.tuple #[.slice (some ⟨w.heap.size, 0, none⟩) 1 1, .slice (some ⟨w.heap.size + 1, 0, none⟩) 1 1, .bool true]))
      ((w.alloc (.cells #[.int .i64 a] 3)).alloc (.cells #[.int .i64 b] 3)) := rnum_end op 1 (by omega) (by omega) a b w h hs
theorem rnum_end2 (op a b : Int) (w : World) (h : numB op = true) (hs : sigB op = (2, a, b)) :
    RNumPost op w (.returned (.tuple #[.slice (some ⟨w.heap.size, 0, none⟩) 2 2, .slice (some ⟨w.heap.size + 1, 0, none⟩) 1 1, .bool true]))
      ((w.alloc (.cells #[.int .i64 a, .int .i64 a] 3)).alloc (.cells #[.int .i64 b] 3)) := rnum_end op 2 (by omega) (by omega) a b w h hs

set_option maxRecDepth 100000 in
theorem rnum_no (op : Int) (h : numB op = false) (w : World) : Calls Try.prog 19 #[.int .i64 op] w (RNumPost op w) := by
  have h1 : paramsB op = [] := by unfold paramsB; rw [h]; rfl
  have h2 : resultsB op = [] := by unfold resultsB; rw [h]; rfl
  have e : isB op = false ∧ isF op = false := by simpa [numB] using h
  have C := fun w => ri_any op w
  have D := fun w => rif_any op w
  rw [e.1] at C
  rw [e.2] at D
  have HC := Lib.hid C
  have HD := Lib.hid D
  have HH := Lib.hid h
  have H1 := Lib.hid h1
  have H2 := Lib.hid h2
  clear C D h h1 h2 e
  go_enter Try.func19, Try.ntmps19
  go_wp2_with (first | (go_at_call 28; refine (HC.out _).mono ?_; rintro e w' ⟨rfl, rfl⟩) | (go_at_call 29; refine (HD.out _).mono ?_; rintro e w' ⟨rfl, rfl⟩))
  go_ret3
  exact ⟨_, _, by rw [HH.out]; rfl, .inl ⟨rfl, H1.out⟩, .inl ⟨rfl, H2.out⟩, Below.refl _ _⟩
end Go.Proofs.Ytmcogjfiocfmnaa
