/-
  What TextJoins' walk wants: slices from a place on, a row of the call's own that grows.
-/
import Derived.Test.YtmcippkhfjgkoaaDoorTkn
import Derived.Test.YtmcippkhfjgkoaaDoorTlnum
import Derived.Test.YtmcippkhfjgkoaaDoorTapp
import Derived.Laws.OwnMore
namespace Go.Proofs.YtmcippkhfjgkoaaDoor
open Go.RowKit

theorem slice_from (gx kx cx q : Nat) (hq : q ≤ kx) (hk : kx ≤ cx) :
    ∃ AX : Addr, (∀ w : World, (Instr.slice 23 (.slice (some ⟨gx, 0, none⟩) kx cx) (some (.int .i64 (q : Int))) none none).run Tryd.prog w = .ok (.slice (some AX) (kx - q) (cx - q)) w) ∧
      ∀ (w : World) (l : List Nat), l.length = kx → Bytes w (some ⟨gx, 0, none⟩) l → Bytes w (some AX) (l.drop q) := by
  by_cases hc : cx = q
  · refine ⟨⟨gx, 0, none⟩, fun w => ?_, fun w l hl hb => ?_⟩
    · go_simp
    · rw [List.drop_of_length_le (by omega)]; exact Bytes.nil w _
  · refine ⟨⟨gx, q, none⟩, fun w => ?_, fun w l hl hb => ?_⟩
    · go_simp
    · have h := bytes_drop hb q (by omega)
      rwa [Nat.zero_add] at h
theorem or128 (c : Nat) (hc : c < 256) : ∃ y : Nat, Go.bits .or .u8 (c : Int) 128 = (y : Int) ∧ 128 ≤ y ∧ y < 256 :=
  ⟨c ||| 128, (by decide +kernel : ∀ k : Fin 256, Go.bits .or .u8 (k.val : Int) 128 = ((k.val ||| 128 : Nat) : Int) ∧ 128 ≤ k.val ||| 128 ∧ k.val ||| 128 < 256) ⟨c, hc⟩⟩
theorem empty_own (w : World) (base : Nat) (hb : base ≤ w.heap.size) : (w.alloc (.cells #[] 5)).ownsRow base 5 1 (.slice (some ⟨w.heap.size, 0, none⟩) 0 0) 0 (([] : List Nat).map byt) :=
  World.ownsRow_lit w #[] 0 hb (Nat.zero_le _) rfl
theorem Appended.goes {w w' : World} {base g g' n m cap' : Nat} {xs ys : List Nat} (h : Appended w w' base g g' n m cap' xs ys) (hg : base ≤ g) (hb : base ≤ w.heap.size) : base ≤ g' ∧ base ≤ w'.heap.size := by
  have := h.grown.size
  rcases h.at_ with h1 | h1 <;> omega
end Go.Proofs.YtmcippkhfjgkoaaDoor
