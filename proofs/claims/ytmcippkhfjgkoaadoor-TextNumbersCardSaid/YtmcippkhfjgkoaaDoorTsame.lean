/-
  Contract of what the statements about text share: 'same' is always true.
-/
import Derived.Test.YtmcippkhfjgkoaaDoorTref
namespace Go.Proofs.YtmcippkhfjgkoaaDoor
open Go.RowKit

abbrev SameSays (A : Option Addr) (n cap : Nat) (z : Int) (w : World) : Prop := ∀ w1, Below w.heap.size w w1 →
  Calls Tryd.prog 14 #[.slice A n cap] w1 (ValPost (.int .i64 z) w1) ∧ Calls Tryd.prog 12 #[.slice A n cap] w1 (ValPost (.int .i64 z) w1) ∧ Calls Tryd.prog 13 #[.slice A n cap] w1 (BoolPost (decide (0 ≤ z)) w1)
theorem same_of (A : Option Addr) (n cap : Nat) (z : Int) (b : Bool) (hz : decide (0 ≤ z) = b) (w : World) (h : SameSays A n cap z w) : Calls Tryd.prog 7 #[.slice A n cap] w (BoolPost true w) := by
  have H := Lib.hid h
  have hnx : Below w.heap.size w w := Below.refl _ _
  clear h
  cases b with
  | true =>
    go_enter Tryd.func7, Tryd.ntmps7
    go_wp2_with (first
      | (go_at_call 14; refine (H.out _ hnx).1.mono ?_; rintro e w1 ⟨rfl, hb⟩; replace hnx := below_then hnx hb; clear hb)
      | (go_at_call 13; refine (H.out _ hnx).2.2.mono ?_; rintro e w2 ⟨rfl, hb⟩; replace hnx := below_then hnx hb; clear hb)
      | (go_at_call 12; refine (H.out _ hnx).2.1.mono ?_; rintro e w3 ⟨rfl, hb⟩; replace hnx := below_then hnx hb; clear hb))
    all_goals go_ret
    all_goals exact ⟨rfl, hnx⟩
  | false =>
    go_enter Tryd.func7, Tryd.ntmps7
    go_wp2_with (first
      | (go_at_call 14; refine (H.out _ hnx).1.mono ?_; rintro e w1 ⟨rfl, hb⟩; replace hnx := below_then hnx hb; clear hb)
      | (go_at_call 13; refine (H.out _ hnx).2.2.mono ?_; rintro e w2 ⟨rfl, hb⟩; replace hnx := below_then hnx hb; clear hb)
      | (go_at_call 12; refine (H.out _ hnx).2.1.mono ?_; rintro e w3 ⟨rfl, hb⟩; replace hnx := below_then hnx hb; clear hb))
    all_goals go_ret
    all_goals exact ⟨rfl, hnx⟩
theorem same_any (A : Option Addr) (n cap : Nat) (l : List Nat) (hl : l.length = n) (hcap : n ≤ cap) (hn : n ≤ 1000000) (w : World) (htab : Tab w) (hb : Bytes w A l) :
    Calls Tryd.prog 7 #[.slice A n cap] w (BoolPost true w) :=
  same_of A n cap (cntI l) _ rfl w fun w1 h1 => ⟨signs_any A n cap l hl hcap hn w1 (hb.below h1), count_any A n cap l hl hcap hn w1 (htab.below h1) (hb.below h1), right_any A n cap l hl hcap hn w1 (htab.below h1) (hb.below h1)⟩
end Go.Proofs.YtmcippkhfjgkoaaDoor
