/-
  Contract of what the statements about leb share: 'reads' is always true.
-/
import Derived.Test.YtebnlblkjdopaaaLrefS
namespace Go.Proofs.Ytebnlblkjdopaaa
open Go.RowKit

set_option maxRecDepth 100000 in
theorem reads_any (A : Option Addr) (n cap : Nat) (l : List Nat) (hl : l.length = n) (hc : n ≤ cap) (hn : n ≤ 1000000) (p bits : Int) (w : World) (hb : Bytes w A l) :
    Calls Try.prog 11 #[.slice A n cap, .int .i64 p, .int .i64 bits] w (BoolPost true w) := by
  have R := fun w (hb : Bytes w A l) => readU_any A n cap l hl hc hn p bits w hb
  have S := fun w (hb : Bytes w A l) => rreadU_any A n cap l hl hc hn p bits w hb
  have T := fun w (hb : Bytes w A l) => readS_any A n cap l hl hc hn p bits w hb
  have V := fun w (hb : Bytes w A l) => rreadS_any A n cap l hl hc hn p bits w hb
  unfold rU at R S
  unfold rS at T V
  generalize numU l p bits = a at R S
  generalize endU l p bits = b at R S
  generalize okU l p bits = c at R S
  generalize numS l p bits = d at T V
  generalize endS l p bits = e at T V
  generalize okS l p bits = f at T V
  have HR := Lib.hid R
  have HS := Lib.hid S
  have HT := Lib.hid T
  have HV := Lib.hid V
  have HB := Lib.hid hb
  clear R S T V hb hl
  have hnx : Below w.heap.size w w := Below.refl _ _
  go_enter Try.func11, Try.ntmps11
  go_wp2_with (first
    | (go_at_call 16; refine (HR.out _ (HB.out.below hnx)).mono ?_; rintro e w1 ⟨rfl, hb⟩; replace hnx := below_then hnx hb; clear hb)
    | (go_at_call 18; refine (HS.out _ (HB.out.below hnx)).mono ?_; rintro e w2 ⟨rfl, hb⟩; replace hnx := below_then hnx hb; clear hb)
    | (go_at_call 17; refine (HT.out _ (HB.out.below hnx)).mono ?_; rintro e w3 ⟨rfl, hb⟩; replace hnx := below_then hnx hb; clear hb)
    | (go_at_call 19; refine (HV.out _ (HB.out.below hnx)).mono ?_; rintro e w4 ⟨rfl, hb⟩; replace hnx := below_then hnx hb; clear hb))
  all_goals go_ret
  all_goals exact ⟨rfl, hnx⟩
end Go.Proofs.Ytebnlblkjdopaaa
