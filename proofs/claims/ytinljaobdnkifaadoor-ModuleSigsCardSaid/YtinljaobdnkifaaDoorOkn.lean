/-
  Contract of the code's Known: what it gives back, for any number.
-/
import Derived.Test.YtinljaobdnkifaaDoorOrow
import Derived.Test.YtinljaobdnkifaaDoorOaca
namespace Go.Proofs.YtinljaobdnkifaaDoor
open Go.RowKit
/-! ### The document's Known -/
theorem known_num (op : Int) (h : numB op = true) (w : World) : Calls Tryd.prog 39 #[.int .i64 op] w (BoolPost true w) := by
  have A := fun w => numeric_any op w
  rw [h] at A
  have HA := Lib.hid A
  clear A h
  go_enter Tryd.func39, Tryd.ntmps39
  go_wp2_with (go_at_call 69; refine (HA.out _).mono ?_; rintro e w' ⟨rfl, rfl⟩)
  go_ret
  exact ⟨rfl, Below.refl _ _⟩
theorem known_opens (op : Int) (h : numB op = false) (ho : opensB op = true) (w : World) : Calls Tryd.prog 39 #[.int .i64 op] w (BoolPost true w) := by
  have A := fun w => numeric_any op w
  have B := fun w => opens_any op w
  rw [h] at A
  rw [ho] at B
  have HA := Lib.hid A
  have HB := Lib.hid B
  clear A B h ho
  go_enter Tryd.func39, Tryd.ntmps39
  go_wp2_with (first | (go_at_call 69; refine (HA.out _).mono ?_; rintro e w' ⟨rfl, rfl⟩) | (go_at_call 70; refine (HB.out _).mono ?_; rintro e w' ⟨rfl, rfl⟩))
  go_ret
  exact ⟨rfl, Below.refl _ _⟩
theorem known_const (op : Int) (h : numB op = false) (ho : opensB op = false) (hc : (constB op != 0) = true) (w : World) : Calls Tryd.prog 39 #[.int .i64 op] w (BoolPost true w) := by
  have A := fun w => numeric_any op w
  have B := fun w => opens_any op w
  have C := fun w => const_any op w
  rw [h] at A
  rw [ho] at B
  rw [hc] at C
  have HA := Lib.hid A
  have HB := Lib.hid B
  have HC := Lib.hid C
  clear A B C h ho hc
  go_enter Tryd.func39, Tryd.ntmps39
  go_wp2_with (first | (go_at_call 69; refine (HA.out _).mono ?_; rintro e w' ⟨rfl, rfl⟩) | (go_at_call 70; refine (HB.out _).mono ?_; rintro e w' ⟨rfl, rfl⟩) | (go_at_call 71; refine (HC.out _).mono ?_; rintro e w' ⟨rfl, rfl⟩))
  go_ret
  exact ⟨rfl, Below.refl _ _⟩
theorem known_acc (op : Int) (h : numB op = false) (ho : opensB op = false) (hc : (constB op != 0) = false) (ha : (accB op).2.2.2 = true) (w : World) : Calls Tryd.prog 39 #[.int .i64 op] w (BoolPost true w) := by
  have A := fun w => numeric_any op w
  have B := fun w => opens_any op w
  have C := fun w => const_any op w
  have D := fun w => access_any op w
  rw [h] at A
  rw [ho] at B
  rw [hc] at C
  generalize accB op = p at D ha
  obtain ⟨x, y, z, d⟩ := p
  replace ha : d = true := ha
  subst ha
  have HA := Lib.hid A
  have HB := Lib.hid B
  have HC := Lib.hid C
  have HD := Lib.hid D
  clear A B C D h ho hc
  go_enter Tryd.func39, Tryd.ntmps39
  go_wp2_with (first | (go_at_call 69; refine (HA.out _).mono ?_; rintro e w' ⟨rfl, rfl⟩) | (go_at_call 70; refine (HB.out _).mono ?_; rintro e w' ⟨rfl, rfl⟩) | (go_at_call 71; refine (HC.out _).mono ?_; rintro e w' ⟨rfl, rfl⟩) | (go_at_call 72; refine (HD.out _).mono ?_; rintro e w1 ⟨rfl, hb⟩))
  go_ret
  exact ⟨rfl, hb⟩
theorem known_rest (op : Int) (h : numB op = false) (ho : opensB op = false) (hc : (constB op != 0) = false) (ha : (accB op).2.2.2 = false) (w : World) : Calls Tryd.prog 39 #[.int .i64 op] w (BoolPost (restL.contains op) w) := by
  have A := fun w => numeric_any op w
  have B := fun w => opens_any op w
  have C := fun w => const_any op w
  have D := fun w => access_any op w
  have E := fun (g : Nat) (w1 : World) hg => contains_any g 23 23 restL op rfl (by omega) w1 hg
  rw [h] at A
  rw [ho] at B
  rw [hc] at C
  generalize accB op = p at D ha
  obtain ⟨x, y, z, d⟩ := p
  replace ha : d = false := ha
  subst ha
  generalize restL.contains op = r at E
  have HA := Lib.hid A
  have HB := Lib.hid B
  have HC := Lib.hid C
  have HD := Lib.hid D
  have HE := Lib.hid E
  clear A B C D E h ho hc
  go_enter Tryd.func39, Tryd.ntmps39
  go_wp2_with (first | (go_at_call 69; refine (HA.out _).mono ?_; rintro e w' ⟨rfl, rfl⟩) | (go_at_call 70; refine (HB.out _).mono ?_; rintro e w' ⟨rfl, rfl⟩) | (go_at_call 71; refine (HC.out _).mono ?_; rintro e w' ⟨rfl, rfl⟩) | (go_at_call 72; refine (HD.out _).mono ?_; rintro e w1 ⟨rfl, hb⟩))
  refine (HE.out w1.heap.size _ (fun j hj => new_cells w1 3 restL j hj)).mono ?_
  rintro e w' ⟨rfl, rfl⟩
  go_wp2
  go_ret
  exact ⟨rfl, hb.alloc hb.size _⟩
theorem known_any (op : Int) (w : World) : Calls Tryd.prog 39 #[.int .i64 op] w (BoolPost (knownB op) w) := by
  cases h : numB op with
  | true => rw [show knownB op = true by unfold knownB; rw [h]; rfl]; exact known_num op h w
  | false =>
    cases ho : opensB op with
    | true => rw [show knownB op = true by unfold knownB; rw [h, ho]; rfl]; exact known_opens op h ho w
    | false =>
      cases hc : constB op != 0 with
      | true => rw [show knownB op = true by unfold knownB; rw [h, ho, hc]; rfl]; exact known_const op h ho hc w
      | false =>
        cases ha : (accB op).2.2.2 with
        | true => rw [show knownB op = true by unfold knownB; rw [h, ho, hc, ha]; rfl]; exact known_acc op h ho hc ha w
        | false => rw [show knownB op = restL.contains op by unfold knownB; rw [h, ho, hc, ha]; simp]; exact known_rest op h ho hc ha w
end Go.Proofs.YtinljaobdnkifaaDoor
