/-
  Contracts of HasPrefix, CutPrefix.
-/
import Derived.Test.YtmcippkhfjgkoaaDoorTstr
namespace Go.Proofs.YtmcippkhfjgkoaaDoor
open Go.RowKit

/-- Does s begin with p? As the walk says it. -/
def preS (s p : ByteArray) : Bool := decide (p.size ≤ s.size) && ((s.extract 0 p.size).toList == p.toList)
theorem preS_yes {s p : ByteArray} (h : preS s p = true) : nums s = nums p ++ nums (s.extract p.size s.size) := by
  unfold preS at h
  rw [Bool.and_eq_true, decide_eq_true_eq, nums_beq, decide_eq_true_eq, nums_extract, List.drop_zero, Nat.sub_zero] at h
  rw [nums_extract, List.take_of_length_le (by rw [List.length_drop, nums_length]; exact Nat.le_refl _)]
  exact (List.take_append_drop p.size (nums s)).symm.trans (by rw [h.2])
theorem preS_no {s p : ByteArray} (h : preS s p = false) (t : List Nat) : nums s ≠ nums p ++ t := by
  intro he
  have h1 : preS s p = true := by
    unfold preS
    have hl := congrArg List.length he
    rw [List.length_append, nums_length, nums_length] at hl
    rw [Bool.and_eq_true, decide_eq_true_eq, nums_beq, decide_eq_true_eq, nums_extract, List.drop_zero, Nat.sub_zero, he, List.take_append_of_le_length (by rw [nums_length]; exact Nat.le_refl _), List.take_of_length_le (by rw [nums_length]; exact Nat.le_refl _)]
    exact ⟨by omega, rfl⟩
  rw [h] at h1; cases h1

theorem hasPrefix_any (s p : ByteArray) (b : Bool) (hb : preS s p = b) (w : World) :
    Calls Tryd.prog 25 #[.string s, .string p] w fun e w' => e = .returned (.bool b) ∧ w = w' := by
  have HB := Lib.hid hb
  clear hb
  go_enter Tryd.func25, Tryd.ntmps25
  go_wp2
  · rename_i h
    go_ret
    refine ⟨?_, rfl⟩
    rw [← HB.out]
    unfold preS
    show Ending.returned (Value.bool ((s.extract 0 p.size).toList == p.toList)) = _
    simp [h]
  · rename_i h
    go_ret
    refine ⟨?_, rfl⟩
    rw [← HB.out]
    unfold preS
    show Ending.returned (Value.bool false) = _
    simp [h]

/-- What CutPrefix gives. -/
def CutPost (s p : ByteArray) (w : World) (e : Ending) (w' : World) : Prop :=
  (e = .returned (.tuple #[.string (s.extract p.size s.size), .bool true]) ∧ preS s p = true ∨ e = .returned (.tuple #[.string s, .bool false]) ∧ preS s p = false) ∧ w = w'
theorem cutLite_any (s p : ByteArray) (w : World) : Calls Tryd.prog 22 #[.string s, .string p] w (CutPost s p w) := by
  cases hb : preS s p with
  | true =>
    have H := fun w => hasPrefix_any s p _ hb w
    have hle : p.size ≤ s.size := by unfold preS at hb; rw [Bool.and_eq_true, decide_eq_true_eq] at hb; exact hb.1
    have HH := Lib.hid H
    have HB := Lib.hid hb
    clear H hb
    go_enter Tryd.func22, Tryd.ntmps22
    go_wp2_with (go_at_call 25; refine (HH.out _).mono ?_; rintro e w' ⟨rfl, rfl⟩)
    go_ret2
    exact ⟨.inl ⟨rfl, HB.out⟩, rfl⟩
  | false =>
    have HH := Lib.hid (fun w => hasPrefix_any s p _ hb w)
    have HB := Lib.hid hb
    clear hb
    go_enter Tryd.func22, Tryd.ntmps22
    go_wp2_with (go_at_call 25; refine (HH.out _).mono ?_; rintro e w' ⟨rfl, rfl⟩)
    go_ret2
    exact ⟨.inr ⟨rfl, HB.out⟩, rfl⟩
theorem cut_any (s p : ByteArray) (w : World) : Calls Tryd.prog 16 #[.string s, .string p] w (CutPost s p w) := by
  have H := Lib.hid (fun w => cutLite_any s p w)
  go_enter Tryd.func16, Tryd.ntmps16
  go_wp2_with (go_at_call 22; refine (H.out _).mono ?_; rintro e w' ⟨⟨rfl, hb⟩ | ⟨rfl, hb⟩, rfl⟩)
  · go_ret2
    exact ⟨.inl ⟨rfl, hb⟩, rfl⟩
  · go_ret2
    exact ⟨.inr ⟨rfl, hb⟩, rfl⟩
end Go.Proofs.YtmcippkhfjgkoaaDoor
