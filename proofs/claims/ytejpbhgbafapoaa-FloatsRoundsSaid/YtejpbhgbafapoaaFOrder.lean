/-
  FloatsOrder: whatever the two words, the statement's function returns true: the walk, and what is true of order.
-/
import Derived.Test.YtejpbhgbafapoaaFs
namespace Go.Proofs.Ytejpbhgbafapoaa
open Go.RowKit

theorem wq_self (a : BitVec 64) (h : isNaN a.toNat = false) : Wq (some a.toNat) = a := by
  unfold Wq
  have e : qz (some a.toNat) = a.toNat := by
    change (if isNaN a.toNat = true then 9221120237041090560 else a.toNat) = _
    rw [h]; rfl
  rw [e, BitVec.ofNat_toNat, BitVec.setWidth_eq]
theorem wq_none : Wq none = 9221120237041090560#64 := rfl
theorem tw_no : U (tw false) = 0 := rfl
theorem tw_yes : U (tw true) = 1 := rfl

/-- What the comparisons and the lesser and the greater one give, in the five ways. -/
def OrderFacts (a b : BitVec 64) (lt gt eq ne le : Bool) (lo hi : BitVec 64) : Prop :=
  cmpF 99 a.toNat b.toNat = lt ∧ cmpF 100 a.toNat b.toNat = gt ∧ cmpF 97 a.toNat b.toNat = eq ∧ cmpF 98 a.toNat b.toNat = ne ∧ cmpF 101 a.toNat b.toNat = le ∧
  Wq (bothF 164 a.toNat b.toNat) = lo ∧ Wq (bothF 165 a.toNat b.toNat) = hi
theorem facts_none (a b : BitVec 64) (h : Ieee.double.order a.toNat b.toNat = none) : OrderFacts a b false false false true false 9221120237041090560#64 9221120237041090560#64 := by
  unfold OrderFacts cmpF bothF minBits maxBits
  simp only [h]
  exact ⟨rfl, rfl, rfl, rfl, rfl, rfl, rfl⟩
theorem facts_lt (a b : BitVec 64) (ha : isNaN a.toNat = false) (hb : isNaN b.toNat = false) (h : Ieee.double.order a.toNat b.toNat = some .lt) : OrderFacts a b true false false true true a b := by
  unfold OrderFacts cmpF bothF minBits maxBits
  simp only [h]
  exact ⟨rfl, rfl, rfl, rfl, rfl, wq_self a ha, wq_self b hb⟩
theorem facts_gt (a b : BitVec 64) (ha : isNaN a.toNat = false) (hb : isNaN b.toNat = false) (h : Ieee.double.order a.toNat b.toNat = some .gt) : OrderFacts a b false true false true false b a := by
  unfold OrderFacts cmpF bothF minBits maxBits
  simp only [h]
  exact ⟨rfl, rfl, rfl, rfl, rfl, wq_self b hb, wq_self a ha⟩
theorem facts_eq (a b : BitVec 64) (ha : isNaN a.toNat = false) (hb : isNaN b.toNat = false) (h : Ieee.double.order a.toNat b.toNat = some .eq) : OrderFacts a b false false true false true a b ∨ OrderFacts a b false false true false true b a := by
  unfold OrderFacts cmpF bothF minBits maxBits
  simp only [h]
  cases sgn a.toNat
  · exact .inr ⟨rfl, rfl, rfl, rfl, rfl, wq_self b hb, wq_self a ha⟩
  · exact .inl ⟨rfl, rfl, rfl, rfl, rfl, wq_self a ha, wq_self b hb⟩

theorem d97 (a b : BitVec 64) (w : World) : Calls Try.prog 7 #[.int .i64 97, .int .u64 (U a), .int .u64 (U b)] w (DoPost (tw (cmpF 97 a.toNat b.toNat)) 0 w) := do_cmp 97 (by decide) a b w
theorem d98 (a b : BitVec 64) (w : World) : Calls Try.prog 7 #[.int .i64 98, .int .u64 (U a), .int .u64 (U b)] w (DoPost (tw (cmpF 98 a.toNat b.toNat)) 0 w) := do_cmp 98 (by decide) a b w
theorem d99 (a b : BitVec 64) (w : World) : Calls Try.prog 7 #[.int .i64 99, .int .u64 (U a), .int .u64 (U b)] w (DoPost (tw (cmpF 99 a.toNat b.toNat)) 0 w) := do_cmp 99 (by decide) a b w
theorem d100 (a b : BitVec 64) (w : World) : Calls Try.prog 7 #[.int .i64 100, .int .u64 (U a), .int .u64 (U b)] w (DoPost (tw (cmpF 100 a.toNat b.toNat)) 0 w) := do_cmp 100 (by decide) a b w
theorem d101 (a b : BitVec 64) (w : World) : Calls Try.prog 7 #[.int .i64 101, .int .u64 (U a), .int .u64 (U b)] w (DoPost (tw (cmpF 101 a.toNat b.toNat)) 0 w) := do_cmp 101 (by decide) a b w
theorem d164 (a b : BitVec 64) (w : World) : Calls Try.prog 7 #[.int .i64 164, .int .u64 (U a), .int .u64 (U b)] w (DoPost (Wq (bothF 164 a.toNat b.toNat)) 0 w) := do_two 164 (by decide) a b w
theorem d165 (a b : BitVec 64) (w : World) : Calls Try.prog 7 #[.int .i64 165, .int .u64 (U a), .int .u64 (U b)] w (DoPost (Wq (bothF 165 a.toNat b.toNat)) 0 w) := do_two 165 (by decide) a b w

set_option maxRecDepth 100000 in
theorem order_any (a b : BitVec 64) (w : World) :
    Calls Try.prog 3 #[.int .u64 (U a), .int .u64 (U b)] w (BoolPost true w) := by
  have ways : (isNaN a.toNat = true ∧ OrderFacts a b false false false true false 9221120237041090560#64 9221120237041090560#64) ∨
      (isNaN a.toNat = false ∧ isNaN b.toNat = true ∧ OrderFacts a b false false false true false 9221120237041090560#64 9221120237041090560#64) ∨
      (isNaN a.toNat = false ∧ isNaN b.toNat = false ∧ OrderFacts a b true false false true true a b) ∨
      (isNaN a.toNat = false ∧ isNaN b.toNat = false ∧ OrderFacts a b false true false true false b a) ∨
      (isNaN a.toNat = false ∧ isNaN b.toNat = false ∧ OrderFacts a b false false true false true a b) ∨
      (isNaN a.toNat = false ∧ isNaN b.toNat = false ∧ OrderFacts a b false false true false true b a) := by
    cases ha : isNaN a.toNat with
    | true => exact .inl ⟨rfl, facts_none a b (order_nanl _ _ ((isNaN_iff _).mp ha))⟩
    | false =>
      cases hb : isNaN b.toNat with
      | true => exact .inr (.inl ⟨rfl, rfl, facts_none a b (order_nanr _ _ ((isNaN_iff _).mp hb))⟩)
      | false =>
        have ho := order_num _ _ ((isNaN_not _).mp ha) ((isNaN_not _).mp hb)
        cases hc : compare (val a.toNat) (val b.toNat) with
        | lt => rw [hc] at ho; exact .inr (.inr (.inl ⟨rfl, rfl, facts_lt a b ha hb ho⟩))
        | gt => rw [hc] at ho; exact .inr (.inr (.inr (.inl ⟨rfl, rfl, facts_gt a b ha hb ho⟩)))
        | eq =>
          rw [hc] at ho
          rcases facts_eq a b ha hb ho with h | h
          · exact .inr (.inr (.inr (.inr (.inl ⟨rfl, rfl, h⟩))))
          · exact .inr (.inr (.inr (.inr (.inr ⟨rfl, rfl, h⟩))))
  have t0 := tw_no
  have t1 := tw_yes
  have hacc := Below.refl w.heap.size w
  rcases ways with ⟨na, f1, f2, f3, f4, f5, f6, f7⟩ | ⟨na, nb, f1, f2, f3, f4, f5, f6, f7⟩ | ⟨na, nb, f1, f2, f3, f4, f5, f6, f7⟩ | ⟨na, nb, f1, f2, f3, f4, f5, f6, f7⟩ | ⟨na, nb, f1, f2, f3, f4, f5, f6, f7⟩ | ⟨na, nb, f1, f2, f3, f4, f5, f6, f7⟩ <;>
  · go_enter Try.func3, Try.ntmps3
    go_wp2_with (first
      | (go_at_call 7; (first | (with_reducible refine (d99 _ _ _).mono ?_) | (with_reducible refine (d100 _ _ _).mono ?_) | (with_reducible refine (d97 _ _ _).mono ?_) | (with_reducible refine (d98 _ _ _).mono ?_) | (with_reducible refine (d101 _ _ _).mono ?_) | (with_reducible refine (d164 _ _ _).mono ?_) | (with_reducible refine (d165 _ _ _).mono ?_)); rintro e w' ⟨rfl, k, rfl⟩)
      | (go_at_call 8; refine (nan_any _ _).mono ?_; rintro e w' ⟨rfl, rfl⟩)
      | (go_at_call 9; refine (known_any _).mono ?_; rintro e w' ⟨rfl, hb⟩; replace hacc := below_then (below_drewN hacc _) hb))
    all_goals
      go_ret
      exact ⟨rfl, hacc⟩
end Go.Proofs.Ytejpbhgbafapoaa
