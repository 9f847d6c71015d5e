/-
  Contract of the maker's same.
-/
import Derived.Test.YtinljaobdnkifaaDoorKst
import Derived.BigQuiet
import Derived.Deep.QuietTactic
namespace Go.Proofs.YtinljaobdnkifaaDoor
open Go.RowKit

/-- A bool comes back; the world has at most new blocks. -/
def AnyBool (w : World) (e : Ending) (w' : World) : Prop := ∃ b : Bool, e = .returned (.bool b) ∧ Below w.heap.size w w'

set_option maxRecDepth 100000 in
set_option maxHeartbeats 1000000 in
theorem ksame_any (K : Nat → Prop) (w : World) (v1 v2 : Value) (q1 q2 : List Int) (h1 : IntsK K w v1 q1) (h2 : IntsK K w v2 q2) : Calls Tryd.prog 83 #[v1, v2] w (AnyBool w) := by
  obtain ⟨A1, c1, hv1, hm1, _⟩ := h1.form
  obtain ⟨A2, c2, hv2, _, _⟩ := h2.form
  unfold maxLen at hm1
  rw [hv1] at h1 ⊢
  rw [hv2] at h2 ⊢
  have H1 := Lib.hid h1
  have H2 := Lib.hid h2
  clear h1 h2 hv1 hv2
  generalize hQ1 : q1.length = n at *
  generalize hQ2 : q2.length = m at *
  have HQ1 := Lib.hid hQ1
  have HQ2 := Lib.hid hQ2
  clear hQ1 hQ2
  by_cases hnm : n = m
  · subst hnm
    go_enter Tryd.func83, Tryd.ntmps83
    go_wp2_with fail
    go_loopw [5] (fun i wr => ∃ k a : Nat, k ≤ n ∧ i = .int .i64 (k : Int) ∧ wr = w.drewN a) (fun i _ => n - (intOf i).toNat)
    case atStart => exact ⟨0, 0, Nat.zero_le _, rfl, rfl⟩
    case round =>
      obtain ⟨k, a, hk, rfl, rfl⟩ := hrel
      by_cases hlt : k < n
      · have hkn : (0 : Int) ≤ k := Int.natCast_nonneg _
        have hd : decide ((k : Int) < (n : Int)) = true := by simp; omega
        obtain ⟨g1, o1, c3, he, _, _⟩ := H1.out.some_ (by rw [HQ1.out]; omega)
        simp only [Value.slice.injEq] at he
        obtain ⟨rfl, -, -⟩ := he
        obtain ⟨g2, o2, c4, he, _, _⟩ := H2.out.some_ (by rw [HQ2.out]; omega)
        simp only [Value.slice.injEq] at he
        obtain ⟨rfl, -, -⟩ := he
        have k1 := H1.out.at_ k hlt
        have k2 := H2.out.at_ k hlt
        generalize q1.getD k 0 = y at k1
        generalize q2.getD k 0 = z at k2
        go_wp2_with fail
        go_quiet (fail)
        by_cases hyz : y = z
        · have hd2 : (y != z) = false := by simpa using hyz
          go_wp2
          go_roundw
          case rel => exact ⟨k + 1, _, by omega, by go_num, rfl⟩
          case measure => simp [intOf]; omega
        · have hd2 : (y != z) = true := by simpa using hyz
          go_wp2
          go_ret
          exact ⟨false, rfl, below_drewN (below_drewN (Below.refl _ _) _) _⟩
      · have hd : decide ((k : Int) < (n : Int)) = false := by simp; omega
        go_wp2
        go_ret
        exact ⟨true, rfl, below_drewN (Below.refl _ _) _⟩
  · have hd : ((n : Int) != (m : Int)) = true := by simp; omega
    go_enter Tryd.func83, Tryd.ntmps83
    go_wp2
    go_ret
    exact ⟨false, rfl, Below.refl _ _⟩
end Go.Proofs.YtinljaobdnkifaaDoor
