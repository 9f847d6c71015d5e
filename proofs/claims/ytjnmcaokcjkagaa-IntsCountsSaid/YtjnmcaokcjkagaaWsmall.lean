/-
  Contracts of the small functions of ints and of the document's answer: what each gives back, for any words.
-/
import Derived.Test.YtjnmcaokcjkagaaProg
import Derived.Test.YtjnmcaokcjkagaaSpec
import Derived.WalkKit
import Derived.WalkLawsBesides
namespace Go.Proofs.Ytjnmcaokcjkagaa
open Go.RowKit

theorem ret_int {k : IntKind} {a b : Int} (h : a = b) : Ending.returned (.int k a) = .returned (.int k b) := by rw [h]

theorem cut_any (x : BitVec 64) (n : Int) (h0 : 1 ≤ n) (h1 : n ≤ 64) (w : World) :
    Calls Try.prog 24 #[.int .u64 (U x), .int .i64 n] w fun e w' => e = .returned (.int .u64 (U (cutB x n.toNat))) ∧ w = w' := by
  have e : (64 - n).toNat = 64 - n.toNat := by omega
  have E : U (cutB x n.toNat) = U ((x <<< (64 - n).toNat) >>> (64 - n).toNat) := by rw [e]; rfl
  rw [E]; clear e E
  have r1 := shlU
  have r2 := shrU
  go_enter Try.func24, Try.ntmps24
  go_wp2
  go_ret
  exact ⟨rfl, rfl⟩

theorem sign_in (x : BitVec 64) (n : Int) (h0 : 1 ≤ n) (h1 : n ≤ 64) (w : World) :
    Calls Try.prog 12 #[.int .u64 (U x), .int .i64 n] w fun e w' => e = .returned (.int .i64 (S (signSpec x n))) ∧ w = w' := by
  rw [signSpec_in x n h0 h1]
  have r1 := shlU
  have r2 := sarS
  have r3 := toS
  go_enter Try.func12, Try.ntmps12
  go_wp2
  go_ret
  exact ⟨rfl, rfl⟩

theorem sign_any (x : BitVec 64) (n : Int) (w : World) :
    Calls Try.prog 12 #[.int .u64 (U x), .int .i64 n] w fun e w' => e = .returned (.int .i64 (S (signSpec x n))) ∧ w = w' := by
  by_cases h0 : n < 1
  · go_enter Try.func12, Try.ntmps12
    go_wp2
    go_ret
    exact ⟨ret_int (sign_lo_eq x n h0), rfl⟩
  · by_cases h1 : 64 < n
    · go_enter Try.func12, Try.ntmps12
      go_wp2
      go_ret
      exact ⟨ret_int (sign_hi_eq x n h1), rfl⟩
    · exact sign_in x n (by omega) (by omega) w

theorem rsign_any (x : BitVec 64) (n : Int) (w : World) :
    Calls Try.prog 13 #[.int .u64 (U x), .int .i64 n] w fun e w' => e = .returned (.int .i64 (S (signSpec x n))) ∧ w = w' := by
  by_cases h0 : n < 1
  · go_enter Try.func13, Try.ntmps13
    go_wp2
    · go_ret
      exact ⟨ret_int (rsign_lo_yes x n h0 (by assumption)), rfl⟩
    · go_ret
      exact ⟨ret_int (rsign_lo_no x n h0 (by assumption)), rfl⟩
  · by_cases h1 : 64 < n
    · go_enter Try.func13, Try.ntmps13
      go_wp2
      go_ret
      exact ⟨ret_int (sign_hi_eq x n h1), rfl⟩
    · have h2 : 1 ≤ n := by omega
      have h3 : n ≤ 64 := by omega
      clear h0 h1
      go_enter Try.func13, Try.ntmps13
      go_wp2
      · go_ret
        exact ⟨ret_int (rsign_yes x n h2 h3 (by assumption)), rfl⟩
      · go_ret
        exact ⟨ret_int (rsign_no x n h2 h3 (by assumption)), rfl⟩
      · go_ret
        exact ⟨ret_int (rsign_64 x n h2 h3 (by omega)), rfl⟩

theorem truth_any (b : Bool) (w : World) :
    Calls Try.prog 25 #[.bool b] w fun e w' => e = .returned (.int .u64 (U (tw b))) ∧ w = w' := by
  cases b
  · go_enter Try.func25, Try.ntmps25
    go_wp2
    go_ret
    exact ⟨rfl, rfl⟩
  · go_enter Try.func25, Try.ntmps25
    go_wp2
    go_ret
    exact ⟨rfl, rfl⟩

theorem yes_any (b : Bool) (w : World) :
    Calls Try.prog 21 #[.bool b] w fun e w' => e = .returned (.int .u64 (U (tw b))) ∧ w = w' := by
  cases b
  · go_enter Try.func21, Try.ntmps21
    go_wp2
    go_ret
    exact ⟨rfl, rfl⟩
  · go_enter Try.func21, Try.ntmps21
    go_wp2
    go_ret
    exact ⟨rfl, rfl⟩

end Go.Proofs.Ytjnmcaokcjkagaa
