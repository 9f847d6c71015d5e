/-
  Contracts of the document's answer: its arith.
-/
import Derived.Test.YtjnmcaokcjkagaaWr
import Derived.Test.YtjnmcaokcjkagaaWpDo
namespace Go.Proofs.Ytjnmcaokcjkagaa
open Go.RowKit

def arPost (k n : Int) (x y : BitVec 64) (w : World) (e : Ending) (w' : World) : Prop :=
  e = .returned (.tuple #[.int .u64 (U (arRaw k n x y).1), .int .i64 (arRaw k n x y).2]) ∧ ∃ k, w' = w.drewN k

set_option maxRecDepth 100000 in
theorem arith_count (k n : Int) (x y : BitVec 64) (hk : k = 0 ∨ k = 1 ∨ k = 2) (hn : n = 32 ∨ n = 64) (hx : x.toNat < 2 ^ n.toNat) (w : World) :
    Calls Try.prog 23 #[.int .i64 k, .int .u64 (U x), .int .u64 (U y), .int .i64 n] w (arPost k n x y w) := by
  have HX := Lib.hid hx
  clear hx
  have h0 := U_nonneg y
  rcases hn with rfl | rfl
  all_goals
    rcases hk with rfl | rfl | rfl
    · go_enter Try.func23, Try.ntmps23
      go_wp2_with (go_at_call 30; refine (rcounts_lead _ _ (by decide) (by decide) HX.out _).mono ?_; rintro e w' ⟨rfl, rfl⟩)
      go_ret2
      exact ⟨rfl, 0, rfl⟩
    · go_enter Try.func23, Try.ntmps23
      go_wp2_with (go_at_call 30; refine (rcounts_trail _ _ (by decide) (by decide) _).mono ?_; rintro e w' ⟨rfl, rfl⟩)
      go_ret2
      exact ⟨rfl, 0, rfl⟩
    · go_enter Try.func23, Try.ntmps23
      go_wp2_with (go_at_call 30; refine (rcounts_ones _ _ (by decide) (by decide) HX.out _).mono ?_; rintro e w' ⟨rfl, rfl⟩)
      go_ret2
      exact ⟨rfl, 0, rfl⟩

set_option maxRecDepth 100000 in
theorem arith_plain (k n : Int) (x y : BitVec 64) (hk : k = 3 ∨ k = 4 ∨ k = 5 ∨ k = 10 ∨ k = 11 ∨ k = 12) (hn : n = 32 ∨ n = 64) (w : World) :
    Calls Try.prog 23 #[.int .i64 k, .int .u64 (U x), .int .u64 (U y), .int .i64 n] w (arPost k n x y w) := by
  have h0 := U_nonneg y
  have r1 := addU
  have r2 := subU
  have r3 := mulU
  have r4 := andU
  have r5 := orU
  have r6 := xorU
  rcases hn with rfl | rfl
  all_goals
    rcases hk with rfl | rfl | rfl | rfl | rfl | rfl
    all_goals
      go_enter Try.func23, Try.ntmps23
      go_wp2
      go_ret2
      exact ⟨rfl, 0, rfl⟩

set_option maxRecDepth 100000 in
theorem arith_divide (k n : Int) (x y : BitVec 64) (hk : k = 6 ∨ k = 7 ∨ k = 8 ∨ k = 9) (hn : n = 32 ∨ n = 64) (hx : x.toNat < 2 ^ n.toNat) (hy : y.toNat < 2 ^ n.toNat) (w : World) :
    Calls Try.prog 23 #[.int .i64 k, .int .u64 (U x), .int .u64 (U y), .int .i64 n] w (arPost k n x y w) := by
  have HX := Lib.hid hx
  have HY := Lib.hid hy
  clear hx hy
  have h0 := U_nonneg y
  rcases hn with rfl | rfl
  all_goals
    rcases hk with rfl | rfl | rfl | rfl
    all_goals
      go_enter Try.func23, Try.ntmps23
      go_wp2_with (go_at_call 31; refine (rdivide_any _ _ _ _ (by decide) (by decide) HX.out HY.out _).mono ?_; rintro e w' ⟨rfl, rfl⟩)
      go_ret2
      exact ⟨rfl, 0, rfl⟩

theorem sub_sh (n : Int) (y : BitVec 64) (hn : n = 32 ∨ n = 64) : (n - U y % n).toNat = n.toNat - shN n y := by
  have := U_nonneg y
  unfold shN; rcases hn with rfl | rfl <;> omega

set_option maxRecDepth 100000 in
theorem arith_shift (k n : Int) (x y : BitVec 64) (hk : k = 13 ∨ k = 14 ∨ k = 15 ∨ k = 16 ∨ k = 17) (hn : n = 32 ∨ n = 64) (w : World) :
    Calls Try.prog 23 #[.int .i64 k, .int .u64 (U x), .int .u64 (U y), .int .i64 n] w (arPost k n x y w) := by
  have h0 := U_nonneg y
  have HS := Lib.hid (sub_sh n y hn)
  have r1 := shlU
  have r2 := shrU
  have r3 := orU
  have r4 := sarS
  have r5 := toU
  rcases hn with rfl | rfl
  all_goals
    rcases hk with rfl | rfl | rfl | rfl | rfl
    · go_enter Try.func23, Try.ntmps23
      go_wp2
      go_ret2
      exact ⟨rfl, 0, rfl⟩
    · go_enter Try.func23, Try.ntmps23
      go_wp2_with (go_at_call 13; refine (rsign_any _ _ _).mono ?_; rintro e w' ⟨rfl, rfl⟩)
      go_ret2
      exact ⟨rfl, 0, rfl⟩
    · go_enter Try.func23, Try.ntmps23
      go_wp2
      go_ret2
      exact ⟨rfl, 0, rfl⟩
    · go_enter Try.func23, Try.ntmps23
      go_wp2
      go_ret2
      exact ⟨ret_two' (by show _ = (x <<< shN _ y ||| x >>> (_ - shN _ y)); rw [← HS.out]; rfl) rfl, 0, rfl⟩
    · go_enter Try.func23, Try.ntmps23
      go_wp2
      go_ret2
      exact ⟨ret_two' (by show _ = (x >>> shN _ y ||| x <<< (_ - shN _ y)); rw [← HS.out]; rfl) rfl, 0, rfl⟩

theorem arith_any (k n : Int) (x y : BitVec 64) (hlo : 0 ≤ k) (hhi : k ≤ 17) (hn : n = 32 ∨ n = 64) (hx : x.toNat < 2 ^ n.toNat) (hy : y.toNat < 2 ^ n.toNat) (w : World) :
    Calls Try.prog 23 #[.int .i64 k, .int .u64 (U x), .int .u64 (U y), .int .i64 n] w (arPost k n x y w) := by
  by_cases c1 : k = 0 ∨ k = 1 ∨ k = 2
  · exact arith_count k n x y c1 hn hx w
  · by_cases c2 : k = 6 ∨ k = 7 ∨ k = 8 ∨ k = 9
    · exact arith_divide k n x y c2 hn hx hy w
    · by_cases c3 : k = 3 ∨ k = 4 ∨ k = 5 ∨ k = 10 ∨ k = 11 ∨ k = 12
      · exact arith_plain k n x y c3 hn w
      · exact arith_shift k n x y (by omega) hn w
end Go.Proofs.Ytjnmcaokcjkagaa
