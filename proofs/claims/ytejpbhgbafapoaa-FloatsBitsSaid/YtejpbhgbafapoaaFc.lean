/-
  Contracts of the functions of floats that Do is made of: comparison, signs, rounding, arithmetic.
-/
import Derived.Test.YtejpbhgbafapoaaFr
import Derived.Deep.QuietTactic
import Derived.BigQuiet
import Derived.Laws.BitsAllLaws
namespace Go.Proofs.Ytejpbhgbafapoaa
open Go.RowKit

/-- A result's bits as a word. -/
def Wq (o : Option Nat) : BitVec 64 := BitVec.ofNat 64 (qz o)
theorem U_of (n : Nat) (h : n < 18446744073709551616) : U (BitVec.ofNat 64 n) = (n : Int) := by
  unfold U; rw [BitVec.toNat_ofNat, Nat.mod_eq_of_lt h]
/-- Some float comes back whose bits, made quiet, are o's; some answers are drawn. -/
def FloatPost (o : Option Nat) (w : World) (e : Ending) (w' : World) : Prop :=
  ∃ z k, e = .returned (.float .f64 z) ∧ z < 18446744073709551616 ∧ qz (some z) = qz o ∧ w' = w.drewN k

theorem bitsof_any (z : Nat) (hz : z < 18446744073709551616) (o : Option Nat) (ho : qz (some z) = qz o) (w : World) :
    Calls Try.prog 14 #[.float .f64 z] w fun e w' => e = .returned (.int .u64 (U (Wq o))) ∧ w = w' := by
  have hb := bits_run z
  unfold Wq
  rw [← ho]
  cases hn : isNaN z with
  | true =>
    have hq : qz (some z) = 9221120237041090560 := by
      change (if isNaN z = true then 9221120237041090560 else z) = _
      rw [hn]; rfl
    rw [hq]; clear ho hq
    go_enter Try.func14, Try.ntmps14
    go_wp2_with (go_at_call 19; refine (isnan_any _ _).mono ?_; rintro e w' ⟨rfl, rfl⟩)
    go_ret
    exact ⟨rfl, rfl⟩
  | false =>
    have hq : qz (some z) = z := by
      change (if isNaN z = true then 9221120237041090560 else z) = _
      rw [hn]; rfl
    rw [hq, U_of z hz]; clear ho hq hz
    go_enter Try.func14, Try.ntmps14
    go_wp2_with (go_at_call 19; refine (isnan_any _ _).mono ?_; rintro e w' ⟨rfl, rfl⟩)
    go_ret
    exact ⟨rfl, rfl⟩

def tw (b : Bool) : BitVec 64 := if b then 1#64 else 0#64
theorem truth_any (b : Bool) (w : World) :
    Calls Try.prog 11 #[.bool b] w fun e w' => e = .returned (.int .u64 (U (tw b))) ∧ w = w' := by
  cases b
  · go_enter Try.func11, Try.ntmps11
    go_wp2
    go_ret
    exact ⟨rfl, rfl⟩
  · go_enter Try.func11, Try.ntmps11
    go_wp2
    go_ret
    exact ⟨rfl, rfl⟩

/-- The six comparisons. -/
def cmpF (op : Int) (x y : Nat) : Bool :=
  let o := Ieee.double.order x y
  if op = 97 then o == some .eq else if op = 98 then o != some .eq else if op = 99 then o == some .lt
  else if op = 100 then o == some .gt else if op = 101 then o == some .lt || o == some .eq else o == some .gt || o == some .eq
theorem compare_any (op : Int) (h : op = 97 ∨ op = 98 ∨ op = 99 ∨ op = 100 ∨ op = 101 ∨ op = 102) (x y : Nat) (w : World) :
    Calls Try.prog 12 #[.int .i64 op, .float .f64 x, .float .f64 y] w fun e w' => e = .returned (.bool (cmpF op x y)) ∧ w = w' := by
  rcases h with rfl | rfl | rfl | rfl | rfl | rfl <;>
  · go_enter Try.func12, Try.ntmps12
    go_wp2
    go_ret
    exact ⟨rfl, rfl⟩

/-- The three on bits alone. -/
def sgF (op : Int) (a b : BitVec 64) : BitVec 64 :=
  if op = 153 then a &&& 9223372036854775807#64 else if op = 154 then a ^^^ 9223372036854775808#64
  else (a &&& 9223372036854775807#64) ||| (b &&& 9223372036854775808#64)
theorem clearU (x : BitVec 64) : Go.bits .andNot .u64 (U x) 9223372036854775808 = U (x &&& 9223372036854775807#64) := by
  unfold U
  have h := u64_andNot_nat x.toNat 9223372036854775808 x.isLt (by decide)
  rw [BitVec.toNat_and]; exact h
theorem flipU (x : BitVec 64) : Go.bits .xor .u64 (U x) 9223372036854775808 = U (x ^^^ 9223372036854775808#64) := xorU x 9223372036854775808#64
theorem topU (x : BitVec 64) : Go.bits .and .u64 (U x) 9223372036854775808 = U (x &&& 9223372036854775808#64) := andU x 9223372036854775808#64
theorem sign_any (op : Int) (h : op = 153 ∨ op = 154 ∨ op = 166) (a b : BitVec 64) (w : World) :
    Calls Try.prog 13 #[.int .i64 op, .int .u64 (U a), .int .u64 (U b)] w fun e w' => e = .returned (.int .u64 (U (sgF op a b))) ∧ w = w' := by
  have r1 := clearU a
  have r2 := flipU a
  have r3 := topU b
  have r4 := orU (a &&& 9223372036854775807#64) (b &&& 9223372036854775808#64)
  rcases h with rfl | rfl | rfl <;>
  · go_enter Try.func13, Try.ntmps13
    go_wp2
    go_ret
    exact ⟨rfl, rfl⟩

theorem floor_any (x : Nat) (hx : x < 18446744073709551616) (w : World) :
    Calls Try.prog 23 #[.float .f64 x] w (FloatPost (intBits .down x) w) := by
  obtain ⟨z, k, h, h1, h2⟩ := archfloor_run x hx w
  go_enter Try.func23, Try.ntmps23
  go_wp2
  go_ret
  exact ⟨z, k, rfl, h1, h2, rfl⟩
theorem ceil_any (x : Nat) (hx : x < 18446744073709551616) (w : World) :
    Calls Try.prog 22 #[.float .f64 x] w (FloatPost (intBits .up x) w) := by
  obtain ⟨z, k, h, h1, h2⟩ := archceil_run x hx w
  go_enter Try.func22, Try.ntmps22
  go_wp2
  go_ret
  exact ⟨z, k, rfl, h1, h2, rfl⟩
theorem trunc_any (x : Nat) (hx : x < 18446744073709551616) (w : World) :
    Calls Try.prog 24 #[.float .f64 x] w (FloatPost (intBits .zero x) w) := by
  obtain ⟨z, k, h, h1, h2⟩ := archtrunc_run x hx w
  go_enter Try.func24, Try.ntmps24
  go_wp2
  go_ret
  exact ⟨z, k, rfl, h1, h2, rfl⟩
theorem trunc_num (x : Nat) (hx : rung x ≤ 9218868437227405312) (w : World) :
    Calls Try.prog 24 #[.float .f64 x] w fun e w' => e = .returned (.float .f64 (integ .zero x)) ∧ w = w' := by
  have h := archtrunc_num x hx
  clear hx
  go_enter Try.func24, Try.ntmps24
  go_wp2
  go_ret
  exact ⟨rfl, rfl⟩

/-- The way to whole numbers that an operation goes. -/
def wayF (op : Int) : Ieee.Toward := if op = 155 then .up else if op = 156 then .down else if op = 157 then .zero else .even
theorem single_any (op : Int) (h : op = 155 ∨ op = 156 ∨ op = 157 ∨ op = 158) (x : Nat) (hx : x < 18446744073709551616) (w : World) :
    Calls Try.prog 15 #[.int .i64 op, .float .f64 x] w (FloatPost (intBits (wayF op) x) w) := by
  obtain ⟨z, k, he, h1, h2⟩ := even_run x hx w
  have HX := Lib.hid hx
  have HE := Lib.hid h2
  clear hx h2
  rcases h with rfl | rfl | rfl | rfl
  · go_enter Try.func15, Try.ntmps15
    go_wp2_with (go_at_call 22; refine (ceil_any _ HX.out _).mono ?_; rintro e w' ⟨z, k, rfl, h1, h2, rfl⟩)
    go_ret
    exact ⟨z, k, rfl, h1, h2, rfl⟩
  · go_enter Try.func15, Try.ntmps15
    go_wp2_with (go_at_call 23; refine (floor_any _ HX.out _).mono ?_; rintro e w' ⟨z, k, rfl, h1, h2, rfl⟩)
    go_ret
    exact ⟨z, k, rfl, h1, h2, rfl⟩
  · go_enter Try.func15, Try.ntmps15
    go_wp2_with (go_at_call 24; refine (trunc_any _ HX.out _).mono ?_; rintro e w' ⟨z, k, rfl, h1, h2, rfl⟩)
    go_ret
    exact ⟨z, k, rfl, h1, h2, rfl⟩
  · go_enter Try.func15, Try.ntmps15
    go_wp2
    go_ret
    exact ⟨z, k, rfl, h1, HE.out, rfl⟩

/-- What the two-handed ones give. -/
def bothF (op : Int) (x y : Nat) : Option Nat :=
  if op = 160 then Ieee.double.add x y else if op = 161 then Ieee.double.sub x y else if op = 162 then Ieee.double.mul x y
  else if op = 163 then Ieee.double.div x y else if op = 164 then minBits x y else maxBits x y
theorem combine_any (op : Int) (h : op = 160 ∨ op = 161 ∨ op = 162 ∨ op = 163 ∨ op = 164 ∨ op = 165) (x y : Nat) (hx : x < 18446744073709551616) (hy : y < 18446744073709551616) (w : World) :
    Calls Try.prog 16 #[.int .i64 op, .float .f64 x, .float .f64 y] w (FloatPost (bothF op x y) w) := by
  rcases h with rfl | rfl | rfl | rfl | rfl | rfl
  · obtain ⟨z, k, he, h1, h2⟩ := arith_run (P := Try.prog) .add (.inl rfl) x y w
    have HE := Lib.hid h2
    clear h2 hx hy
    go_enter Try.func16, Try.ntmps16
    go_wp2
    go_ret
    exact ⟨z, k, rfl, h1, HE.out, rfl⟩
  · obtain ⟨z, k, he, h1, h2⟩ := arith_run (P := Try.prog) .sub (.inr (.inl rfl)) x y w
    have HE := Lib.hid h2
    clear h2 hx hy
    go_enter Try.func16, Try.ntmps16
    go_wp2
    go_ret
    exact ⟨z, k, rfl, h1, HE.out, rfl⟩
  · obtain ⟨z, k, he, h1, h2⟩ := arith_run (P := Try.prog) .mul (.inr (.inr (.inl rfl))) x y w
    have HE := Lib.hid h2
    clear h2 hx hy
    go_enter Try.func16, Try.ntmps16
    go_wp2
    go_ret
    exact ⟨z, k, rfl, h1, HE.out, rfl⟩
  · obtain ⟨z, k, he, h1, h2⟩ := arith_run (P := Try.prog) .quo (.inr (.inr (.inr rfl))) x y w
    have HE := Lib.hid h2
    clear h2 hx hy
    go_enter Try.func16, Try.ntmps16
    go_wp2
    go_ret
    exact ⟨z, k, rfl, h1, HE.out, rfl⟩
  · obtain ⟨z, k, he, h1, h2⟩ := min_run (P := Try.prog) x y hx hy w
    have HE := Lib.hid h2
    clear h2 hx hy
    go_enter Try.func16, Try.ntmps16
    go_wp2
    go_ret
    exact ⟨z, k, rfl, h1, HE.out, rfl⟩
  · obtain ⟨z, k, he, h1, h2⟩ := max_run (P := Try.prog) x y hx hy w
    have HE := Lib.hid h2
    clear h2 hx hy
    go_enter Try.func16, Try.ntmps16
    go_wp2
    go_ret
    exact ⟨z, k, rfl, h1, HE.out, rfl⟩
end Go.Proofs.Ytejpbhgbafapoaa
