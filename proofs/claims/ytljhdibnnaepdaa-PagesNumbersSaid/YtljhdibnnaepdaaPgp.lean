/-
  Contracts of package pages' functions that read.
-/
import Derived.Test.YtljhdibnnaepdaaPg
import Derived.IntWalk
namespace Go.Proofs.Ytljhdibnnaepdaa
open Go.RowKit
variable {p B : Nat} {l : List Nat} {mx : Nat} {w w' : World}

/-- The part comes back. -/
def PartYes (B q n : Nat) (w : World) (e : Ending) (w' : World) : Prop := w = w' ∧ ∃ A c, e = .returned (.tuple #[.slice A n c, .bool true]) ∧ n ≤ c ∧ (0 < n → A = some ⟨B, q, none⟩)
def PartNo (w : World) (e : Ending) (w' : World) : Prop := w = w' ∧ e = .returned (.tuple #[.slice none 0 0, .bool false])
theorem ret_part {A : Option Addr} {n m c : Nat} {b : Bool} (h : n = m) : Ending.returned (.tuple #[.slice A n c, .bool b]) = .returned (.tuple #[.slice A m c, .bool b]) := by rw [h]
theorem part_yes (hg : Pg 52 p B l mx w) (q n : Nat) (h : q + n ≤ l.length) : Calls Try.prog 23 #[.pointer (some ⟨p, 0, none⟩), .int .u64 (q : Int), .int .u64 (n : Int)] w (PartYes B q n w) := by
  obtain ⟨c, hc, c0⟩ := hg.cell0
  have hf := hg.fits
  clear hg
  generalize l.length = L at *
  have d1 : decide (L < q) = false := by simp; omega
  have d2 : decide ((L : Int) - q < (n : Int)) = false := by simp; omega
  by_cases e : q = c
  · obtain rfl : n = 0 := by omega
    subst e
    obtain rfl : L = q := by omega
    go_enter Try.func23, Try.ntmps23
    go_wp2
    all_goals go_ret2
    all_goals exact ⟨rfl, _, _, rfl, by omega, fun h => by omega⟩
  · go_enter Try.func23, Try.ntmps23
    go_wp2
    all_goals go_ret2
    all_goals exact ⟨rfl, some ⟨B, q, none⟩, c - q, ret_part (by omega), by omega, fun _ => rfl⟩
theorem part_no (hg : Pg 52 p B l mx w) (q n : Nat) (h : ¬ q + n ≤ l.length) : Calls Try.prog 23 #[.pointer (some ⟨p, 0, none⟩), .int .u64 (q : Int), .int .u64 (n : Int)] w (PartNo w) := by
  obtain ⟨c, hc, c0⟩ := hg.cell0
  have hf := hg.fits
  clear hg
  generalize l.length = L at *
  by_cases e : L < q
  · go_enter Try.func23, Try.ntmps23
    go_wp2
    all_goals go_ret2
    all_goals exact ⟨rfl, rfl⟩
  · have d1 : decide (L < q) = false := by simp; omega
    have d2 : decide ((L : Int) - q < (n : Int)) = true := by simp; omega
    go_enter Try.func23, Try.ntmps23
    go_wp2
    all_goals go_ret2
    all_goals exact ⟨rfl, rfl⟩

/-- How wide a number may be. -/
def wideB (n : Int) : Bool := decide (n = 1 ∨ n = 2 ∨ n = 4 ∨ n = 8)
theorem wideB_yes {n : Int} (h : wideB n = true) : ∃ k : Nat, n = k ∧ (k = 1 ∨ k = 2 ∨ k = 4 ∨ k = 8) := by
  have := of_decide_eq_true h
  exact ⟨n.toNat, by omega, by omega⟩
theorem wideB_nat {k : Nat} (h : k = 1 ∨ k = 2 ∨ k = 4 ∨ k = 8) : wideB k = true := decide_eq_true (by omega)
theorem number_yes (hg : Pg 52 p B l mx w) (q n : Nat) (hn : n = 1 ∨ n = 2 ∨ n = 4 ∨ n = 8) (h : q + n ≤ l.length) : Calls Try.prog 31 #[.pointer (some ⟨p, 0, none⟩), .int .u64 (q : Int), .int .i64 (n : Int)] w (PartYes B q n w) := by
  have C := Lib.hid (part_yes hg q n h)
  clear hg h
  rcases hn with rfl | rfl | rfl | rfl
  all_goals
    go_enter Try.func31, Try.ntmps31
    go_wp2_with (go_at_call 23; refine C.out.mono ?_; rintro e w' ⟨rfl, A, c, rfl, h1, h2⟩; have H2 := Lib.hid h2; clear h2)
    all_goals go_ret2
    all_goals exact ⟨rfl, A, c, rfl, h1, H2.out⟩
theorem number_no (hg : Pg 52 p B l mx w) (q : Nat) (n : Int) (h : ¬ (wideB n = true ∧ (q : Int) + n ≤ l.length)) : Calls Try.prog 31 #[.pointer (some ⟨p, 0, none⟩), .int .u64 (q : Int), .int .i64 n] w (PartNo w) := by
  by_cases hw : wideB n = true
  · obtain ⟨k, rfl, hk⟩ := wideB_yes hw
    have C := Lib.hid (part_no hg q k (fun h1 => h ⟨hw, by omega⟩))
    clear hg h hw
    rcases hk with rfl | rfl | rfl | rfl
    all_goals
      go_enter Try.func31, Try.ntmps31
      go_wp2_with (go_at_call 23; refine C.out.mono ?_; rintro e w' ⟨rfl, rfl⟩)
      all_goals go_ret2
      all_goals exact ⟨rfl, rfl⟩
  · have h4 : ¬ (n = 1 ∨ n = 2 ∨ n = 4 ∨ n = 8) := fun h1 => hw (decide_eq_true h1)
    have d1 : (n == 1) = false := by simp; omega
    have d2 : (n == 2) = false := by simp; omega
    have d4 : (n == 4) = false := by simp; omega
    have d8 : (n == 8) = false := by simp; omega
    clear hg h hw h4
    go_enter Try.func31, Try.ntmps31
    go_wp2
    all_goals go_ret2
    all_goals exact ⟨rfl, rfl⟩

theorem pages_any (hg : Pg 52 p B l mx w) (k : Nat) (hk : l.length = 1024 * k) : Calls Try.prog 15 #[.pointer (some ⟨p, 0, none⟩)] w fun e w' => e = .returned (.int .i64 (k : Int)) ∧ w = w' := by
  obtain ⟨c, hc, c0⟩ := hg.cell0
  have hf := hg.fits
  rw [hk] at hc c0 hf
  have hq : ((1024 * k : Nat) : Int) / 1024 = (k : Int) := by omega
  clear hk hg
  go_enter Try.func15, Try.ntmps15
  go_wp2
  go_ret
  exact ⟨ret_int (by first | exact hq | omega), rfl⟩
theorem max_any (hg : Pg 52 p B l mx w) : Calls Try.prog 16 #[.pointer (some ⟨p, 0, none⟩)] w fun e w' => e = .returned (.int .i64 (mx : Int)) ∧ w = w' := by
  have c1 := hg.cell1
  clear hg
  go_enter Try.func16, Try.ntmps16
  go_wp2
  go_ret
  exact ⟨rfl, rfl⟩
end Go.Proofs.Ytljhdibnnaepdaa
