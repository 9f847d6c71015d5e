/-
  Contracts of the statements' own number, and of Within from 0.
-/
import Derived.Test.YtmcippkhfjgkoaaDoorTito
namespace Go.Proofs.YtmcippkhfjgkoaaDoor
open Go.RowKit

/-- A digit as a text. -/
theorem conv_digit (d : Nat) (hd : d < 10) : ∃ s : ByteArray, nums s = [48 + d] ∧ s.size = 1 ∧ ∀ w : World, (convert 21 9 (.int .i32 (48 + (d : Int)))).run Tryd.prog w = .ok (.string s) w := by
  have h : d = 0 ∨ d = 1 ∨ d = 2 ∨ d = 3 ∨ d = 4 ∨ d = 5 ∨ d = 6 ∨ d = 7 ∨ d = 8 ∨ d = 9 := by omega
  rcases h with rfl | rfl | rfl | rfl | rfl | rfl | rfl | rfl | rfl | rfl
  · exact ⟨⟨#[48]⟩, by decide +kernel, rfl, fun w => by kernel_rfl⟩
  · exact ⟨⟨#[49]⟩, by decide +kernel, rfl, fun w => by kernel_rfl⟩
  · exact ⟨⟨#[50]⟩, by decide +kernel, rfl, fun w => by kernel_rfl⟩
  · exact ⟨⟨#[51]⟩, by decide +kernel, rfl, fun w => by kernel_rfl⟩
  · exact ⟨⟨#[52]⟩, by decide +kernel, rfl, fun w => by kernel_rfl⟩
  · exact ⟨⟨#[53]⟩, by decide +kernel, rfl, fun w => by kernel_rfl⟩
  · exact ⟨⟨#[54]⟩, by decide +kernel, rfl, fun w => by kernel_rfl⟩
  · exact ⟨⟨#[55]⟩, by decide +kernel, rfl, fun w => by kernel_rfl⟩
  · exact ⟨⟨#[56]⟩, by decide +kernel, rfl, fun w => by kernel_rfl⟩
  · exact ⟨⟨#[57]⟩, by decide +kernel, rfl, fun w => by kernel_rfl⟩
def preB (m : Nat) : List Nat := if m = 0 then [] else decB m
theorem pre_step (m : Nat) (h0 : 0 < m) (hm : m < 100) : preB m = preB (m / 10) ++ [48 + m % 10] := by
  unfold preB decB
  rw [if_neg (by omega)]
  by_cases h : m < 10
  · rw [if_pos h, if_pos (by omega), Nat.mod_eq_of_lt h]; rfl
  · rw [if_neg h, if_neg (by omega), if_pos (by omega)]; rfl

set_option maxHeartbeats 1000000 in
theorem lnumber_any (n : Nat) (h0 : 0 < n) (hn : n < 100) (w : World) : Calls Tryd.prog 10 #[.int .i64 (n : Int)] w (TextPost (decB n) w) := by
  have hst : preB n = decB n := by unfold preB; rw [if_neg (by omega)]
  have HST := Lib.hid hst
  clear hst
  go_enter Tryd.func10, Tryd.ntmps10
  go_wp2
  go_loop [0, 3] (fun m s => ∃ (m' : Nat) (s' : ByteArray), m = .int .i64 (m' : Int) ∧ s = .string s' ∧ m' < 100 ∧ m' + s'.size ≤ 100 ∧ Hid (preB m' ++ nums s' = decB n)) (fun m _ => (intOf m).toNat)
  case atStart => exact ⟨n, ⟨#[]⟩, rfl, rfl, hn, by show n + 0 ≤ 100; omega, Lib.hid (by rw [HST.out]; exact List.append_nil _)⟩
  case round =>
    obtain ⟨m, s, rfl, rfl, hm, hsz, hp⟩ := hrel
    by_cases hlt : 0 < m
    · obtain ⟨d, hd⟩ : ∃ d, m % 10 = d := ⟨_, rfl⟩
      obtain ⟨t, ht1, ht2, ht3⟩ := conv_digit d (by omega)
      have hdz : (m : Int) % 10 = (d : Int) := by omega
      have hps := pre_step m hlt hm
      rw [hd] at hps
      have HPS := Lib.hid hps
      have HT1 := Lib.hid ht1
      have hd9 : d ≤ 9 := by omega
      clear hps ht1 hd
      go_wp2
      go_round
      case rel => exact ⟨m / 10, t ++ s, by go_num, rfl, by omega, by rw [show (t ++ s).size = t.size + s.size from ByteArray.size_append]; omega, Lib.hid (by rw [nums_append, HT1.out, ← hp.out, HPS.out, List.append_assoc])⟩
      case measure => simp [intOf]; omega
    · obtain rfl : m = 0 := by omega
      go_wp2
      go_ret
      exact ⟨⟨s, rfl, by have := hp.out; exact this⟩, rfl⟩

/-- A number from 0 to h comes back; the world is as it was. -/
def UptoPost (h : Nat) (w : World) (e : Ending) (w' : World) : Prop := (∃ q : Nat, q ≤ h ∧ e = .returned (.int .i64 (q : Int))) ∧ w = w'
theorem upto_mk {v : Int} {h : Nat} (h0 : 0 ≤ v) (h1 : v ≤ (h : Int)) : ∃ q : Nat, q ≤ h ∧ Ending.returned (.int .i64 v) = .returned (.int .i64 (q : Int)) :=
  ⟨v.toNat, by omega, ret_int (by omega)⟩
theorem within0_any (n : Int) (h : Nat) (hh : h ≤ 1000000) (w : World) :
    Calls Tryd.prog 9 #[.int .i64 n, .int .i64 0, .int .i64 (h : Int)] w (UptoPost h w) := by
  have hz : ((h : Int) - 0 + 1 == 0) = false := by simp; omega
  have hz2 : ((h : Int) + 1 == 0) = false := by simp; omega
  have h0 : (0 : Int) < (h : Int) + 1 := by omega
  have t0 := Int.lt_tmod_of_pos n h0
  have t1 := Int.tmod_lt_of_pos n h0
  have e0 := Int.emod_nonneg n (Int.ne_of_gt h0)
  have e1 := Int.emod_lt_of_pos n h0
  go_enter Tryd.func9, Tryd.ntmps9
  go_wp2
  all_goals go_ret
  all_goals exact ⟨upto_mk (by omega) (by omega), rfl⟩
end Go.Proofs.YtmcippkhfjgkoaaDoor
