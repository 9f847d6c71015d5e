/-
  Contract of the document's row.
-/
import Derived.Test.YtebnlblkjdopaaaLread
namespace Go.Proofs.Ytebnlblkjdopaaa
open Go.RowKit

abbrev RowPost (v : Value) (b : Bool) (w : World) (e : Ending) (w' : World) : Prop := e = .returned (.tuple #[v, .bool b]) ∧ w = w'
theorem row_out (A : Option Addr) (n cap M : Nat) (p : Int) (h : p < 0 ∨ (n : Int) ≤ p) (w : World) :
    Calls Try.prog 24 #[.slice A n cap, .int .i64 p, .int .i64 (M : Int)] w (RowPost (.slice none 0 0) false w) := by
  rcases h with h | h
  · go_enter Try.func24, Try.ntmps24
    go_wp2
    go_ret2
    exact ⟨rfl, rfl⟩
  · go_enter Try.func24, Try.ntmps24
    go_wp2
    go_loop [8] (fun i => i = .int .i64 0) (fun i => (intOf i).toNat)
    case atStart => rfl
    case round =>
      subst hrel
      go_wp2
      all_goals go_ret2
      all_goals exact ⟨rfl, rfl⟩

/-- What row gives: the bytes that were found, or none. -/
def rowV (g o k cap c : Nat) : Value := if c = 0 then .slice none 0 0 else .slice (some ⟨g, o + k, none⟩) c (cap - k)
theorem row_ret {g o k j cap c : Nat} (h : c = j + 1) (w : World) : RowPost (rowV g o k cap c) (c != 0) w (.returned (.tuple #[.slice (some ⟨g, o + k, none⟩) (k + j + 1 - k) (cap - k), .bool true])) w := by
  subst h
  rw [show k + j + 1 - k = j + 1 by omega]
  exact ⟨rfl, rfl⟩
set_option maxRecDepth 10000 in
theorem row_in (g o n cap k M c : Nat) (l : List Nat) (hk : k < n) (hc : n ≤ cap) (hn : n ≤ 1000000) (hM : M ≤ 10) (w : World)
    (hl : ∀ x ∈ l, x < 256) (hcell : ∀ j, j < n → w.cell? ⟨g, o + j, none⟩ = some (.int .u8 (l.getD j 0 : Nat))) (hln : l.length = n) (hcn : cnt (l.drop k) M = c) :
    Calls Try.prog 24 #[.slice (some ⟨g, o, none⟩) n cap, .int .i64 (k : Int), .int .i64 (M : Int)] w (RowPost (rowV g o k cap c) (c != 0) w) := by
  have HL := Lib.hid hl
  have HC := Lib.hid hcell
  have HN := Lib.hid hln
  have HCN := Lib.hid hcn
  clear hl hcell hln hcn
  go_enter Try.func24, Try.ntmps24
  go_wp2
  go_loop [8] (fun i => ∃ j : Nat, j ≤ M ∧ k + j ≤ n ∧ i = .int .i64 (j : Int) ∧ Hid (∀ t, t < j → 128 ≤ (l.drop k).getD t 0)) (fun i => M - (intOf i).toNat)
  case atStart => exact ⟨0, Nat.zero_le _, by omega, rfl, Lib.hid (fun t ht => by omega)⟩
  case round =>
    obtain ⟨j, hj, hkj, rfl, hno⟩ := hrel
    by_cases hlt : j < M ∧ k + j < n
    · obtain ⟨hl1, hl2⟩ := hlt
      have c0 := HC.out (k + j) hl2
      have hx := getD_lt (by decide) HL.out (k + j)
      have hd : (l.drop k).getD j 0 = l.getD (k + j) 0 := by rw [List.getD_eq_getElem?_getD, List.getElem?_drop, ← List.getD_eq_getElem?_getD]
      generalize l.getD (k + j) 0 = x at c0 hx hd
      have HD := Lib.hid hd
      clear hd
      have hl3 : (j : Int) < (n : Int) - (k : Int) := by omega
      have hw : (k : Int) + (j : Int) = ((k + j : Nat) : Int) := by omega
      by_cases h8 : x < 128
      · have hcc : c = j + 1 := by
          rw [← HCN.out]
          exact cnt_hit (l.drop k) M j hl1 (by rw [List.length_drop, HN.out]; omega) (by rw [HD.out]; exact h8) hno.out
        have HCC := Lib.hid hcc
        clear hcc hw
        go_wp2
        go_ret2
        exact row_ret HCC.out w
      · clear hw
        go_wp2
        go_round
        case rel =>
          refine ⟨j + 1, by omega, by omega, by go_num, Lib.hid (fun t ht => ?_)⟩
          by_cases htj : t = j
          · subst htj; rw [HD.out]; omega
          · exact hno.out t (by omega)
        case measure => simp [intOf]; omega
    · have hcc : c = 0 := by
        rw [← HCN.out]
        exact cnt_none (l.drop k) M (fun t h1 h2 => hno.out t (by rw [List.length_drop, HN.out] at h2; omega))
      have HCC := Lib.hid hcc
      clear hcc
      by_cases hl1 : j < M
      · have hl3 : ¬ (j : Int) < (n : Int) - (k : Int) := by omega
        go_wp2
        go_ret2
        rw [HCC.out]
        exact ⟨rfl, rfl⟩
      · go_wp2
        go_ret2
        rw [HCC.out]
        exact ⟨rfl, rfl⟩
end Go.Proofs.Ytebnlblkjdopaaa
