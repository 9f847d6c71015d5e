/-
  OpsRich: whatever the number, the statement's function returns true: the walk.
-/
import Derived.Test.YtmcogjfiocfmnaaOkk
namespace Go.Proofs.Ytmcogjfiocfmnaa
open Go.RowKit

theorem rich_ways (z : Int) : (richB z = true ∧ knownB z = true ∧ numB z = true ∧ 192 ≤ z ∧ z ≤ 196) ∨ (richB z = true ∧ knownB z = true ∧ numB z = true ∧ 64512 ≤ z ∧ decide (z ≤ 196) = false) ∨ (richB z = true ∧ knownB z = true ∧ numB z = false ∧ True ∧ True) ∨
    (richB z = false ∧ True ∧ numB z = true ∧ z < 192 ∧ True) ∨ (richB z = false ∧ True ∧ numB z = true ∧ 196 < z ∧ z < 64512 ∧ decide (z ≤ 196) = false ∧ decide (64512 ≤ z) = false) ∨ (richB z = false ∧ True ∧ numB z = false ∧ True ∧ True) := by
  cases hr : richB z with
  | true =>
    have hk := rich_known z hr
    cases hn : numB z with
    | true =>
      have h := num_rich z hn
      rw [hr] at h
      have := of_decide_eq_true h.symm
      by_cases h1 : z ≤ 196
      · exact .inl ⟨rfl, hk, rfl, by omega, h1⟩
      · exact .inr (.inl ⟨rfl, hk, rfl, by omega, by simp; omega⟩)
    | false => exact .inr (.inr (.inl ⟨rfl, hk, rfl, trivial, trivial⟩))
  | false =>
    cases hn : numB z with
    | true =>
      have h := num_rich z hn
      rw [hr] at h
      have := of_decide_eq_false h.symm
      by_cases h1 : z < 192
      · exact .inr (.inr (.inr (.inl ⟨rfl, trivial, rfl, h1, trivial⟩)))
      · exact .inr (.inr (.inr (.inr (.inl ⟨rfl, trivial, rfl, by omega, by omega, by simp; omega, by simp; omega⟩))))
    | false => exact .inr (.inr (.inr (.inr (.inr ⟨rfl, trivial, rfl, trivial, trivial⟩))))

abbrev SomeNum (b : Bool) (w : World) (e : Ending) (w' : World) : Prop := ∃ ao n c ao' n' c', e = .returned (.tuple #[.agg #[.slice ao n c, .slice ao' n' c'], .bool b]) ∧ Below w.heap.size w w'
theorem num_some (op : Int) (w : World) : Calls Try.prog 13 #[.int .i64 op] w (SomeNum (numB op) w) := (num_any op w).mono fun e w' h => by
  obtain ⟨p, q, rfl, hp, hq, hb⟩ := h
  obtain ⟨ao, n, c, rfl⟩ := hp.slice
  obtain ⟨ao', n', c', rfl⟩ := hq.slice
  exact ⟨_, _, _, _, _, _, rfl, hb⟩

theorem rich3_any (op : Int) (w : World) : Calls Try.prog 6 #[.int .i64 op] w (BoolPost true w) := by
  go_enter Try.func6, Try.ntmps6
  go_wp2
  have c0 := new_cells w 3 [op, bits BinOp.and IntKind.i64 op 255, wrap64 (64512 + bits BinOp.and IntKind.i64 op 15)] 
  have b0 : Below w.heap.size w (w.alloc (.cells #[.int .i64 op, .int .i64 (bits BinOp.and IntKind.i64 op 255), .int .i64 (wrap64 (64512 + bits BinOp.and IntKind.i64 op 15))] 3)) := (Below.refl _ _).alloc (Nat.le_refl _) _
  have z0 : w.heap.size < (w.alloc (.cells #[.int .i64 op, .int .i64 (bits BinOp.and IntKind.i64 op 255), .int .i64 (wrap64 (64512 + bits BinOp.and IntKind.i64 op 15))] 3)).heap.size := by simp
  simp only [List.map_cons, List.map_nil] at c0
  generalize w.alloc (.cells #[.int .i64 op, .int .i64 (bits BinOp.and IntKind.i64 op 255), .int .i64 (wrap64 (64512 + bits BinOp.and IntKind.i64 op 15))] 3) = W at c0 b0 z0 ⊢
  generalize bits BinOp.and IntKind.i64 op 255 = x1 at c0 ⊢
  generalize wrap64 (64512 + bits BinOp.and IntKind.i64 op 15) = x2 at c0 ⊢
  have HC := Lib.hid c0
  clear c0
  go_loopw [15] (fun i wr => ∃ k : Nat, k ≤ 3 ∧ i = .int .i64 (k : Int) ∧ Below W.heap.size W wr) (fun i _ => 3 - (intOf i).toNat)
  case atStart => exact ⟨0, Nat.zero_le _, rfl, Below.refl _ _⟩
  case round =>
    obtain ⟨k, hk, rfl, hacc⟩ := hrel
    by_cases hlt : k < 3
    · have c0 : wr.cell? ⟨w.heap.size, k, none⟩ = _ := (hacc.cell (p := ⟨w.heap.size, k, none⟩) z0).trans (HC.out k hlt)
      generalize [op, x1, x2].getD k 0 = z at c0
      have R := fun w => rich_any z w
      have K := fun w => known_any z w
      have N := fun w => num_some z w
      have hw := rich_ways z
      generalize richB z = r at R hw
      generalize knownB z = d at K hw
      generalize numB z = n at N hw
      have HR := Lib.hid R
      have HK := Lib.hid K
      have HN := Lib.hid N
      clear R K N
      rcases hw with ⟨rfl, rfl, rfl, h1, h2⟩ | ⟨rfl, rfl, rfl, h1, h2⟩ | ⟨rfl, rfl, rfl, h1, h2⟩ | ⟨rfl, h0, rfl, h1, h2⟩ | ⟨rfl, h0, rfl, h1, h2, h3, h4⟩ | ⟨rfl, h0, rfl, h1, h2⟩
      all_goals
        go_wp2_with (first
          | (go_at_call 18; refine (HR.out _).mono ?_; rintro e w' ⟨rfl, hb⟩; replace hacc := below_then hacc hb; clear hb)
          | (go_at_call 17; refine (HK.out _).mono ?_; rintro e w' ⟨rfl, hb⟩; replace hacc := below_then hacc hb; clear hb)
          | (go_at_call 13; refine (HN.out _).mono ?_; rintro e w1 ⟨ao, n, c, ao', n', c', rfl, hb⟩; replace hacc := (below_then hacc hb).alloc (below_then hacc hb).size (.cells #[.slice ao n c, .slice ao' n' c'] 29); clear hb))
        go_roundw
        case rel => exact ⟨k + 1, by omega, by go_num, hacc⟩
        case measure => simp [intOf]; omega
    · go_wp2_with (go_at_call 11; refine (all_known_any _).mono ?_; rintro e w' ⟨rfl, hb⟩; replace hacc := below_then hacc hb; clear hb)
      go_ret
      exact ⟨rfl, b0.trans (hacc.mono (Nat.le_of_lt z0))⟩
end Go.Proofs.Ytmcogjfiocfmnaa
