/-
  Contract of what the statements about ops share: 'known' is true.
-/
import Derived.Test.YtmcogjfiocfmnaaOkn
import Derived.Test.YtmcogjfiocfmnaaOacc
namespace Go.Proofs.Ytmcogjfiocfmnaa
open Go.RowKit

/-- The struct's first row lies in block s. -/
structure Kept1 (w : World) (s : Nat) (v : Value) (wr : World) : Prop where
  c0 : wr.cell? ⟨s, 0, none⟩ = some v
  lt : s < wr.heap.size
  acc : Below w.heap.size w wr
theorem Kept1.next {w wr w' : World} {s : Nat} {v : Value} (h : Kept1 w s v wr) (hb : Below wr.heap.size wr w') : Kept1 w s v w' :=
  ⟨(hb.cell (p := ⟨s, 0, none⟩) h.lt).trans h.c0, Nat.lt_of_lt_of_le h.lt hb.size, h.acc.trans (hb.mono h.acc.size)⟩
theorem Kept1.alloc {w wr : World} {s : Nat} {v : Value} (h : Kept1 w s v wr) (o : Obj) : Kept1 w s v (wr.alloc o) := h.next ((Below.refl _ _).alloc (Nat.le_refl _) o)
theorem kept1_first {w w1 : World} {p q : Value} {t : TypeId} (b1 : Below w.heap.size w w1) : Kept1 w w1.heap.size p (w1.alloc (.cells #[p, q] t)) :=
  ⟨by simp, by simp, b1.alloc b1.size _⟩

abbrev Two (w : World) (e : Ending) (w' : World) : Prop := ∃ ao c ao' n' c', e = .returned (.tuple #[.agg #[.slice ao 2 c, .slice ao' n' c'], .bool true]) ∧ Below w.heap.size w w'
abbrev Not (w : World) (e : Ending) (w' : World) : Prop := ∃ ao n c ao' n' c', e = .returned (.tuple #[.agg #[.slice ao n c, .slice ao' n' c'], .bool false]) ∧ Below w.heap.size w w'
theorem k_two (w : World) : Calls Try.prog 13 #[.int .i64 106] w (Two w) := (num_any 106 w).mono fun e w' h => by
  obtain ⟨p, q, rfl, hp, hq, hb⟩ := h
  obtain ⟨ao', n', c', rfl⟩ := hq.slice
  rw [show paramsB 106 = [127, 127] by decide +kernel] at hp
  rw [show numB 106 = true by decide +kernel]
  rcases hp with ⟨_, h0⟩ | ⟨g, cap, rfl, _⟩
  · cases h0
  · exact ⟨_, _, _, _, _, rfl, hb⟩
theorem k_not (w : World) : Calls Try.prog 13 #[.int .i64 11] w (Not w) := (num_any 11 w).mono fun e w' h => by
  obtain ⟨p, q, rfl, hp, hq, hb⟩ := h
  obtain ⟨ao, n, c, rfl⟩ := hp.slice
  obtain ⟨ao', n', c', rfl⟩ := hq.slice
  rw [show numB 11 = false by decide +kernel]
  exact ⟨_, _, _, _, _, _, rfl, hb⟩
theorem k_const (w : World) : Calls Try.prog 15 #[.int .i64 65] w fun e w' => e = .returned (.tuple #[.int .i64 127, .bool true]) ∧ w = w' := const_any 65 w
theorem k_acc (w : World) : Calls Try.prog 14 #[.int .i64 44] w fun e w' => e = .returned (.tuple #[.int .i64 1, .int .i64 127, .bool true, .bool true]) ∧ Below w.heap.size w w' := access_any 44 w
theorem k_40 (w : World) : Calls Try.prog 17 #[.int .i64 40] w (BoolPost true w) := by
  have h := known_any 40 w
  rwa [show knownB 40 = true by decide +kernel] at h
theorem k_42 (w : World) : Calls Try.prog 17 #[.int .i64 42] w (BoolPost false w) := by
  have h := known_any 42 w
  rwa [show knownB 42 = false by decide +kernel] at h
theorem k_rich (w : World) : Calls Try.prog 18 #[.int .i64 18] w (BoolPost true w) := by
  have h := rich_any 18 w
  rwa [show richB 18 = true by decide +kernel] at h
theorem k_plain (w : World) : Calls Try.prog 18 #[.int .i64 106] w (BoolPost false w) := by
  have h := rich_any 106 w
  rwa [show richB 106 = false by decide +kernel] at h

set_option maxRecDepth 100000 in
theorem all_known_any (w : World) : Calls Try.prog 11 #[] w (BoolPost true w) := by
  go_enter Try.func11, Try.ntmps11
  go_wp2_with fail
  go_at_call 13
  refine (k_two _).mono ?_
  rintro e w1 ⟨ao, c, ao', n', c', rfl, hb⟩
  have hk := kept1_first (p := .slice ao 2 c) (q := .slice ao' n' c') (t := 29) hb
  clear hb
  go_wp2_with fail
  go_at_call 13
  refine (k_not _).mono ?_
  rintro e w2 ⟨bo, bn, bc, bo', bn', bc', rfl, hb⟩
  replace hk := (hk.next hb).alloc (.cells #[.slice bo bn bc, .slice bo' bn' bc'] 29)
  clear hb
  generalize w1.heap.size = s at hk ⊢
  have c0 := hk.c0
  go_wp2_with (first
    | (go_at_call 15; refine (k_const _).mono ?_; rintro e w' ⟨rfl, rfl⟩)
    | (go_at_call 14; refine (k_acc _).mono ?_; rintro e w' ⟨rfl, hb⟩; replace hk := hk.next hb; have c0 := hk.c0; clear hb)
    | (go_at_call 17; (first | (with_reducible refine (k_40 _).mono ?_) | (with_reducible refine (k_42 _).mono ?_)); rintro e w' ⟨rfl, hb⟩; replace hk := hk.next hb; have c0 := hk.c0; clear hb)
    | (go_at_call 18; (first | (with_reducible refine (k_rich _).mono ?_) | (with_reducible refine (k_plain _).mono ?_)); rintro e w' ⟨rfl, hb⟩; replace hk := hk.next hb; have c0 := hk.c0; clear hb))
  go_ret
  exact ⟨rfl, hk.acc⟩
end Go.Proofs.Ytmcogjfiocfmnaa
