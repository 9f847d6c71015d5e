/-
  Rows of numbers in memory; contracts of Same, slices.Index, slices.Contains, of both Rich.
-/
import Derived.Test.YtmcogjfiocfmnaaOi
import Derived.BigQuiet
import Derived.Deep.QuietTactic
import Derived.WalkSmall
import Derived.Great.BuildSlice
namespace Go.Proofs.Ytmcogjfiocfmnaa
open Go.RowKit

/-- A slice literal whose cells are known beforehand, by closed facts alone. -/
theorem wpList_buildSliceN {P : Program} {ops : Array Oper} {rest : List Oper} {o : Oper} {a : Act} {w : World} {Q : Exit → Act → World → Prop} (hg : o.guard = none) (t e : TypeId) (len : Nat) (parts : Array (Nat × Operand)) (ho : o.op = .buildSlice t len parts)
    (cells : Array Value) (z : Value) (n : Nat) (hu : P.underlying t = some (.slice e)) (hi : (P.info? e).map (fun i => (i.zero, i.size)) = some (some z, n)) (hsmall : ¬ len * n > 2 ^ 24) (hpos : ¬ len * n = 0)
    (hf : Instr.fill (fun i => some (i * n, n)) ((Array.range (len * n)).map (z.cells[· % z.cells.size]!)) (parts.map fun (i, x) => (i, a.eval x)).toList = some cells)
    (h : wpList P ops Q rest (a.put o.dst (.slice (some ⟨w.heap.size, 0, none⟩) len len)) (w.alloc (.cells cells e))) : wpList P ops Q (o :: rest) a w := by
  cases hie : P.info? e with
  | none => rw [hie] at hi; cases hi
  | some ie =>
    rw [hie] at hi
    have hz : (ie.zero, ie.size) = (some z, n) := by simpa using hi
    have hz0 : ie.zero = some z := congrArg Prod.fst hz
    have hz1 : ie.size = n := congrArg Prod.snd hz
    exact wpList_buildSlice hg t e len parts ho cells ie z hu hie hz0 (by rw [hz1]; exact hsmall) (by rw [hz1]; exact hpos) (by rw [hz1]; exact hf) h

/-- v is nil and holds nothing, or a slice that reads as xs, which has an element. -/
def RowOf (w : World) (v : Value) (xs : List Int) : Prop :=
  (v = .slice none 0 0 ∧ xs = []) ∨ ∃ (g cap : Nat), v = .slice (some ⟨g, 0, none⟩) xs.length cap ∧ g < w.heap.size ∧ 0 < xs.length ∧ xs.length ≤ 1000000 ∧ ∀ j, j < xs.length → w.cell? ⟨g, j, none⟩ = some (.int .i64 (xs.getD j 0))

theorem RowOf.below {w w' : World} {v : Value} {xs : List Int} (h : RowOf w v xs) (hb : Below w.heap.size w w') : RowOf w' v xs := by
  rcases h with h | ⟨g, cap, h1, h2, h3, h4, h5⟩
  · exact .inl h
  · exact .inr ⟨g, cap, h1, Nat.lt_of_lt_of_le h2 hb.size, h3, h4, fun j hj => (hb.cell (p := ⟨g, j, none⟩) h2).trans (h5 j hj)⟩

theorem RowOf.slice {w : World} {v : Value} {xs : List Int} (h : RowOf w v xs) : ∃ (ao : Option Addr) (n c : Nat), v = .slice ao n c := by
  rcases h with ⟨h, _⟩ | ⟨g, cap, h, _⟩
  · exact ⟨none, 0, 0, h⟩
  · exact ⟨_, _, _, h⟩
theorem new_cells (w : World) (t : TypeId) (xs : List Int) (j : Nat) (h : j < xs.length) :
    (w.alloc (.cells (xs.map (Value.int .i64)).toArray t)).cell? ⟨w.heap.size, j, none⟩ = some (.int .i64 (xs.getD j 0)) := by
  rw [World.cell?_alloc_new]; simp [h]

theorem same_nil (w : World) : Calls Try.prog 9 #[.slice none 0 0, .slice none 0 0] w (BoolPost true w) := by
  go_enter Try.func9, Try.ntmps9
  go_wp2
  go_loop [5] (fun i => i = .int .i64 0) (fun i => (intOf i).toNat)
  case atStart => rfl
  case round =>
    subst hrel
    go_wp2
    go_ret
    exact ⟨rfl, Below.refl _ _⟩

theorem same_row (g h n ca cb : Nat) (xs : List Int) (hm : n ≤ 1000000) (w : World)
    (hg : ∀ j, j < n → w.cell? ⟨g, j, none⟩ = some (.int .i64 (xs.getD j 0))) (hh : ∀ j, j < n → w.cell? ⟨h, j, none⟩ = some (.int .i64 (xs.getD j 0))) :
    Calls Try.prog 9 #[.slice (some ⟨g, 0, none⟩) n ca, .slice (some ⟨h, 0, none⟩) n cb] w (BoolPost true w) := by
  have HG := Lib.hid hg
  have HH := Lib.hid hh
  clear hg hh
  go_enter Try.func9, Try.ntmps9
  go_wp2
  go_loopw [5] (fun i wr => ∃ k m : Nat, k ≤ n ∧ i = .int .i64 (k : Int) ∧ wr = w.drewN m) (fun i _ => n - (intOf i).toNat)
  case atStart => exact ⟨0, 0, Nat.zero_le _, rfl, rfl⟩
  case round =>
    obtain ⟨k, m, hk, rfl, rfl⟩ := hrel
    by_cases hlt : k < n
    · have c1 := HG.out k hlt
      have c2 := HH.out k hlt
      go_wp2_with fail
      go_quiet (fail)
      all_goals
        go_wp2
        go_roundw
        case rel => exact ⟨k + 1, _, by omega, by go_num, rfl⟩
        case measure => simp [intOf]; omega
    · go_wp2
      go_ret
      exact ⟨rfl, below_drewN (Below.refl _ _) _⟩

theorem same_rows {xs : List Int} {a b : Value} {w : World} (ha : RowOf w a xs) (hb : RowOf w b xs) : Calls Try.prog 9 #[a, b] w (BoolPost true w) := by
  rcases ha with ⟨rfl, hx⟩ | ⟨g, ca, rfl, _, h3, h4, h5⟩
  · rcases hb with ⟨rfl, _⟩ | ⟨_, _, _, _, g3, _, _⟩
    · exact same_nil w
    · subst hx; simp at g3
  · rcases hb with ⟨_, hx⟩ | ⟨h, cb, rfl, _, _, _, g5⟩
    · subst hx; simp at h3
    · exact same_row g h xs.length ca cb xs h4 w h5 g5

/-! ### Index, Contains -/
/-- A place comes back, or -1: at least 0 where x is among them. -/
def PlacePost (b : Bool) (w : World) (e : Ending) (w' : World) : Prop := ∃ r : Int, -1 ≤ r ∧ r ≤ 1000000 ∧ decide (0 ≤ r) = b ∧ e = .returned (.int .i64 r) ∧ w = w'

theorem contains_stop (xs : List Int) (x : Int) (h : ∀ j, j < xs.length → ¬ (x = xs.getD j 0)) : xs.contains x = false := by
  apply Bool.eq_false_iff.mpr
  intro hc
  have hm : x ∈ xs := by simpa using hc
  obtain ⟨i, hi, e⟩ := List.getElem_of_mem hm
  exact h i hi (by simp [hi, e])
theorem contains_hit (xs : List Int) (x : Int) (j : Nat) (hj : j < xs.length) (h : x = xs.getD j 0) : xs.contains x = true := by
  have : xs.getD j 0 ∈ xs := by simp [hj]
  simpa [h] using this

theorem index_any (g n cap : Nat) (xs : List Int) (x : Int) (hn : xs.length = n) (hm : n ≤ 1000000) (w : World)
    (hg : ∀ j, j < n → w.cell? ⟨g, j, none⟩ = some (.int .i64 (xs.getD j 0))) :
    Calls Try.prog 33 #[.slice (some ⟨g, 0, none⟩) n cap, .int .i64 x] w (PlacePost (xs.contains x) w) := by
  have hstop := contains_stop xs x
  have hhit := contains_hit xs x
  rw [hn] at hstop hhit
  generalize xs.contains x = b at hstop hhit
  have HG := Lib.hid hg
  have HS := Lib.hid hstop
  have HH := Lib.hid hhit
  clear hg hn hstop hhit
  go_enter Try.func33, Try.ntmps33
  go_wp2
  go_loop [5, 8] (fun _ i => ∃ k : Nat, k ≤ n ∧ i = .int .i64 (k : Int) ∧ Hid (∀ j, j < k → ¬ (x = xs.getD j 0))) (fun _ i => n - (intOf i).toNat)
  case atStart => exact ⟨0, Nat.zero_le _, rfl, Lib.hid (fun j hj => by omega)⟩
  case round =>
    obtain ⟨k, hk, rfl, hno⟩ := hrel
    by_cases hlt : k < n
    · have c1 := HG.out k hlt
      generalize hy : xs.getD k 0 = y at c1
      have HY := Lib.hid hy
      clear hy
      by_cases hxy : x = y
      · have e1 : (x == y) = true := by simpa using hxy
        have HXY := Lib.hid hxy
        clear hxy
        go_wp2
        go_ret
        exact ⟨k, by omega, by omega, by rw [HH.out k hlt (by rw [HY.out]; exact HXY.out)]; simp, rfl, rfl⟩
      · have e1 : (x == y) = false := by simpa using hxy
        have HXY := Lib.hid hxy
        clear hxy
        go_wp2
        go_round
        case rel =>
          refine ⟨k + 1, by omega, by go_num, Lib.hid (fun j hj => ?_)⟩
          by_cases hjk : j = k
          · subst hjk; rw [HY.out]; exact HXY.out
          · exact hno.out j (by omega)
        case measure => simp [intOf]; omega
    · go_wp2
      go_ret
      exact ⟨-1, by omega, by omega, by rw [HS.out (fun j hj => hno.out j (by omega))]; decide, rfl, rfl⟩

theorem contains_any (g n cap : Nat) (xs : List Int) (x : Int) (hn : xs.length = n) (hm : n ≤ 1000000) (w : World)
    (hg : ∀ j, j < n → w.cell? ⟨g, j, none⟩ = some (.int .i64 (xs.getD j 0))) :
    Calls Try.prog 27 #[.slice (some ⟨g, 0, none⟩) n cap, .int .i64 x] w fun e w' => e = .returned (.bool (xs.contains x)) ∧ w = w' := by
  have C := index_any g n cap xs x hn hm w hg
  generalize xs.contains x = b at C
  have HC := Lib.hid C
  clear C hg hn
  go_enter Try.func27, Try.ntmps27
  go_wp2_with fail
  go_at_call 33
  refine HC.out.mono ?_
  rintro e w' ⟨r, r1, r2, hr, rfl, rfl⟩
  have HR := Lib.hid hr
  clear hr
  go_wp2
  go_ret
  exact ⟨ret_bool HR.out, rfl⟩
end Go.Proofs.Ytmcogjfiocfmnaa
