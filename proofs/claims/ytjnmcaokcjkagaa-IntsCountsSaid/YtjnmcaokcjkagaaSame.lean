/-
  Contracts of what the statements about ints share: 'same' is always true; 'edge' gives some word; 'all' gives a row of numbers that is not empty; 'known' is true.
-/
import Derived.Test.YtjnmcaokcjkagaaWrDo
import Derived.Laws.AppendOwn
namespace Go.Proofs.Ytjnmcaokcjkagaa
open Go.RowKit

/-- A bool comes back; the world has at most new blocks. -/
def BoolPost (b : Bool) (w : World) (e : Ending) (w' : World) : Prop := e = .returned (.bool b) ∧ Below w.heap.size w w'
/-- The word x comes back; the world has at most new blocks. -/
def WordPost (x : BitVec 64) (w : World) (e : Ending) (w' : World) : Prop := e = .returned (.int .u64 (U x)) ∧ Below w.heap.size w w'
/-- A row of one to 128 numbers comes back; the world has at most new blocks. -/
def RowPost (w : World) (e : Ending) (w' : World) : Prop :=
  ∃ (n g cap : Nat) (zs : List Int), 1 ≤ n ∧ n ≤ 128 ∧ n ≤ zs.length ∧ e = .returned (.slice (some ⟨g, 0, none⟩) n cap) ∧ (∀ j, j < n → w'.cell? ⟨g, j, none⟩ = some (.int .i64 (zs.getD j 0))) ∧ Below w.heap.size w w'

theorem below_then {a b c : World} (h : Below a.heap.size a b) (k : Below b.heap.size b c) : Below a.heap.size a c := h.trans (k.mono h.size)

theorem same_any (op : Int) (a b : BitVec 64) (w : World) :
    Calls Try.prog 10 #[.int .i64 op, .int .u64 (U a), .int .u64 (U b)] w (BoolPost true w) := by
  go_enter Try.func10, Try.ntmps10
  go_wp2_with (first | (go_at_call 16; refine (do_any _ _ _ _).mono ?_; rintro e w' ⟨rfl, k, rfl⟩) | (go_at_call 17; refine (rdo_any _ _ _ _).mono ?_; rintro e w' ⟨rfl, k, rfl⟩))
  go_ret
  exact ⟨rfl, below_drewN (Below.refl _ _) _⟩

def edgeL : List (BitVec 64) := [0#64, 1#64, 2#64, 31#64, 32#64, 63#64, 64#64, 127#64, 128#64, 255#64, 32767#64, 32768#64, 2147483647#64, 2147483648#64, 2147483649#64, 4294967295#64, 4294967296#64, 9223372036854775807#64, 9223372036854775808#64, 18446744073709551615#64, 6148914691236517205#64]
/-- The word at bounds that 'edge' gives for a number. -/
def edgeW (i : Int) : BitVec 64 := edgeL.getD (i.tmod 21 % 21).toNat 0#64
theorem edge_some (j : Nat) (h : j < 21) : (edgeL.map fun x => Value.int .u64 (U x))[j]? = some (Value.int .u64 (U (edgeL.getD j 0#64))) := by
  have hl : j < edgeL.length := h
  simp [hl]

theorem edge_any (i : Int) (w : World) :
    Calls Try.prog 11 #[.int .i64 i] w (WordPost (edgeW i) w) := by
  have h0 : -20 ≤ i.tmod 21 := by have := Int.lt_tmod_of_pos i (b := 21) (by decide); omega
  have h1 : i.tmod 21 ≤ 20 := by have := Int.tmod_lt_of_pos i (b := 21) (by decide); omega
  have hx := edge_some (i.tmod 21 % 21).toNat (by omega)
  unfold edgeW
  generalize edgeL.getD (i.tmod 21 % 21).toNat 0#64 = x at hx ⊢
  have hc : ([Value.int .u64 0, Value.int .u64 1, Value.int .u64 2, Value.int .u64 31, Value.int .u64 32, Value.int .u64 63, Value.int .u64 64, Value.int .u64 127, Value.int .u64 128, Value.int .u64 255, Value.int .u64 32767, Value.int .u64 32768, Value.int .u64 2147483647, Value.int .u64 2147483648, Value.int .u64 2147483649, Value.int .u64 4294967295, Value.int .u64 4294967296, Value.int .u64 9223372036854775807, Value.int .u64 9223372036854775808, Value.int .u64 18446744073709551615, Value.int .u64 6148914691236517205] : List Value)[(i.tmod 21 % 21).toNat]? = some (Value.int .u64 (U x)) := hx
  clear hx
  go_enter Try.func11, Try.ntmps11
  go_wp2
  go_ret
  exact ⟨rfl, (Below.refl _ _).alloc (Nat.le_refl _) _⟩
/-! ### known -/
theorem k_div (w : World) : Calls Try.prog 16 #[.int .i64 109, .int .u64 7, .int .u64 0] w fun e w' => e = .returned (.tuple #[.int .u64 0, .int .i64 2]) ∧ ∃ k, w' = w.drewN k := do_any 109 7#64 0#64 w
theorem k_rem (w : World) : Calls Try.prog 16 #[.int .i64 111, .int .u64 2147483648, .int .u64 4294967295] w fun e w' => e = .returned (.tuple #[.int .u64 0, .int .i64 0]) ∧ ∃ k, w' = w.drewN k := do_any 111 2147483648#64 4294967295#64 w
theorem k_ext (w : World) : Calls Try.prog 16 #[.int .i64 192, .int .u64 128, .int .u64 0] w fun e w' => e = .returned (.tuple #[.int .u64 4294967168, .int .i64 0]) ∧ ∃ k, w' = w.drewN k := do_any 192 128#64 0#64 w
theorem k_sign (w : World) : Calls Try.prog 12 #[.int .u64 255, .int .i64 8] w fun e w' => e = .returned (.int .i64 (-1)) ∧ w = w' := sign_any 255#64 8 w
theorem k_yes (w : World) : Calls Try.prog 8 #[.int .i64 106] w fun e w' => e = .returned (.bool true) ∧ w = w' := is_any 106 w
theorem k_no (w : World) : Calls Try.prog 8 #[.int .i64 97] w fun e w' => e = .returned (.bool false) ∧ w = w' := is_any 97 w

theorem known_any (w : World) : Calls Try.prog 14 #[] w (BoolPost true w) := by
  go_enter Try.func14, Try.ntmps14
  go_wp2_with (first | (go_at_call 16; (first | (with_reducible refine (k_div _).mono ?_) | (with_reducible refine (k_rem _).mono ?_) | (with_reducible refine (k_ext _).mono ?_)); rintro e w' ⟨rfl, k, rfl⟩) | (go_at_call 12; refine (k_sign _).mono ?_; rintro e w' ⟨rfl, rfl⟩) | (go_at_call 8; (first | (with_reducible refine (k_yes _).mono ?_) | (with_reducible refine (k_no _).mono ?_)); rintro e w' ⟨rfl, rfl⟩))
  go_ret
  exact ⟨rfl, below_drewN (Below.refl _ _) _⟩

/-! ### all -/
theorem Try.info_int : (Try.prog.info? 3).map (fun i => (i.zero, i.size, i.bytes)) = some (some (.int .i64 0), 1, 8) := by kernel_rfl

theorem all_any (w : World) : Calls Try.prog 15 #[] w (RowPost w) := by
  obtain ⟨i0, hi, hz0, hz1, hz2⟩ := info_parts Try.info_int
  go_enter Try.func15, Try.ntmps15
  go_wp2
  go_loopw [1, 2] (fun v i wr => ∃ (j : Nat) (ops : List Int), j ≤ 128 ∧ ops.length ≤ j ∧ (0 < j → 0 < ops.length) ∧ i = .int .i64 (69 + (j : Int)) ∧ wr.ownsRow w.heap.size 3 1 v ops.length (ops.map (Value.int .i64)) ∧ Below w.heap.size w wr) (fun _ i _ => 200 - (intOf i).toNat)
  case atStart => exact ⟨0, [], by omega, Nat.zero_le _, by omega, rfl, World.ownsRow_nil _ _ _ _, Below.refl _ _⟩
  case round =>
    obtain ⟨j, ops, hj, hl, hpos, rfl, hown, hnx⟩ := hrel
    by_cases hlt : j < 128
    · by_cases hB : isB (69 + (j : Int)) = true
      · go_wp2_with (first
          | (go_at_call 9; refine (ris_any _ _).mono ?_; rintro e w' ⟨rfl, rfl⟩)
          | (at_builtin; refine wpList_append_own _ rfl _ _ 28 rfl w.heap.size 3 i0 (.int .i64 0) 1 8 Try.underlying28 hi hz0 hz1 hz2 rfl (by decide) _ _ _ rfl (hown.alloc _) ⟨wr.heap.size, 0, none⟩ 1 1 [.int .i64 (69 + (j : Int))] rfl rfl ?c1 ?c2 ?c3 ?c4 ?c5 ?_))
        case c1 =>
          intro j' u hj'
          match j', hj' with
          | 0, hj' => simp at hj'; subst hj'; simp [Addr.add]
        case c2 => intro u hu; simp at hu; subst hu; rfl
        case c3 => unfold maxLen; omega
        case c4 => omega
        case c5 => have := hnx.size; simp; omega
        · intro v' w1 hown' hgrow _
          have hnx1 : Below w.heap.size w w1 := (hnx.alloc (by have := hnx.size; omega) _).grown hgrow (by have := hnx.size; simp; omega) (fun k hk => (hown.lt k hk).1)
          have hown1 : w1.ownsRow w.heap.size 3 1 v' (ops ++ [69 + (j : Int)]).length ((ops ++ [69 + (j : Int)]).map (Value.int .i64)) := by simpa using hown'
          clear hown hgrow hown' hnx
          go_wp2
          go_roundw
          case rel => exact ⟨j + 1, ops ++ [69 + (j : Int)], by omega, by simp; omega, by simp, by go_num, hown1, hnx1⟩
          case measure => simp [intOf]; omega
      · have hB2 : isB (69 + (j : Int)) = false := by simpa using hB
        have hj0 : 0 < j := by
          by_cases h : j = 0
          · subst h; exact absurd rfl hB
          · omega
        clear hB
        go_wp2_with (go_at_call 9; refine (ris_any _ _).mono ?_; rintro e w' ⟨rfl, rfl⟩)
        go_roundw
        case rel => exact ⟨j + 1, ops, by omega, by omega, fun _ => hpos hj0, by go_num, hown, hnx⟩
        case measure => simp [intOf]; omega
    · have hp : 0 < ops.length := hpos (by omega)
      go_wp2
      go_ret
      rcases hown.2 with ⟨rfl, h0⟩ | ⟨g, cap, cur, rfl, hg, hcur, hcap, hmax, hsize, htake⟩
      · omega
      · refine ⟨ops.length, g, cap, ops, by omega, by omega, Nat.le_refl _, rfl, ?_, hnx⟩
        intro j' hj'
        have h := hown.cells (g := g) rfl j' (.int .i64 (ops.getD j' 0)) (by simp [hj'])
        have e : (⟨g, 0, none⟩ : Addr).add j' = ⟨g, j', none⟩ := by unfold Addr.add; split <;> simp_all
        rw [e] at h
        exact h
end Go.Proofs.Ytjnmcaokcjkagaa
