/-
  Contract of ops.All: all known ones, rising.
-/
import Derived.Test.YtmcogjfiocfmnaaOkk
import Derived.Laws.AppendOwn
namespace Go.Proofs.Ytmcogjfiocfmnaa
open Go.RowKit

theorem Try.info_int : (Try.prog.info? 3).map (fun i => (i.zero, i.size, i.bytes)) = some (some (.int .i64 0), 1, 8) := by kernel_rfl

/-- What the call owns stays so while blocks below 'base' and new ones alone may turn. -/
theorem owns_below {w w' : World} {base : Nat} {e : TypeId} {size : Nat} {v : Value} {n : Nat} {xs : List Value} (h : w.ownsRow base e size v n xs) (hb : Below w.heap.size w w') : w'.ownsRow base e size v n xs := by
  obtain ⟨h1, h2⟩ := h
  refine ⟨h1, ?_⟩
  rcases h2 with h2 | ⟨g, cap, cur, r1, r2, r3, r4⟩
  · exact .inl h2
  · have hg : g < w.heap.size := (Array.getElem?_eq_some_iff.1 r3).1
    exact .inr ⟨g, cap, cur, r1, r2, (hb.block g hg).trans r3, r4⟩

theorem row_owned {w : World} {base : Nat} {e : TypeId} {v : Value} {xs : List Int} (h : w.ownsRow base e 1 v xs.length (xs.map (Value.int .i64))) (h0 : 0 < xs.length) (h1 : xs.length ≤ 1000000) : RowOf w v xs := by
  rcases h.2 with ⟨_, h2⟩ | ⟨g, cap, cur, rfl, _, hcur, _⟩
  · omega
  · refine .inr ⟨g, cap, rfl, (Array.getElem?_eq_some_iff.1 hcur).1, h0, h1, fun j hj => ?_⟩
    have h3 := h.cells (g := g) rfl j (.int .i64 (xs.getD j 0)) (by simp [hj])
    have e : (⟨g, 0, none⟩ : Addr).add j = ⟨g, j, none⟩ := by unfold Addr.add; split <;> simp_all
    rw [e] at h3
    exact h3

/-- What ops.All has gathered after k of its two rounds. -/
def part (k : Nat) : List Int := if k = 0 then [] else if k = 1 then gather 0 256 else allL
theorem part_step (k : Nat) (hk : k < 2) (f : Int) (hf : f = [0, 64512].getD k 0) : part (k + 1) = part k ++ gather f 256 := by
  subst hf
  match k, hk with
  | 0, _ => rfl
  | 1, _ => exact all_own.symm
theorem part_le (k : Nat) : (part k).length ≤ 512 := by
  unfold part
  have := gather_le 0 256
  have := all_length
  split <;> (try split) <;> simp <;> omega
/-- A row of all known ones. -/
def AllPost (w : World) (e : Ending) (w' : World) : Prop := ∃ v : Value, e = .returned v ∧ RowOf w' v allL ∧ Below w.heap.size w w'

set_option maxRecDepth 10000 in
set_option maxHeartbeats 1000000 in
theorem all_any (w : World) : Calls Try.prog 10 #[] w (AllPost w) := by
  obtain ⟨i0, hi, hz0, hz1, hz2⟩ := info_parts Try.info_int
  go_enter Try.func10, Try.ntmps10
  go_wp2
  have c0 := new_cells w 3 [0, 64512]
  have b0 : Below w.heap.size w (w.alloc (.cells #[.int .i64 0, .int .i64 64512] 3)) := (Below.refl _ _).alloc (Nat.le_refl _) _
  have z0 : w.heap.size < (w.alloc (.cells #[.int .i64 0, .int .i64 64512] 3)).heap.size := by simp
  simp only [List.map_cons, List.map_nil] at c0
  generalize w.alloc (.cells #[.int .i64 0, .int .i64 64512] 3) = W at c0 b0 z0 ⊢
  have HC := Lib.hid c0
  clear c0
  go_loopw [1, 7] (fun v i wr => ∃ k : Nat, k ≤ 2 ∧ i = .int .i64 (k : Int) ∧ wr.ownsRow W.heap.size 3 1 v (part k).length ((part k).map (Value.int .i64)) ∧ Below W.heap.size W wr) (fun _ i _ => 2 - (intOf i).toNat)
  case atStart => exact ⟨0, Nat.zero_le _, rfl, World.ownsRow_nil _ _ _ _, Below.refl _ _⟩
  case round =>
    obtain ⟨k, hk, rfl, hown, hnx⟩ := hrel
    obtain ⟨wo, rfl⟩ : ∃ wo : World, wo = wr := ⟨_, rfl⟩
    by_cases hlt : k < 2
    · have hd1 : decide ((k : Int) < 2) = true := by simp; omega
      have c0 : wo.cell? ⟨w.heap.size, k, none⟩ = _ := (hnx.cell (p := ⟨w.heap.size, k, none⟩) z0).trans (HC.out k hlt)
      obtain ⟨f, hf⟩ : ∃ f : Int, f = [0, 64512].getD k 0 := ⟨_, rfl⟩
      have hf0 : 0 ≤ f := by rw [hf]; exact (by decide : ∀ k : Fin 2, (0 : Int) ≤ [0, 64512].getD k.val 0) ⟨k, hlt⟩
      have hf1 : f ≤ 64512 := by rw [hf]; exact (by decide : ∀ k : Fin 2, [0, 64512].getD k.val 0 ≤ (64512 : Int)) ⟨k, hlt⟩
      rw [← hf] at c0
      have hstep := part_step k hlt f hf
      have hlen := part_le k
      generalize hp : part k = ps at hown hstep hlen
      have HS := Lib.hid hstep
      clear hf hp hstep
      go_wp2
      go_loopw [1, 4] (fun v i wr => ∃ j : Nat, j ≤ 256 ∧ i = .int .i64 (f + (j : Int)) ∧ wr.ownsRow W.heap.size 3 1 v (ps ++ gather f j).length ((ps ++ gather f j).map (Value.int .i64)) ∧ Below W.heap.size W wr) (fun _ i _ => (f + 256 - intOf i).toNat)
      case atStart => exact ⟨0, Nat.zero_le _, by simp, by simpa [gather_zero] using hown, hnx⟩
      case round =>
        clear hown hnx c0
        obtain ⟨j, hj, rfl, hown, hnx⟩ := hrel
        have hlg := gather_le f j
        have hla : (ps ++ gather f j).length ≤ 768 := by simp; omega
        by_cases hlt2 : j < 256
        · cases hB : knownB (f + (j : Int)) with
          | true =>
            have hg := gather_yes f j hB
            have K := fun w => known_any (f + (j : Int)) w
            rw [hB] at K
            have HK := Lib.hid K
            have HG := Lib.hid hg
            clear K hg hB
            go_wp2_with (first
              | (go_at_call 17; refine (HK.out _).mono ?_; rintro e w' ⟨rfl, hb⟩; replace hown := owns_below hown hb; replace hnx := below_then hnx hb; clear hb)
              | (at_builtin; refine wpList_append_own _ rfl _ _ 22 rfl W.heap.size 3 i0 (.int .i64 0) 1 8 Try.underlying22 hi hz0 hz1 hz2 rfl (by decide) _ _ _ rfl (hown.alloc _) ⟨w'.heap.size, 0, none⟩ 1 1 [.int .i64 (f + (j : Int))] rfl rfl ?c1 ?c2 ?c3 ?c4 ?c5 ?_))
            case c1 =>
              intro j' u hj'
              match j', hj' with
              | 0, hj' => simp at hj'; subst hj'; simp [Addr.add]
            case c2 => intro u hu; simp at hu; subst hu; rfl
            case c3 => unfold maxLen; omega
            case c4 => omega
            case c5 => have := hnx.size; simp; omega
            · intro v' w1 hown' hgrow _
              have hnx1 : Below W.heap.size W w1 := (hnx.alloc hnx.size _).grown hgrow (by have := hnx.size; simp; omega) (fun k hk => (hown.lt k hk).1)
              have hown1 : w1.ownsRow W.heap.size 3 1 v' (ps ++ gather f (j + 1)).length ((ps ++ gather f (j + 1)).map (Value.int .i64)) := by rw [HG.out]; simpa [Nat.add_assoc] using hown'
              clear hown hgrow hown' hnx
              go_wp2
              go_roundw
              case rel => exact ⟨j + 1, by omega, by go_num, hown1, hnx1⟩
              case measure => simp [intOf]; omega
          | false =>
            have hg := gather_no f j hB
            have K := fun w => known_any (f + (j : Int)) w
            rw [hB] at K
            have HK := Lib.hid K
            have HG := Lib.hid hg
            clear K hg hB
            go_wp2_with (go_at_call 17; refine (HK.out _).mono ?_; rintro e w' ⟨rfl, hb⟩; replace hown := owns_below hown hb; replace hnx := below_then hnx hb; clear hb)
            go_roundw
            case rel => exact ⟨j + 1, by omega, by go_num, by rw [HG.out]; exact hown, hnx⟩
            case measure => simp [intOf]; omega
        · obtain rfl : j = 256 := by omega
          rw [← HS.out] at hown
          go_wp2
          go_roundw
          case rel => exact ⟨k + 1, by omega, by go_num, hown, hnx⟩
          case measure => simp [intOf]; omega
    · obtain rfl : k = 2 := by omega
      have ho : wo.ownsRow W.heap.size 3 1 _ allL.length (allL.map (Value.int .i64)) := hown
      have hr := row_owned ho (by rw [all_length]; omega) (by rw [all_length]; omega)
      go_wp2
      go_ret
      exact ⟨_, rfl, hr, b0.trans (hnx.mono (Nat.le_of_lt z0))⟩
end Go.Proofs.Ytmcogjfiocfmnaa
