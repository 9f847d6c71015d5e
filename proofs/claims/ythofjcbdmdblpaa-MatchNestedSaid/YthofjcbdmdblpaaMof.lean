/-
  Contract of match.Of.
-/
import Derived.Test.YthofjcbdmdblpaaMp
namespace Go.Proofs.Ythofjcbdmdblpaa
open Go.RowKit

/-- Blocks that v holds. -/
def SpIn (w : World) (v : Value) (l : List Sp) : Prop :=
  ∃ A c, v = .slice A l.length c ∧ l.length ≤ 900000 ∧ (0 < l.length → ∃ g, A = some ⟨g, 0, none⟩ ∧ g < w.heap.size ∧ ∀ j, j < l.length → w.cell? ⟨g, j * 3, none⟩ = some (.int .i64 (spAt l j).1) ∧ w.cell? ⟨g, j * 3 + 1, none⟩ = some (.int .i64 (spAt l j).2.1) ∧ w.cell? ⟨g, j * 3 + 2, none⟩ = some (.int .i64 (spAt l j).2.2))
theorem SpIn.below {w w' : World} {v : Value} {l : List Sp} (h : SpIn w v l) (hb : Below w.heap.size w w') : SpIn w' v l := by
  obtain ⟨A, c, rfl, h1, h2⟩ := h
  refine ⟨A, c, rfl, h1, fun h0 => ?_⟩
  obtain ⟨g, rfl, hg, hc⟩ := h2 h0
  refine ⟨g, rfl, Nat.lt_of_lt_of_le hg hb.size, fun j hj => ?_⟩
  obtain ⟨a, b, c⟩ := hc j hj
  exact ⟨(hb.cell (p := ⟨g, j * 3, none⟩) hg).trans a, (hb.cell (p := ⟨g, j * 3 + 1, none⟩) hg).trans b, (hb.cell (p := ⟨g, j * 3 + 2, none⟩) hg).trans c⟩
theorem SpIn.nil (w : World) : SpIn w (.slice none 0 0) [] := ⟨none, 0, rfl, Nat.zero_le _, fun h => by simp at h⟩
theorem SpIn.owned {T : TypeId} {w : World} {v : Value} {l : List Sp} (h : w.ownsRow 0 T 3 v l.length (flatS l)) (hl : l.length ≤ 900000) : SpIn w v l := by
  rcases h.2 with ⟨rfl, h0⟩ | ⟨g, cap, cur, rfl, _⟩
  · obtain rfl := List.eq_nil_of_length_eq_zero h0
    exact .nil w
  · refine ⟨_, cap, rfl, hl, fun _ => ⟨g, rfl, (h.lt g rfl).2, fun j hj => ?_⟩⟩
    obtain ⟨f1, f2, f3⟩ := flatS_at l j hj
    exact ⟨by rw [h.cellAt _ (by omega), f1], by rw [h.cellAt _ (by omega), f2], by rw [h.cellAt _ (by omega), f3]⟩
/-- What Of leaves. -/
def OfPost (ops : List Int) (w : World) (e : Ending) (w' : World) : Prop :=
  ∃ v, e = .returned (.tuple #[v, .int .i64 (matchP ops).2]) ∧ SpIn w' v (matchP ops).1 ∧ Below w.heap.size w w'
theorem of_bad {ops : List Int} {n : Int} {w w' : World} (h : matchP ops = ([], n)) (hb : Below w.heap.size w w') : OfPost ops w (.returned (.tuple #[.slice none 0 0, .int .i64 n])) w' :=
  ⟨_, by rw [h], by rw [h]; exact .nil _, hb⟩

set_option maxRecDepth 100000 in
set_option maxHeartbeats 1000000 in
theorem of_any (w : World) (A : Option Addr) (n c : Nat) (ops : List Int) (hc : CodeAt w A n ops) (hn : ops.length = n) (hm : n ≤ 900000) (hcn : n ≤ c) :
    Calls Try.prog 12 #[.slice A n c] w (OfPost ops w) := by
  rcases Nat.eq_zero_or_pos n with h0 | h0
  · subst h0
    have hp : matchP ops = ([], 12) := by unfold matchP; rw [if_pos (.inl hn)]
    clear hc hn
    have HP := Lib.hid hp
    clear hp
    go_enter Try.func12, Try.ntmps12
    go_wp2
    go_ret2
    exact of_bad HP.out (.refl _ _)
  · obtain ⟨l, rfl⟩ : ∃ l, n = l + 1 := ⟨n - 1, by omega⟩
    have hcl := hc.less (Nat.le_succ l)
    obtain ⟨g, o, rfl, hg, hcell⟩ := hc h0
    obtain ⟨_, _, _, _, _, _, k0, _⟩ := hcell l (Nat.lt_succ_self l)
    have HN := Lib.hid hn
    have HCL := Lib.hid hcl
    clear hc hcell hcl hn
    obtain ⟨X, hX⟩ : ∃ X, ops.getD l 0 = X := ⟨_, rfl⟩
    rw [hX] at k0
    have HX := Lib.hid hX
    clear hX
    by_cases h11 : X = 11
    case' neg =>
      have hd : (X == 11) = false := by simpa using h11
      have hd2 : (X != 11) = true := by simpa using h11
      have HP : Hid (matchP ops = ([], 12)) := by
        unfold Hid matchP
        rw [if_pos (.inr (by rw [HN.out, Nat.add_sub_cancel, HX.out]; exact h11))]
      clear h11
      go_enter Try.func12, Try.ntmps12
      go_wp2
      go_ret2
      exact of_bad HP.out (.refl _ _)
    subst h11
    have HPA := Lib.hid (pair_any w (some ⟨g, o, none⟩) l c ops HCL.out (by omega))
    have HM : Hid (matchP ops = match mrun ops 0 l with | none => (([] : List Sp), (12 : Int)) | some s => if s.op ≠ [] then ([], 12) else if 64 < s.deep then ([], 26) else (s.out, 0)) := by
      unfold Hid matchP
      rw [if_neg (by rw [HN.out, Nat.add_sub_cancel, HX.out]; simp), HN.out, Nat.add_sub_cancel]
      cases mrun ops 0 l <;> rfl
    go_enter Try.func12, Try.ntmps12
    have hlc : l ≤ c := by omega
    go_wp2_with fail
    go_at_call 24
    refine HPA.out.mono ?_
    intro e w' hp
    unfold PairPost at hp
    cases hr : mrun ops 0 l with
    | none =>
      rw [hr] at hp
      have hm2 := HM.out
      rw [hr] at hm2
      have HM2 := Lib.hid hm2
      obtain ⟨rfl, hb⟩ := hp
      clear hr hm2 HM HPA
      go_wp2
      go_ret2
      exact of_bad HM2.out hb
    | some s =>
      rw [hr] at hp
      have hm2 := HM.out
      rw [hr] at hm2
      have hv := mrun_inv _ _ _ _ hr
      have hsl : s.out.length ≤ 900000 := by have := hv.outl; omega
      obtain ⟨v, rfl, ho, hnew, hb⟩ := hp
      obtain ⟨Av, cv, rfl⟩ := owns_slice ho
      have HO := Lib.hid (SpIn.owned ho hsl)
      clear hr HM HPA hnew ho hv
      simp only at hm2
      by_cases h1 : s.op.length = 0
      · have h2 : s.op = [] := List.eq_nil_of_length_eq_zero h1
        rw [if_neg (by simp [h2])] at hm2
        have hd1 : decide (s.op.length = 0) = true := by simp [h1]
        rw [hd1]
        clear h1 h2 hd1
        by_cases h3 : 64 < s.deep
        · rw [if_pos h3] at hm2
          have hd3 : decide ((64 : Int) < (s.deep : Int)) = true := by simp; omega
          have HM2 := Lib.hid hm2
          clear hm2 h3
          go_wp2
          go_ret2
          exact of_bad HM2.out hb
        · rw [if_neg h3] at hm2
          have hd3 : decide ((64 : Int) < (s.deep : Int)) = false := by simp; omega
          have HM2 := Lib.hid hm2
          clear hm2 h3
          go_wp2
          go_ret2
          exact ⟨.slice Av s.out.length cv, by rw [HM2.out]; rfl, by rw [HM2.out]; exact HO.out, hb⟩
      · have h2 : s.op ≠ [] := fun e => h1 (by rw [e]; rfl)
        rw [if_pos h2] at hm2
        have hd1 : decide (s.op.length = 0) = false := decide_eq_false h1
        rw [hd1]
        have HM2 := Lib.hid hm2
        clear h1 h2 hd1 hm2
        go_wp2
        go_ret2
        exact of_bad HM2.out hb
end Go.Proofs.Ythofjcbdmdblpaa
