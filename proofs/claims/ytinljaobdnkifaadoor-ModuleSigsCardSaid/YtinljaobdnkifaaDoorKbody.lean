/-
  Contract of body, given one's at one less to make.
-/
import Derived.Test.YtinljaobdnkifaaDoorKlab
namespace Go.Proofs.YtinljaobdnkifaaDoor
open Go.RowKit

/-- How much lies on the stack and in the code, and how much may come. -/
def wgt (x : St) : Nat := x.s.length + x.c.length + 100 * x.left.toNat
/-- At least the height on the stack; as many labels; no more left to make, and what was made is paid by what was left. -/
def Grew (x x' : St) (ht d : Nat) : Prop := ht ≤ x'.s.length ∧ wgt x' ≤ wgt x + d ∧ x'.nl = x.nl ∧ 0 ≤ x'.left ∧ x'.left ≤ x.left
theorem Grew.trans {x y z : St} {a b d e : Nat} (h : Grew x y a d) (k : Grew y z b e) : Grew x z b (d + e) := by
  obtain ⟨_, h2, h3, h4, h5⟩ := h; obtain ⟨k1, k2, k3, k4, k5⟩ := k
  exact ⟨k1, by omega, k3.trans h3, k4, by omega⟩
theorem Fine.grew {x y : St} {ht d : Nat} (h : Fine x y ht d) (hl : 0 ≤ x.left) : Grew x y ht d := by
  obtain ⟨h1, h2, h3, h4⟩ := h
  exact ⟨h1, by unfold wgt; rw [h4]; omega, h3, by rw [h4]; exact hl, by rw [h4]; exact Int.le_refl _⟩
theorem most_of_wgt {x : St} {B : Nat} (h : wgt x ≤ B) : Most x B := by unfold wgt at h; unfold Most; omega
def GrewPost (F : Fx) (w : World) (x : St) (ht d : Nat) (e : Ending) (w' : World) : Prop := ∃ b : Bool, e = .returned (.bool b) ∧ ∃ x', Gen F w' x' ∧ Step F w x w' x' ∧ Grew x x' ht d
/-- one keeps its contract wherever at most so many are left to make. -/
def OneOk (F : Fx) (L : Int) : Prop := ∀ (w : World) (x : St) (ht : Nat), Gen F w x → ht ≤ x.s.length → 0 < x.nl → x.nl ≤ 8 → 0 ≤ x.left → x.left ≤ L → wgt x ≤ 799900 → (∃ q, F.o = some q ∧ q.length ≤ x.nl) →
  Calls Tryd.prog 25 #[.pointer (some ⟨F.G, 0, none⟩), .int .i64 (ht : Int)] w (GrewPost F w x ht 100)
def BodyOk (F : Fx) (L : Int) : Prop := ∀ (w : World) (x : St) (ht n : Nat), Gen F w x → ht ≤ x.s.length → 0 < x.nl → x.nl ≤ 8 → 0 ≤ x.left → x.left ≤ L → wgt x ≤ 800000 → (∃ q, F.o = some q ∧ q.length ≤ x.nl) → n ≤ 1000 →
  Calls Tryd.prog 15 #[.pointer (some ⟨F.G, 0, none⟩), .int .i64 (ht : Int), .int .i64 (n : Int)] w (GrewPost F w x ht 0)

theorem Gen.setLeft {F : Fx} {w : World} {x : St} (h : Gen F w x) (l : Int) : Gen F (w.setCell ⟨F.G, 15, none⟩ (.int .i64 l)) { x with left := l } ∧ Step F w x (w.setCell ⟨F.G, 15, none⟩ (.int .i64 l)) { x with left := l } :=
  h.store (.refl _ _) 15 _ (by rfl) rfl h.so h.sp h.co h.cp (fun _ hp => .inl hp) h.reads

set_option maxRecDepth 100000 in
set_option maxHeartbeats 2000000 in
theorem body_of_one {F : Fx} {L : Int} (hone : OneOk F (L - 1)) (hL : L ≤ 1000) : BodyOk F L := by
  intro w x ht n h hh hn hn8 hl0 hlL hw hqn hn1
  have HONE := Lib.hid hone
  have H := Lib.hid h
  have HR := Lib.hid (show Grew x x ht 0 from ⟨hh, Nat.le_refl _, rfl, hl0, Int.le_refl _⟩)
  have HX := Lib.hid (And.intro hn (And.intro hn8 (And.intro hlL hw)))
  have HQN := Lib.hid hqn
  clear hone h hh hn hn8 hl0 hlL hw hqn
  go_enter Tryd.func15, Tryd.ntmps15
  go_wp2_with fail
  go_loopw [7] (fun i wr => ∃ (k : Nat) (y : St), k ≤ n ∧ i = .int .i64 (k : Int) ∧ Hid (Gen F wr y) ∧ Hid (Step F w x wr y) ∧ Hid (Grew x y ht 0)) (fun i _ => n - (intOf i).toNat)
  case atStart => exact ⟨0, x, Nat.zero_le _, rfl, H, Lib.hid (Step.refl _ _ _), HR⟩
  case round =>
    clear H HR
    obtain ⟨k, y, hk, rfl, HY, HSY, HRY⟩ := hrel
    have c15 := HY.out.c15
    have f15 := HY.out.frozen 15
    by_cases hlt : k < n
    · have hd : decide ((k : Int) < (n : Int)) = true := by simp; omega
      by_cases hl : 0 < y.left
      · have hd2 : decide (0 < y.left) = true := by simpa using hl
        have hll : y.left ≤ 1000 := by have h1 := HRY.out.2.2.2.2; have h2 := HX.out.2.2.1; omega
        have e1 : IntKind.i64.wrap (y.left - 1) = y.left - 1 := IntWalk.i64_in _ (by omega)
        have HSET := Lib.hid (HY.out.setLeft (y.left - 1))
        have HC := Lib.hid (fun (wz : World) (hz : Gen F wz { y with left := y.left - 1 }) => HONE.out wz { y with left := y.left - 1 } ht hz HRY.out.1 (by show 0 < y.nl; rw [HRY.out.2.2.1]; exact HX.out.1) (by show y.nl ≤ 8; rw [HRY.out.2.2.1]; exact HX.out.2.1) (by show 0 ≤ y.left - 1; omega)
          (by show y.left - 1 ≤ L - 1; have h1 := HRY.out.2.2.2.2; have h2 := HX.out.2.2.1; omega) (by have h1 := HRY.out.2.1; have h2 := HX.out.2.2.2; unfold wgt at *; show y.s.length + y.c.length + 100 * (y.left - 1).toNat ≤ _; omega) (by obtain ⟨q, hq1, hq2⟩ := HQN.out; exact ⟨q, hq1, by show _ ≤ y.nl; rw [HRY.out.2.2.1]; exact hq2⟩))
        go_wp2_with fail
        go_at_call 25
        refine (HC.out _ HSET.out.1).mono ?_
        rintro e w2 ⟨b, rfl, x2, hg2, hs2, hr2⟩
        have H2 := Lib.hid hg2
        have HS2 := Lib.hid (HSY.out.trans (HSET.out.2.trans hs2))
        have HR2 : Hid (Grew x x2 ht 0) := by
          obtain ⟨a1, a2, a3, a4, a5⟩ := HRY.out
          obtain ⟨b1, b2, b3, b4, b5⟩ := hr2
          refine ⟨b1, ?_, b3.trans a3, b4, ?_⟩
          · unfold wgt at *
            have e : ({ y with left := y.left - 1 } : St).left = y.left - 1 := rfl
            rw [e] at b2
            show _ ≤ _
            have e2 : ({ y with left := y.left - 1 } : St).s = y.s := rfl
            have e3 : ({ y with left := y.left - 1 } : St).c = y.c := rfl
            rw [e2, e3] at b2
            omega
          · have : x2.left ≤ y.left - 1 := b5
            omega
        clear hg2 hs2 hr2 HSET HC HY HSY HRY c15 f15
        cases b
        case' true =>
          go_wp2
          go_roundw
          case rel => exact ⟨k + 1, x2, by omega, by go_num, H2, HS2, HR2⟩
          case measure => simp [intOf]; omega
        case' false =>
          go_wp2
          go_ret
          exact ⟨_, rfl, _, H2.out, HS2.out, HR2.out⟩
      · have hd2 : decide (0 < y.left) = false := by simpa using hl
        go_wp2
        go_ret
        exact ⟨_, rfl, _, HY.out, HSY.out, HRY.out⟩
    · have hd : decide ((k : Int) < (n : Int)) = false := by simp; omega
      go_wp2
      go_ret
      exact ⟨_, rfl, _, HY.out, HSY.out, HRY.out⟩
end Go.Proofs.YtinljaobdnkifaaDoor
