/-
  body and one, by induction on how much is left to make.
-/
import Derived.Test.YtdfonjnplmfhfaaKone
namespace Go.Proofs.Ytdfonjnplmfhfaa
open Go.RowKit

theorem body_ok {F : Fx} (hE : ∀ k, ¬ F.E k) (n : Nat) : n ≤ 1000 → ∀ o, BodyOk { F with o := o } ((n : Int) - 1) ∧ OneOk { F with o := o } ((n : Int) - 1) := by
  induction n with
  | zero =>
    intro _ o
    exact ⟨fun w x ht n h hh hn hn8 hl0 hlL => by omega, fun w x ht h hh hn hn8 hl0 hlL => by omega⟩
  | succ n ih =>
    intro hn o
    have hb : ∀ o, BodyOk { F with o := o } (((n + 1 : Nat) : Int) - 1) := fun o => body_of_one (by have h := (ih (by omega) o).2; rwa [show ((n + 1 : Nat) : Int) - 1 - 1 = (n : Int) - 1 by omega]) (by omega)
    exact ⟨hb o, one_of_body (F := { F with o := o }) (fun q' => hb (some q')) hE⟩
/-- body of a maker. -/
theorem body_any {F : Fx} {q : List Nat} {w : World} {x : St} (h : Gen F w x) (hq : F.o = some q) (ht n : Nat) (hh : ht ≤ x.s.length) (hn : 0 < x.nl) (hn8 : x.nl ≤ 8) (hqn : q.length ≤ x.nl) (hl0 : 0 ≤ x.left) (hl : x.left ≤ 900) (hw : wgt x ≤ 800000) (hn1 : n ≤ 1000) (hE : ∀ k, ¬ F.E k) :
    Calls Try.prog 11 #[.pointer (some ⟨F.G, 0, none⟩), .int .i64 (ht : Int), .int .i64 (n : Int)] w (GrewPost F w x ht 0) :=
  (body_ok (F := F) hE 1000 (Nat.le_refl _) F.o).1 w x ht n h hh hn hn8 hl0 (by omega) hw ⟨q, hq, hqn⟩ hn1
end Go.Proofs.Ytdfonjnplmfhfaa
