/-
  The maker of code, out of the maker of modules.
-/
import Derived.Test.YtdfonjnplmfhfaaKmodw
namespace Go.Proofs.Ytdfonjnplmfhfaa
open Go.RowKit

theorem len_owned {w : World} {base size : Nat} {e : TypeId} {v : Value} {n : Nat} {xs : List Value} (h : w.ownsRow base e size v n xs) : LenK v n := by
  rcases h.2 with ⟨rfl, h0⟩ | ⟨g, cap, cur, rfl, _, _, h1, h2, _⟩
  · exact ⟨none, 0, by rw [h0], by omega, Nat.zero_le _⟩
  · exact ⟨_, cap, rfl, h1, h2⟩
/-- The functions' types, out of their row. -/
theorem Mk.types_of {P : MP} {w : World} {x : MS} (h : Mk P w x) (K : Nat → Prop) (hK : ∀ g, x.m2.ownBlock = some g → K g) : FieldK K w x.m2 3 0 (x.fs.map (·.1)) := by
  rcases h.fo.2 with ⟨h1, h0⟩ | ⟨g, cap, cur, h1, _, _, h2, h3, _⟩
  · exact ⟨none, 0, by rw [h1, List.length_map, h0], by rw [List.length_map, h0]; exact Nat.le_refl _, Nat.zero_le _, fun _ => rfl, fun hl => by rw [List.length_map] at hl; omega⟩
  · have hfo := h.fo
    rw [h1] at hfo
    refine ⟨_, cap, by rw [h1, List.length_map], by rw [List.length_map]; exact h2, h3, (fun h => by cases h), fun _ => ⟨g, 0, rfl, hK g (by rw [h1]; rfl), fun j i hj hi => ?_⟩⟩
    rw [List.length_map] at hj
    obtain ⟨f0, f1, f2⟩ := flatFn_at x.fs j x.fs[j] (List.getElem?_eq_getElem hj)
    rw [Nat.zero_add]
    rcases (show i = 0 ∨ i = 1 ∨ i = 2 by omega) with rfl | rfl | rfl
    · refine ⟨_, by rw [hfo.cellAt _ (by omega), Nat.add_zero]; exact f0, fun _ => ?_⟩
      rw [List.getD_eq_getElem?_getD, List.getElem?_map, List.getElem?_eq_getElem hj]; rfl
    · exact ⟨_, by rw [hfo.cellAt _ (by omega)]; exact f1, fun h => by omega⟩
    · exact ⟨_, by rw [hfo.cellAt _ (by omega)]; exact f2, fun h => by omega⟩
/-- The maker's parameters. -/
def fxOf (P : MP) (x : MS) (G : Nat) (lov : Value) (lo : List Int) (pv rv : Value) (ro : List Int) (nd : Nat) : Fx :=
  ⟨G, P.T, P.tv, P.tl, x.m0, x.m1, x.m2, x.m3, x.m4, x.m5, x.m6, .slice none 0 0, lov, lo, pv, rv, ro, nineL, [1, 7], x.fs.map (·.1), [127, 126, 124, 127], x.ms.length, nd, some [], fun _ => False⟩
def stOf (lv : Value) (a : Nat) : St := ⟨.slice none 0 0, lv, .slice none 0 0, a, [], 1, [], 40⟩
theorem gen_start {P : MP} {w4 : World} {x : MS} (h : Mk P w4 x) (G : Nat) (lov : Value) (lo : List Int) (pv rv : Value) (ro : List Int) (nd : Nat) (lv : Value)
    (hG : w4.heap[G]? = some (.cells (gcells (fxOf P x G lov lo pv rv ro nd) (stOf lv x.at_)) 70 (0, 0))) (hGn : G ≠ P.M ∧ G ≠ P.T ∧ ¬ own3 x G ∧ P.W.heap.size ≤ G)
    (hlo : IntsK (fun k => k < w4.heap.size ∧ k ≠ G ∧ k ≠ P.T) w4 lov lo) (hlo1 : lo.length ≤ 100) (hro : IntsK (fun k => k < w4.heap.size ∧ k ≠ G ∧ k ≠ P.T) w4 rv ro) (hro1 : ro.length ≤ 3)
    (hts : TypesK (fun k => k < w4.heap.size ∧ k ≠ G ∧ k ≠ P.T) w4 x.m0 nineL) (his : FieldK (fun k => k < w4.heap.size ∧ k ≠ G ∧ k ≠ P.T) w4 x.m1 3 2 [1, 7]) (hgs : FieldK (fun k => k < w4.heap.size ∧ k ≠ G ∧ k ≠ P.T) w4 x.m4 3 0 [127, 126, 124, 127])
    (hfs : 0 < x.fs.length ∧ x.fs.length ≤ 4 ∧ ∀ f ∈ x.fs, 0 ≤ f.1 ∧ f.1 < 9) (hms : x.ms.length ≤ 3) (hds : LenK x.m6 nd ∧ nd ≤ 2 ∧ (0 < x.ms.length → nd = 2))
    (hlab : LabsK (fun k => k < w4.heap.size ∧ k ≠ G ∧ k ≠ P.T) w4 lv 1) :
    Gen (fxOf P x G lov lo pv rv ro nd) w4 (stOf lv x.at_) := by
  have hnp : ∀ k, priv (fxOf P x G lov lo pv rv ro nd) (stOf lv x.at_) k → k = G ∨ k = P.T := fun k hk => by
    rcases hk with e | e | e | e
    · exact .inl e
    · exact .inr e
    · cases e
    · cases e
  have hrf : ∀ k, k < w4.heap.size → k ≠ G → k ≠ P.T → rfree (fxOf P x G lov lo pv rv ro nd) w4 (stOf lv x.at_) k := fun k h1 h2 h3 => ⟨⟨h1, fun e => (hnp k e).elim h2 h3⟩, fun e => e⟩
  have hst : ∀ k, (k < w4.heap.size ∧ k ≠ G ∧ k ≠ P.T) → rfree (fxOf P x G lov lo pv rv ro nd) w4 (stOf lv x.at_) k := fun k hk => hrf k hk.1 hk.2.1 hk.2.2
  refine ⟨hG, h.hT, hGn.2.1, World.ownsRow_nil _ _ _ _, (fun g e => by cases e), World.ownsRow_nil _ _ _ _, (fun g e => by cases e), h.le, ?_⟩
  refine ⟨?_, ⟨hlo.keep (.refl _ _) hst, hlo1⟩, ⟨hro.keep (.refl _ _) hst, hro1⟩, ⟨hts.keep (.refl _ _) hst, rfl, (by decide : ∀ t ∈ nineL, t.1.length ≤ 3 ∧ t.2.length ≤ 3)⟩, ⟨his.keep (.refl _ _) hst, rfl, (by decide : ∀ t ∈ ([1, 7] : List Int), 0 ≤ t ∧ t < 9)⟩, ⟨?_, ⟨?_, ?_⟩, ?_⟩, ⟨?_, hms⟩, ⟨hgs.keep (.refl _ _) hst, rfl⟩, hds.1 |> fun h => ⟨h, hds.2⟩, hlab.keep (.refl _ _) (fun k hk => hrf k hk.1 hk.2.1 hk.2.2), (fun iv hiv => by cases hiv), fun q hq => ?_⟩
  · exact h.tape.keep (Keeps.below h.bel fun _ h => h) fun k hk => hrf k (Nat.lt_of_lt_of_le hk h.bel.size) (fun e => by have := hGn.2.2.2; omega) (fun e => by have := h.new.2.1; omega)
  · exact h.types_of _ fun g hg => hrf g (h.fo.lt g hg).2 (fun e => hGn.2.2.1 (.inl (e ▸ hg))) (h.fp g hg).2.2.1
  · show 0 < (x.fs.map (·.1)).length; rw [List.length_map]; exact hfs.1
  · show (x.fs.map (·.1)).length ≤ 4; rw [List.length_map]; exact hfs.2.1
  · intro t ht
    obtain ⟨f, hf, rfl⟩ := List.mem_map.1 ht
    exact hfs.2.2 f hf
  · exact len_owned h.mo
  · obtain rfl := Option.some.inj hq; rfl
end Go.Proofs.Ytdfonjnplmfhfaa
