/-
  Contracts of the document's Sig, Block, of functions and blocks that are there.
-/
import Derived.Test.YtinljaobdnkifaaDoorKst
import Derived.BigQuiet
import Derived.Deep.QuietTactic
namespace Go.Proofs.YtinljaobdnkifaaDoor
open Go.RowKit

/-- A type comes back, and true; the world has at most new blocks. -/
def SigPost (K : Nat → Prop) (t : List Int × List Int) (w : World) (e : Ending) (w' : World) : Prop :=
  ∃ p r : Value, e = .returned (.tuple #[.agg #[p, r], .bool true]) ∧ IntsK K w p t.1 ∧ IntsK K w r t.2 ∧ Below w.heap.size w w'

theorem TypesK.at_ {K : Nat → Prop} {w : World} {g o m c : Nat} {ts : List (List Int × List Int)} (h : TypesK K w (.slice (some ⟨g, o, none⟩) m c) ts) (j : Nat) (hj : j < ts.length) :
    ∃ p r, w.cell? ⟨g, o + j * 2, none⟩ = some p ∧ w.cell? ⟨g, o + j * 2 + 1, none⟩ = some r ∧ IntsK K w p (ts.getD j ([], [])).1 ∧ IntsK K w r (ts.getD j ([], [])).2 := by
  obtain ⟨p, h1, h2⟩ := CellsK.at_ h j 0 hj (by omega)
  obtain ⟨r, h3, h4⟩ := CellsK.at_ h j 1 hj (by omega)
  exact ⟨p, r, h1, h3, h2, h4⟩
/-- A cell of an old block, behind two new ones. -/
theorem cell_two {w : World} {p : Addr} {u : Value} (h : w.cell? p = some u) (a b : Obj) : ((w.alloc a).alloc b).cell? p = some u := by
  have hp := World.block_lt_of_cell? w p h
  rw [World.cell?_alloc_lt _ _ _ (by simp; omega), World.cell?_alloc_lt _ _ _ hp, h]

set_option maxRecDepth 100000 in
set_option maxHeartbeats 1000000 in
theorem rsig_yes (K : Nat → Prop) (w : World) (m0 m1 m2 m3 m4 m5 m6 m7 : Value) (ts : List (List Int × List Int)) (is fs : List Int) (h0 : TypesK K w m0 ts) (h1 : FieldK K w m1 3 2 is) (h2 : FieldK K w m2 3 0 fs) (hn : ts.length + is.length + fs.length ≤ 1000000)
    (f t : Nat) (hf : (f < is.length ∧ is.getD f 0 = (t : Int)) ∨ (is.length ≤ f ∧ f < is.length + fs.length ∧ fs.getD (f - is.length) 0 = (t : Int))) (ht : t < ts.length) :
    Calls Tryd.prog 14 #[.agg #[m0, m1, m2, m3, m4, m5, m6, m7], .int .i64 (f : Int)] w (SigPost K (ts.getD t ([], [])) w) := by
  obtain ⟨g0, o0, c0, rfl, _, _⟩ := CellsK.some_ h0 (by omega)
  obtain ⟨p, r, hp, hr, hip, hir⟩ := h0.at_ t ht
  obtain ⟨Ap, cp, rfl, _, _⟩ := hip.form
  obtain ⟨Ar, cr, rfl, _, _⟩ := hir.form
  have kp := cell_two hp
  have kr := cell_two hr
  have HP := Lib.hid hip
  have HR := Lib.hid hir
  generalize ts.getD t ([], []) = tt at *
  generalize hP : tt.1.length = np at kp HP
  generalize hR : tt.2.length = nr at kr HR
  clear hP hR
  generalize hT : ts.length = nt at *
  clear hT hp hr hip hir h0
  have d0 : decide ((t : Int) < 0) = false := by simp
  have d1 : decide ((nt : Int) ≤ (t : Int)) = false := by simp; omega
  have d2 : decide ((0 : Int) ≤ (f : Int)) = true := by simp
  rcases hf with ⟨hlt, hft⟩ | ⟨hge, hlt, hft⟩
  · obtain ⟨g1, o1, c1, rfl, _, _⟩ := CellsK.some_ h1 (by omega)
    have k1 := cell_two (h1.at_ f hlt (by omega))
    rw [hft] at k1
    generalize hI : is.length = ni at *
    clear hI hft h1 h2
    have d3 : decide ((f : Int) < (ni : Int)) = true := by simp; omega
    go_enter Tryd.func14, Tryd.ntmps14
    go_wp2
    exact bodyPost_ret (v := .tuple #[.agg #[.slice Ap np cp, .slice Ar nr cr], .bool true]) (by simp [results, Tryd.results14, go_sem]) rfl ⟨_, _, rfl, HP.out, HR.out, ((Below.refl _ _).alloc (Nat.le_refl _) _).alloc (by simp) _⟩
  · obtain ⟨g2, o2, c2, rfl, _, _⟩ := CellsK.some_ h2 (by omega)
    obtain ⟨A1, c1, rfl, _, _⟩ := CellsK.form h1
    have k1 := cell_two (h2.at_ (f - is.length) (by omega) (by omega))
    rw [hft] at k1
    obtain ⟨d, hd⟩ : ∃ d : Nat, f = is.length + d := ⟨f - is.length, by omega⟩
    rw [show f - is.length = d by omega] at k1
    simp only [Nat.add_zero] at k1
    generalize hI : is.length = ni at *
    generalize hF : fs.length = nf at *
    clear hI hF hft h1 h2
    have d3 : decide ((f : Int) < (ni : Int)) = false := by simp; omega
    have e1 : IntKind.i64.wrap ((ni : Int) + (nf : Int)) = (ni : Int) + (nf : Int) := IntWalk.i64_in _ (by omega)
    have d4 : decide ((f : Int) < (ni : Int) + (nf : Int)) = true := by simp; omega
    have e2 : IntKind.i64.wrap ((f : Int) - (ni : Int)) = (d : Int) := by rw [show (f : Int) - (ni : Int) = (d : Int) by omega]; exact IntWalk.i64_in _ (by omega)
    have d5 : d < nf := by omega
    clear hd
    go_enter Tryd.func14, Tryd.ntmps14
    go_wp2
    exact bodyPost_ret (v := .tuple #[.agg #[.slice Ap np cp, .slice Ar nr cr], .bool true]) (by simp [results, Tryd.results14, go_sem]) rfl ⟨_, _, rfl, HP.out, HR.out, ((Below.refl _ _).alloc (Nat.le_refl _) _).alloc (by simp) _⟩

theorem cell_third (w : World) (a b : Obj) (cs : Array Value) (t : TypeId) (j : Nat) : (((w.alloc a).alloc b).alloc (.cells cs t)).cell? ⟨w.heap.size + 2, j, none⟩ = cs[j]? := by
  have h := World.cell?_alloc_new ((w.alloc a).alloc b) cs t j
  have e : ((w.alloc a).alloc b).heap.size = w.heap.size + 2 := by simp
  rw [e] at h; exact h
/-- A type comes back, and true: lists of at most three; the world has at most new blocks. -/
def BlockPost (K : Nat → Prop) (w : World) (e : Ending) (w' : World) : Prop :=
  ∃ (p r : Value) (l1 l2 : List Int), e = .returned (.tuple #[.agg #[p, r], .bool true]) ∧ l1.length ≤ 3 ∧ l2.length ≤ 3 ∧ IntsK (fun k => K k ∨ (w.heap.size ≤ k ∧ k < w'.heap.size)) w' p l1 ∧ IntsK (fun k => K k ∨ (w.heap.size ≤ k ∧ k < w'.heap.size)) w' r l2 ∧ Below w.heap.size w w'

set_option maxRecDepth 100000 in
set_option maxHeartbeats 1000000 in
theorem rblock_yes (K : Nat → Prop) (w : World) (m0 m1 m2 m3 m4 m5 m6 m7 : Value) (ts : List (List Int × List Int)) (h0 : TypesK K w m0 ts) (hn : ts.length ≤ 1000000) (h3 : ∀ t ∈ ts, t.1.length ≤ 3 ∧ t.2.length ≤ 3) (hK : ∀ k, K k → k < w.heap.size)
    (a : Int) (ha : -4 ≤ a) (hb : a < ts.length) :
    Calls Tryd.prog 82 #[.agg #[m0, m1, m2, m3, m4, m5, m6, m7], .int .i64 a] w (BlockPost K w) := by
  rcases (show a = -1 ∨ a = -2 ∨ a = -3 ∨ a = -4 ∨ 0 ≤ a by omega) with rfl | rfl | rfl | rfl | h
  · go_enter Tryd.func82, Tryd.ntmps82
    go_wp2
    exact bodyPost_ret (v := .tuple #[.agg #[.slice none 0 0, .slice none 0 0], .bool true]) (by simp [results, Tryd.results82, go_sem]) rfl
      ⟨_, _, [], [], rfl, by simp, by simp, IntsK.nil _ _, IntsK.nil _ _, ((Below.refl _ _).alloc (Nat.le_refl _) _).alloc (by simp) _⟩
  · go_enter Tryd.func82, Tryd.ntmps82
    go_wp2
    exact bodyPost_ret (v := .tuple #[.agg #[.slice none 0 0, .slice (some ⟨w.heap.size + 2, 0, none⟩) 1 1], .bool true]) (by simp [results, Tryd.results82, go_sem]) rfl
      ⟨_, _, [], [127], rfl, by simp, by simp, IntsK.nil _ _, ⟨_, _, rfl, by unfold maxLen; simp, (fun h => by cases h), fun _ => ⟨w.heap.size + 2, 0, rfl, .inr ⟨by omega, by simp⟩, fun j hj => by
        obtain rfl : j = 0 := by simp at hj; omega
        exact cell_third w _ _ _ _ 0⟩⟩, (((Below.refl _ _).alloc (Nat.le_refl _) _).alloc (by simp) _).alloc (by simp; omega) _⟩
  · go_enter Tryd.func82, Tryd.ntmps82
    go_wp2
    exact bodyPost_ret (v := .tuple #[.agg #[.slice none 0 0, .slice (some ⟨w.heap.size + 2, 0, none⟩) 1 1], .bool true]) (by simp [results, Tryd.results82, go_sem]) rfl
      ⟨_, _, [], [126], rfl, by simp, by simp, IntsK.nil _ _, ⟨_, _, rfl, by unfold maxLen; simp, (fun h => by cases h), fun _ => ⟨w.heap.size + 2, 0, rfl, .inr ⟨by omega, by simp⟩, fun j hj => by
        obtain rfl : j = 0 := by simp at hj; omega
        exact cell_third w _ _ _ _ 0⟩⟩, (((Below.refl _ _).alloc (Nat.le_refl _) _).alloc (by simp) _).alloc (by simp; omega) _⟩
  · go_enter Tryd.func82, Tryd.ntmps82
    go_wp2
    exact bodyPost_ret (v := .tuple #[.agg #[.slice none 0 0, .slice (some ⟨w.heap.size + 2, 0, none⟩) 1 1], .bool true]) (by simp [results, Tryd.results82, go_sem]) rfl
      ⟨_, _, [], [124], rfl, by simp, by simp, IntsK.nil _ _, ⟨_, _, rfl, by unfold maxLen; simp, (fun h => by cases h), fun _ => ⟨w.heap.size + 2, 0, rfl, .inr ⟨by omega, by simp⟩, fun j hj => by
        obtain rfl : j = 0 := by simp at hj; omega
        exact cell_third w _ _ _ _ 0⟩⟩, (((Below.refl _ _).alloc (Nat.le_refl _) _).alloc (by simp) _).alloc (by simp; omega) _⟩
  · obtain ⟨t, rfl⟩ : ∃ t : Nat, a = t := ⟨a.toNat, by omega⟩
    have ht : t < ts.length := by omega
    obtain ⟨g0, o0, c0, rfl, _, _⟩ := CellsK.some_ h0 (by omega)
    obtain ⟨p, r, hp, hr, hip, hir⟩ := h0.at_ t ht
    have hm : ts.getD t ([], []) ∈ ts := by simp [ht]
    obtain ⟨hm1, hm2⟩ := h3 _ hm
    obtain ⟨Ap, cp, rfl, _, _⟩ := hip.form
    obtain ⟨Ar, cr, rfl, _, _⟩ := hir.form
    have kp := cell_two hp
    have kr := cell_two hr
    have HP := Lib.hid hip
    have HR := Lib.hid hir
    have HK := Lib.hid hK
    generalize ts.getD t ([], []) = tt at *
    generalize hP : tt.1.length = np at kp HP
    generalize hR : tt.2.length = nr at kr HR
    clear hP hR hm h3 hK
    generalize hT : ts.length = nt at *
    clear hT hp hr hip hir h0
    have d1 : decide ((t : Int) < (nt : Int)) = true := by simp; omega
    have d2 : decide ((0 : Int) ≤ (t : Int)) = true := by simp
    go_enter Tryd.func82, Tryd.ntmps82
    go_wp2
    refine bodyPost_ret (v := .tuple #[.agg #[.slice Ap np cp, .slice Ar nr cr], .bool true]) (by simp [results, Tryd.results82, go_sem]) rfl
      ⟨_, _, tt.1, tt.2, rfl, hm1, hm2, HP.out.keep (.below ?_ HK.out) (fun k hk => .inl hk), HR.out.keep (.below ?_ HK.out) (fun k hk => .inl hk), ?_⟩
    all_goals exact ((Below.refl _ _).alloc (Nat.le_refl _) _).alloc (by simp) _
end Go.Proofs.YtinljaobdnkifaaDoor
