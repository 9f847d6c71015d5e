/- A part of the proof. -/
import Derived.OrdersHeld
import Derived.Lib.UnsafeStr
import Derived.Deep.RegionHeld
import Derived.Test.YteohmkceapblkaaDoorJ10
namespace Go.Proofs.YteohmkceapblkaaDoor
section
open Go.RowKit
section
variable {P : Program} {ops : Array Oper} {Q : Exit → Act → World → Prop} {md : Region.Mode} {S : World → Prop} {X : Nat}
def Rest (P : Program) (md : Region.Mode) (ops : Array Oper) (Q : Exit → Act → World → Prop) (S : World → Prop) (X : Nat) (fuel : Nat) : Array Bool → Act → World → Prop :=
  match fuel with
  | 0 => fun L a w => Region.ready md ops L = [] ∧ Q .normal a w
  | n + 1 => fun L a w => (Region.ready md ops L = [] → Q .normal a w) ∧ ∀ k ∈ Region.ready md ops L, wpOp P ops Q k (fun a' w' => (k = X ∨ S w') ∧ Rest P md ops Q S X n (L.setIfInBounds k true) a' w') a w
theorem Rest.any : ∀ (n : Nat) (L : Array Bool) (a : Act) (w : World), Rest P md ops Q S X n L a w → wpAny P md ops Q n L a w
  | 0, _, _, _, h => h
  | n + 1, _, _, _, h => ⟨h.1, fun k hk => wpOp_mono (fun a' w' h' => Rest.any n _ a' w' h'.2) (h.2 k hk)⟩
def waits (md : Region.Mode) (ops : Array Oper) (X i : Nat) : Bool := match ops[X]? with
  | some o => o.after.any fun e => Region.binds md e && e.on == i
  | none => true
theorem waits_not {L : Array Bool} {X i : Nat} (h : waits md ops X i = true) (hl : L.getD i true = false) : X ∉ Region.ready md ops L := fun hX => by
  obtain ⟨_, o, ho, hall⟩ := mem_ready.1 hX
  unfold waits at h
  rw [ho] at h
  simp only [Array.any_eq_true] at h
  obtain ⟨j, hj, he⟩ := h
  simp only [Bool.and_eq_true, beq_iff_eq] at he
  have h1 := hall _ (Array.getElem_mem hj) he.1
  rw [he.2] at h1
  rcases Nat.lt_or_ge i L.size with hlt | hge
  · simp [hlt] at h1 hl; rw [h1] at hl; cases hl
  · simp [Array.getElem?_eq_none hge] at h1 hl
theorem ready_un {L : Array Bool} {i : Nat} (hr : i ∈ Region.ready md ops L) : L.getD i true = false := (mem_ready.1 hr).1
theorem Rest.first {i : Nat} {oi : Oper} {v : Value} (hi : ops[i]? = some oi) (hns : Region.noSelect ops = true) (hQ : ∀ c a w, Q (.panic c) (a.put oi.dst v) w → Q (.panic c) a w) (hX : waits md ops X i = true) :
    ∀ (n : Nat) (L : Array Bool) (a : Act) (w : World), (∀ k ok, ops[k]? = some ok → k ≠ i → L.getD k true = false → (∀ e ∈ ok.after, Region.binds md e = true → e.on ≠ i) → oi.apart ops ok = true) →
      i ∈ Region.ready md ops L → YieldsIf P ops S oi v a → S w → Rest P md ops Q S X n (L.setIfInBounds i true) (a.put oi.dst v) w → Rest P md ops Q S X (n + 1) L a w := by
  have hsel := Region.noSelect_spec hns
  intro n
  induction n with
  | zero =>
    intro L a w _ hr hy hS H
    refine ⟨fun h => absurd hr (by rw [h]; simp), fun k hk => ?_⟩
    by_cases e : k = i
    · subst e
      exact hy.wpOp hi hS ⟨.inr hS, H⟩
    · exact absurd (ready_mono hk e) (by rw [H.1]; simp)
  | succ n ih =>
    intro L a w hap hr hy hS H
    refine ⟨fun h => absurd hr (by rw [h]; simp), fun k hk => ?_⟩
    by_cases e : k = i
    · subst e
      exact hy.wpOp hi hS ⟨.inr hS, H⟩
    · obtain ⟨hun, ok, hok, hall⟩ := mem_ready.1 hk
      have hkX : k ≠ X := fun h => waits_not hX (ready_un hr) (h ▸ hk)
      have hno : ∀ e ∈ ok.after, Region.binds md e = true → e.on ≠ i := fun e he hb h => by
        have h1 := hall e he hb
        have h0 := ready_un hr
        rw [h] at h1
        rcases Nat.lt_or_ge i L.size with hlt | hge
        · simp [hlt] at h0 h1; rw [h0] at h1; cases h1
        · simp [Array.getElem?_eq_none hge] at h1
      refine wpOp_mono (fun a' w' h3 => ?_) (wpOp_putIf hok (hap k ok hok e hun hno) (fun cs b => hsel i oi cs b hi) (fun cs b => hsel k ok cs b hok) hQ hy (H.2 k (ready_mono hk e)))
      have hSw : S w' := h3.2.1.resolve_left hkX
      refine ⟨.inr hSw, ih (L.setIfInBounds k true) a' w' (fun j oj hj hji hju hjn => hap j oj hj hji ?_ hjn) (ready_mono hr (Ne.symm e)) h3.1 hSw ?_⟩
      · by_cases hkj : k = j
        · subst hkj; exact hun
        · rwa [getD_set_ne true hkj] at hju
      · rw [Array.setIfInBounds_comm _ _ e]
        exact h3.2.2
theorem Rest.take {i : Nat} {oi : Oper} {v : Value} {n : Nat} {L : Array Bool} {a : Act} {w : World} (hi : ops[i]? = some oi) (hs : Region.noSelect ops = true) (hf : Region.free md ops L i = true) (hr : (Region.ready md ops L).contains i = true) (hX : waits md ops X i = true)
    (hQ : ∀ c a w, Q (.panic c) (a.put oi.dst v) w → Q (.panic c) a w) (hy : YieldsIf P ops S oi v a) (hS : S w) (h : Rest P md ops Q S X n (L.setIfInBounds i true) (a.put oi.dst v) w) : Rest P md ops Q S X (n + 1) L a w :=
  Rest.first hi hs hQ hX n L a w (Region.free_spec hi hf) (by simpa using hr) hy hS h
def Comes (P : Program) (md : Region.Mode) (ops : Array Oper) (Q : Exit → Act → World → Prop) (S : World → Prop) (X n : Nat) (L : Array Bool) (a : Act) (w : World) (i : Nat) : Prop :=
  wpOp P ops Q i (fun a' w' => (i = X ∨ S w') ∧ Rest P md ops Q S X n (L.setIfInBounds i true) a' w') a w
theorem Rest.turn {rs : List Nat} {n : Nat} {L : Array Bool} {a : Act} {w : World} (hr : Region.ready md ops L = rs) (hne : rs ≠ []) (h : ∀ i ∈ rs, Comes P md ops Q S X n L a w i) : Rest P md ops Q S X (n + 1) L a w :=
  ⟨fun h0 => absurd (hr ▸ h0) hne, hr ▸ h⟩
theorem Comes.mk {i n : Nat} {L : Array Bool} {a : Act} {w : World} {o : Oper} (ho : ops[i]? = some o)
    (h : ∀ K : Act → World → Prop, Hid (∀ a w, (i = X ∨ S w) → Rest P md ops Q S X n (L.setIfInBounds i true) a w → K a w) → if Region.wanted o (yielded ops a.tmps) = true then Oper.wp P o a w K Q else K (a.put o.dst undef) w) : Comes P md ops Q S X n L a w i :=
  wpOp_step ho fun K hK => h K (Lib.hid fun a w hS hR => hK a w ⟨hS, hR⟩)
theorem Rest.one {i n : Nat} {L : Array Bool} {a : Act} {w : World} (hr : Region.ready md ops L = [i]) (h : Comes P md ops Q S X n L a w i) : Rest P md ops Q S X (n + 1) L a w :=
  .turn hr (by simp) fun j hj => by obtain rfl : j = i := by simpa using hj
                                    exact h
theorem Rest.done {L : Array Bool} {a : Act} {w : World} (hr : Region.ready md ops L = []) (h : Q .normal a w) : ∀ n, Rest P md ops Q S X n L a w
  | 0 => ⟨hr, h⟩
  | _ + 1 => ⟨fun _ => h, by rw [hr]; simp⟩
theorem Rest.start {id : Nat} {a : Act} {w : World} (hm : P.follows .mixedOrders = true) (h : Rest P .any ops Q S X ops.size (Array.replicate ops.size false) a w.drew) : (Code.region id ops true).wp P Q a w :=
  wp_region_any hm (Rest.any _ _ _ _ h)
end
structure OwnR where
  e : TypeId
  size : Nat
  v : Value
  n : Nat
  xs : List Value
  live : Bool
def OwnR.apart (r s : OwnR) : Prop := ∀ g, r.v.ownBlock = some g → s.v.ownBlock ≠ some g
theorem OwnR.apart.symm {r s : OwnR} (h : r.apart s) : s.apart r := fun g hs hr => h g hr hs
def OwnR.in_ (r : OwnR) (w : World) : Prop :=
  if r.live = true then w.ownsRow 0 r.e r.size r.v r.n r.xs
  else ∃ g c : Nat, r.v = .slice (some ⟨g, 0, none⟩) r.n c ∧ r.n ≤ c ∧ g < w.heap.size ∧ ∀ j u, r.xs[j]? = some u → w.cell? ⟨g, j, none⟩ = some u
theorem OwnR.in_.keep {r : OwnR} {w w' : World} (h : r.in_ w) {K : Nat → Prop} (hk : Keeps K w w') (hv : ∀ g, r.v.ownBlock = some g → K g) : r.in_ w' := by
  unfold OwnR.in_ at h ⊢
  split
  · rename_i hl
    rw [if_pos hl] at h
    exact owns_keep h hk hv
  · rename_i hl
    rw [if_neg hl] at h
    obtain ⟨g, c, h1, hn, h2, h3⟩ := h
    exact ⟨g, c, h1, hn, Nat.lt_of_lt_of_le h2 hk.size, fun j u hu => (hk.cell (p := ⟨g, j, none⟩) (hv g (by rw [h1]; rfl))).trans (h3 j u hu)⟩
theorem OwnR.in_.lt {r : OwnR} {w : World} (h : r.in_ w) {g : Nat} (hg : r.v.ownBlock = some g) : g < w.heap.size := by
  unfold OwnR.in_ at h
  split at h
  · exact (h.lt g hg).2
  · obtain ⟨g', c, h1, _, h2, _⟩ := h
    rw [h1] at hg
    have e : some g' = some g := hg
    simp only [Option.some.injEq] at e
    omega
theorem OwnR.in_.own {r : OwnR} {w : World} (h : r.in_ w) (hl : r.live = true) : w.ownsRow 0 r.e r.size r.v r.n r.xs := by
  unfold OwnR.in_ at h
  rwa [if_pos hl] at h
theorem OwnR.in_.mk {r : OwnR} {w : World} (hl : r.live = true) (h : w.ownsRow 0 r.e r.size r.v r.n r.xs) : r.in_ w := by
  unfold OwnR.in_
  rwa [if_pos hl]
structure Rows (w0 w : World) (l : List OwnR) : Prop where
  bl : Below w0.heap.size w0 w
  ow : ∀ r ∈ l, r.in_ w
  nw : ∀ r ∈ l, ∀ g, r.v.ownBlock = some g → w0.heap.size ≤ g
  ap : l.Pairwise OwnR.apart
theorem Rows.nil {w0 w : World} (h : Below w0.heap.size w0 w) : Rows w0 w [] := ⟨h, by simp, by simp, .nil⟩
theorem Rows.below {w0 w w' : World} {l : List OwnR} (h : Rows w0 w l) (hb : Below w.heap.size w w') : Rows w0 w' l :=
  ⟨below_then h.bl hb, fun r hr => (h.ow r hr).keep (Keeps.below hb fun _ hk => hk) fun _ hg => (h.ow r hr).lt hg, h.nw, h.ap⟩
theorem Rows.lt {w0 w : World} {l : List OwnR} (h : Rows w0 w l) {r : OwnR} (hr : r ∈ l) {g : Nat} (hg : r.v.ownBlock = some g) : g < w.heap.size := (h.ow r hr).lt hg
theorem Rows.push {w0 w w' : World} {l : List OwnR} (h : Rows w0 w l) (hb : Below w.heap.size w w') {r : OwnR} (ho : r.in_ w') (hn : ∀ g, r.v.ownBlock = some g → w.heap.size ≤ g) : Rows w0 w' (r :: l) := by
  have h2 := h.below hb
  refine ⟨h2.bl, fun s hs => ?_, fun s hs => ?_, List.pairwise_cons.2 ⟨fun s hs g hr hs2 => ?_, h.ap⟩⟩
  · rcases List.mem_cons.1 hs with rfl | hs
    · exact ho
    · exact h2.ow s hs
  · rcases List.mem_cons.1 hs with rfl | hs
    · exact fun g hg => Nat.le_trans h.bl.size (hn g hg)
    · exact h.nw s hs
  · have h3 := h.lt hs hs2
    have h4 := hn g hr
    omega
theorem Rows.drewN {w0 w : World} {l : List OwnR} (h : Rows w0 w l) (k : Nat) : Rows w0 (w.drewN k) l := h.below (below_drewN (Below.refl _ _) k)
end
section
open Go
section
variable {P : Program} {md : Region.Mode} {ops : Array Oper} {Q : Exit → Act → World → Prop} {S : World → Prop}
theorem mR (i d : Nat) {o1 : Op} {o2 : TypeId} {o3 : String} {o4 : Array Edge} {o5 : Option (Nat × Bool)} {n : Nat} {l : Array Bool} {a : Act} {w : World} (ho : ops[i]? = some ⟨some d, o1, o2, o3, o4, o5⟩)
    (h : ∀ K : Act → World → Prop, Shut (∀ a w, S w → (S w → wpAnyH P md ops Q S n (l.setIfInBounds i true) a w) → K a w) → if Region.wanted ⟨some d, o1, o2, o3, o4, o5⟩ (yielded ops a.tmps) = true then Oper.wp P ⟨some d, o1, o2, o3, o4, o5⟩ a w K Q else K (a.put (some d) undef) w)
    (hr : Region.ready md ops l = [i] := by kernel_rfl) : wpAnyH P md ops Q S (n + 1) l a w := wpAnyH_ready hr (by simp) (AllReadyH.cons ho h AllReadyH.nil)
theorem mT (i d : Nat) {o1 : Op} {o2 : TypeId} {o3 : String} {o4 : Array Edge} {o5 : Option (Nat × Bool)} {n : Nat} {v : Value} {l l2 : Array Bool} {a a2 : Act} {w : World} (hi : ops[i]? = some ⟨some d, o1, o2, o3, o4, o5⟩) (hS : S w)
    (h : wpAnyH P md ops Q S n l2 a2 w) (hw : Region.wanted ⟨some d, o1, o2, o3, o4, o5⟩ (yielded ops a.tmps) = true := by rfl) (hy : ∀ w', S w' → (execOp a.eval ⟨some d, o1, o2, o3, o4, o5⟩).run P w' = .ok (.value v) w' := by intro wS hSw; go_simp; try with_reducible rfl)
    (hl : l.setIfInBounds i true = l2 := by simp only [List.setIfInBounds_toArray, List.set] <;> rfl) (ha : a.put (some d) v = a2 := by simp only [Act.put, List.setIfInBounds_toArray, List.set] <;> rfl)
    (hs : Region.noSelect ops = true := by kernel_rfl) (hf : Region.free md ops l i = true := by kernel_rfl) (hr : (Region.ready md ops l).contains i = true := by kernel_rfl)
    (hQ : ∀ c a w, Q (.panic c) (a.put (some d) v) w → Q (.panic c) a w := by exact fun _ _ _ h => h) : wpAnyH P md ops Q S (n + 1) l a w := wpAnyH_take hi hs hf hr hQ (.inl ⟨hw, hy⟩) hS (by rw [hl, ha]; exact h)
theorem mN (i d : Nat) {o1 : Op} {o2 : TypeId} {o3 : String} {o4 : Array Edge} {o5 : Option (Nat × Bool)} {n : Nat} {l l2 : Array Bool} {a a2 : Act} {w : World} (hi : ops[i]? = some ⟨some d, o1, o2, o3, o4, o5⟩) (hS : S w)
    (h : wpAnyH P md ops Q S n l2 a2 w) (hw : Region.wanted ⟨some d, o1, o2, o3, o4, o5⟩ (yielded ops a.tmps) = false := by rfl)
    (hl : l.setIfInBounds i true = l2 := by simp only [List.setIfInBounds_toArray, List.set] <;> rfl) (ha : a.put (some d) undef = a2 := by simp only [Act.put, List.setIfInBounds_toArray, List.set] <;> rfl)
    (hs : Region.noSelect ops = true := by kernel_rfl) (hf : Region.free md ops l i = true := by kernel_rfl) (hr : (Region.ready md ops l).contains i = true := by kernel_rfl)
    (hQ : ∀ c a w, Q (.panic c) (a.put (some d) undef) w → Q (.panic c) a w := by exact fun _ _ _ h => h) : wpAnyH P md ops Q S (n + 1) l a w := wpAnyH_take hi hs hf hr hQ (.inr ⟨hw, rfl⟩) hS (by rw [hl, ha]; exact h)
end
end
section
open Go.RowKit
section
variable {P : Program} {md : Region.Mode} {ops : Array Oper} {Q : Exit → Act → World → Prop} {S : World → Prop} {X : Nat}
theorem Rest.tk (i d : Nat) {o1 : Op} {o2 : TypeId} {o3 : String} {o4 : Array Edge} {o5 : Option (Nat × Bool)} {n : Nat} {v : Value} {L l2 : Array Bool} {a a2 : Act} {w : World} (hi : ops[i]? = some ⟨some d, o1, o2, o3, o4, o5⟩) (hS : S w)
    (h : Rest P md ops Q S X n l2 a2 w) (hw : Region.wanted ⟨some d, o1, o2, o3, o4, o5⟩ (yielded ops a.tmps) = true := by rfl) (hy : ∀ w', S w' → (execOp a.eval ⟨some d, o1, o2, o3, o4, o5⟩).run P w' = .ok (.value v) w' := by intro w' hSw; go_simp; try with_reducible rfl)
    (hl : L.setIfInBounds i true = l2 := by simp only [List.setIfInBounds_toArray, List.set] <;> rfl) (ha : a.put (some d) v = a2 := by simp only [Act.put, List.setIfInBounds_toArray, List.set] <;> rfl)
    (hs : Region.noSelect ops = true := by kernel_rfl) (hf : Region.free md ops L i = true := by kernel_rfl) (hr : (Region.ready md ops L).contains i = true := by kernel_rfl) (hX : waits md ops X i = true := by kernel_rfl)
    (hQ : ∀ c a w, Q (.panic c) (a.put (some d) v) w → Q (.panic c) a w := by exact fun _ _ _ h => h) : Rest P md ops Q S X (n + 1) L a w := Rest.take hi hs hf hr hX hQ (.inl ⟨hw, hy⟩) hS (by rw [hl, ha]; exact h)
theorem Rest.om (i d : Nat) {o1 : Op} {o2 : TypeId} {o3 : String} {o4 : Array Edge} {o5 : Option (Nat × Bool)} {n : Nat} {L : Array Bool} {a : Act} {w : World} (ho : ops[i]? = some ⟨some d, o1, o2, o3, o4, o5⟩)
    (h : ∀ K : Act → World → Prop, Hid (∀ a w, (i = X ∨ S w) → Rest P md ops Q S X n (L.setIfInBounds i true) a w → K a w) → if Region.wanted ⟨some d, o1, o2, o3, o4, o5⟩ (yielded ops a.tmps) = true then Oper.wp P ⟨some d, o1, o2, o3, o4, o5⟩ a w K Q else K (a.put (some d) undef) w)
    (hr : Region.ready md ops L = [i] := by kernel_rfl) : Rest P md ops Q S X (n + 1) L a w := .one hr (.mk ho h)
theorem Rest.on (i : Nat) {o1 : Op} {o2 : TypeId} {o3 : String} {o4 : Array Edge} {o5 : Option (Nat × Bool)} {n : Nat} {L : Array Bool} {a : Act} {w : World} (ho : ops[i]? = some ⟨none, o1, o2, o3, o4, o5⟩)
    (h : ∀ K : Act → World → Prop, Hid (∀ a w, (i = X ∨ S w) → Rest P md ops Q S X n (L.setIfInBounds i true) a w → K a w) → if Region.wanted ⟨none, o1, o2, o3, o4, o5⟩ (yielded ops a.tmps) = true then Oper.wp P ⟨none, o1, o2, o3, o4, o5⟩ a w K Q else K (a.put none undef) w)
    (hr : Region.ready md ops L = [i] := by kernel_rfl) : Rest P md ops Q S X (n + 1) L a w := .one hr (.mk ho h)
theorem Comes.m (d : Nat) {o1 : Op} {o2 : TypeId} {o3 : String} {o4 : Array Edge} {o5 : Option (Nat × Bool)} {i n : Nat} {L : Array Bool} {a : Act} {w : World} (ho : ops[i]? = some ⟨some d, o1, o2, o3, o4, o5⟩)
    (h : ∀ K : Act → World → Prop, Hid (∀ a w, (i = X ∨ S w) → Rest P md ops Q S X n (L.setIfInBounds i true) a w → K a w) → if Region.wanted ⟨some d, o1, o2, o3, o4, o5⟩ (yielded ops a.tmps) = true then Oper.wp P ⟨some d, o1, o2, o3, o4, o5⟩ a w K Q else K (a.put (some d) undef) w) : Comes P md ops Q S X n L a w i := .mk ho h
theorem Comes.n {o1 : Op} {o2 : TypeId} {o3 : String} {o4 : Array Edge} {o5 : Option (Nat × Bool)} {i n : Nat} {L : Array Bool} {a : Act} {w : World} (ho : ops[i]? = some ⟨none, o1, o2, o3, o4, o5⟩)
    (h : ∀ K : Act → World → Prop, Hid (∀ a w, (i = X ∨ S w) → Rest P md ops Q S X n (L.setIfInBounds i true) a w → K a w) → if Region.wanted ⟨none, o1, o2, o3, o4, o5⟩ (yielded ops a.tmps) = true then Oper.wp P ⟨none, o1, o2, o3, o4, o5⟩ a w K Q else K (a.put none undef) w) : Comes P md ops Q S X n L a w i := .mk ho h
end
end
section
open Go.RowKit
theorem owns_cutS {w : World} {x : Ws} {F : Wx} (h : Wk F w x) {A : Option Addr} {n c d : Nat} (hv : x.sv = .slice A n c) (hn : x.s.length = n) (hd : d ≤ n) : w.ownsRow 0 3 1 (.slice A d c) (x.s.take d).length ((x.s.take d).map (Value.int .i64)) := by
  have ho := h.so
  rw [hn] at ho
  have hl : (x.s.take d).length = d := by rw [List.length_take]; omega
  rw [hl, List.map_take]
  rcases ho.2 with ⟨h1, h2⟩ | ⟨g, cap, cur, h1, _⟩
  · rw [hv] at h1
    simp only [Value.slice.injEq] at h1
    obtain ⟨rfl, h3, rfl⟩ := h1
    obtain rfl : d = 0 := by omega
    exact ⟨by simp, .inl ⟨rfl, rfl⟩⟩
  · rw [hv] at h1
    simp only [Value.slice.injEq] at h1
    obtain ⟨rfl, h3, rfl⟩ := h1
    rw [hv] at ho
    have := owns_cut ho hd
    rwa [Nat.mul_one] at this
set_option maxRecDepth 100000 in
set_option maxHeartbeats 1000000 in
theorem take_any {F : Wx} {w : World} {x : Ws} (hF : F.prg) (h : Wk F w x) (h0 : 0 < x.f.length) (hs : x.s.length ≤ 1000000) (tv : Value) (q : List Int) (hq : IntsK (wfree F w x) w tv q) (hql : q.length ≤ 1000000) (hh : x.top.h ≤ x.s.length) :
    Calls Tryd.prog 60 #[.pointer (some ⟨F.G, 0, none⟩), tv] w (WPost F w x (.bool (holdC x.top.h x.top.dead x.s q)) (fun x' => x'.f = x.f ∧ (holdC x.top.h x.top.dead x.s q = true → x'.s = x.s.take (max (x.s.length - q.length) x.top.h)))) := by
  have HLD := Lib.hid (holds_any hF h h0 hs tv q hq hql hh)
  obtain ⟨g, A, c, cf, hc, hsv, hfv⟩ := h.cel hF h0
  obtain ⟨At, ct, htv, hmt, _⟩ := hq.form
  have HW := Lib.hid h
  have HC := Lib.hid hc
  have HF := Lib.hid hF
  rw [htv] at HLD ⊢
  cases hR : holdC x.top.h x.top.dead x.s q with
  | false =>
    rw [hR] at HLD
    go_enter Tryd.func60, Tryd.ntmps60
    go_wp2_with (go_at_call 76; refine HLD.out.mono ?_; rintro e w1 ⟨rfl, mm, rfl⟩)
    go_ret
    obtain ⟨h1, h2⟩ := HW.out.below (below_drewN (Below.refl _ _) mm)
    exact ⟨rfl, x, h1, h2, rfl, fun hx => by cases hx⟩
  | true =>
    rw [hR] at HLD
    have hown := fun d hd => owns_cutS (d := d) h hsv rfl hd
    have HSV := Lib.hid hsv
    have HOWN := Lib.hid hown
    clear hown hsv hfv htv hq h hR hF hc
    obtain ⟨n, hn⟩ : ∃ n, x.s.length = n := ⟨_, rfl⟩
    obtain ⟨m, hm⟩ : ∃ m, q.length = m := ⟨_, rfl⟩
    obtain ⟨k, hk⟩ : ∃ k, x.f.length = k := ⟨_, rfl⟩
    obtain ⟨ht, hht⟩ : ∃ ht, x.top.h = ht := ⟨_, rfl⟩
    have HN := Lib.hid hn
    rw [hn] at HC HSV HOWN hs hh ⊢
    rw [hk] at HC h0
    rw [hht] at HC hh ⊢
    rw [hm] at HLD hql ⊢
    clear hn hm hk hht hmt
    obtain ⟨d, hd⟩ : ∃ d, max (n - m) ht = d := ⟨_, rfl⟩
    have hdn : d ≤ n := by omega
    have e1 : IntKind.i64.wrap ((n : Int) - (m : Int)) = (n : Int) - (m : Int) := IntWalk.i64_in _ (by omega)
    have e2 : (if (n : Int) - (m : Int) < (ht : Int) then (ht : Int) else (n : Int) - (m : Int)) = (d : Int) := by split <;> omega
    have HD := Lib.hid hd
    have hdc : d ≤ c := by have := HC.out.n1; omega
    rw [hd]
    clear hd
    go_enter Tryd.func60, Tryd.ntmps60
    go_wp2_with (go_at_call 76; refine HLD.out.mono ?_; rintro e w1 ⟨rfl, mm, rfl⟩)
    have HC1 := Lib.hid (HC.out.drewN mm).drewN
    refine Rest.start (S := fun wz => Below w.heap.size w wz) (X := 22) (by kernel_rfl) ?_
    show Rest _ _ _ _ _ _ 23 #[false, false, false, false, false, false, false, false, false, false, false, false, false, false, false, false, false, false, false, false, false, false, false] _ _
    have hS : Below w.heap.size w (w.drewN mm).drew := (below_drewN (Below.refl _ _) mm).drew
    clear HC1
    generalize (w.drewN mm).drew = w1 at hS ⊢
    refine Rest.tk 0 9 rfl hS ?_
    refine Rest.tk 1 10 rfl hS ?_
    refine Rest.tk 2 11 rfl hS ?_
    refine Rest.tk 3 12 rfl hS ?_
    refine Rest.tk 4 13 rfl hS ?_ (hy := by intro w' hSw; have p0 := (HC.out.below hSw).p0; go_simp; try with_reducible rfl)
    refine Rest.tk 5 14 rfl hS ?_
    refine Rest.tk 6 15 rfl hS ?_
    refine Rest.tk 7 16 rfl hS ?_
    refine Rest.tk 8 17 rfl hS ?_ (hy := by intro w' hSw; have p0 := (HC.out.below hSw).p0; go_simp; try with_reducible rfl)
    refine Rest.tk 9 18 rfl hS ?_
    refine Rest.tk 10 19 rfl hS ?_
    refine Rest.tk 11 20 rfl hS ?_
    refine Rest.tk 12 21 rfl hS ?_
    refine Rest.tk 13 22 rfl hS ?_
    refine Rest.om 14 23 rfl fun K hK => ?_
    go_simp
    go_at_call 44
    have hcb := HC.out.below hS
    refine (top_at w1 F.G g k cf hcb.p1 hcb.k0 hcb.k1 hcb.k2).mono ?_
    rintro e w2 ⟨rfl, m2, rfl⟩
    go_wp2_with fail
    refine hK.out _ _ (.inr (below_drewN hS m2)) ?_
    clear hK K hcb
    replace hS := below_drewN hS m2
    generalize w1.drewN m2 = w2 at hS ⊢
    try simp only [List.setIfInBounds_toArray, List.set]
    refine Rest.tk 15 24 rfl hS ?_
    refine Rest.tk 16 25 rfl hS ?_
    refine Rest.tk 17 26 rfl hS ?_ (hy := by intro w' hSw; have ch := (HC.out.below hSw).ch; go_simp; try with_reducible rfl)
    refine Rest.tk 18 27 rfl hS ?_
    refine Rest.tk 19 28 rfl hS ?_
    refine Rest.om 20 29 rfl fun K hK => ?_
    go_simp
    refine hK.out _ _ (.inr hS) ?_
    clear hK K
    try simp only [List.setIfInBounds_toArray, List.set]
    refine Rest.tk 21 30 rfl hS ?_
    refine Rest.on 22 rfl fun K hK => ?_
    have hg := HW.out.below hS
    have p0 := hg.1.p0 HF.out
    have f0 := hg.1.frozen 0
    rw [HSV.out] at p0
    go_simp
    refine hK.out _ _ (.inl rfl) ?_
    clear hK K
    refine Rest.done (by kernel_rfl) ?_ _
    have hst := hg.1.setS (W := w2) (w := w2) (.refl _ _) (.slice A d c) (x.s.take d) (owns_below (HOWN.out d hdn) hS) (.inl (by rw [HSV.out]; cases A <;> rfl))
    rw [show F.psv = 0 by unfold Wx.psv; rw [HF.out.1]; rfl] at hst
    have HST := Lib.hid hst
    have HG2 := Lib.hid hg.2
    clear hst hg p0 f0 hS
    go_wp2
    go_ret
    exact ⟨rfl, _, HST.out.1, HG2.out.trans HST.out.2, rfl, fun _ => rfl⟩
end
end Go.Proofs.YteohmkceapblkaaDoor
