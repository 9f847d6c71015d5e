/-
  Regions that draw their order and end in one operation that waits for what is read: behind that one the condition on the world is no longer asked. Rows that the call owns, side by side.
-/
import Derived.Test.YtlgfappnlnhddaaKrow
import Derived.OrdersHeld
import Derived.Deep.RegionHeld3
import Derived.Lib.UnsafeStr
namespace Go.Proofs.Ytlgfappnlnhddaa
open Go.RowKit

section
variable {P : Program} {ops : Array Oper} {Q : Exit → Act → World → Prop} {md : Region.Mode} {S : World → Prop} {X : Nat}

/-- Whatever comes up: S holds behind each operation but X. -/
def Rest (P : Program) (md : Region.Mode) (ops : Array Oper) (Q : Exit → Act → World → Prop) (S : World → Prop) (X : Nat) (fuel : Nat) : Array Bool → Act → World → Prop :=
  match fuel with
  | 0 => fun L a w => Region.ready md ops L = [] ∧ Q .normal a w
  | n + 1 => fun L a w => (Region.ready md ops L = [] → Q .normal a w) ∧ ∀ k ∈ Region.ready md ops L, wpOp P ops Q k (fun a' w' => (k = X ∨ S w') ∧ Rest P md ops Q S X n (L.setIfInBounds k true) a' w') a w
theorem Rest.any : ∀ (n : Nat) (L : Array Bool) (a : Act) (w : World), Rest P md ops Q S X n L a w → wpAny P md ops Q n L a w
  | 0, _, _, _, h => h
  | n + 1, _, _, _, h => ⟨h.1, fun k hk => wpOp_mono (fun a' w' h' => Rest.any n _ a' w' h'.2) (h.2 k hk)⟩
/-- X waits for number i. -/
def waits (md : Region.Mode) (ops : Array Oper) (X i : Nat) : Bool := match ops[X]? with
  | some o => o.after.any fun e => Region.binds md e && e.on == i
  | none => true
theorem waits_not {L : Array Bool} {X i : Nat} (h : waits md ops X i = true) (hl : L.getD i true = false) : X ∉ Region.ready md ops L := fun hX => by
  obtain ⟨_, o, ho, hall⟩ := mem_ready.1 hX
  unfold waits at h
  rw [ho] at h
  simp only [Array.any_eq_true] at h
  obtain ⟨j, hj, he⟩ := h
  simp only [Bool.and_eq_true, beq_iff_eq] at he
  have h1 := hall _ (Array.getElem_mem hj) he.1
  rw [he.2] at h1
  rcases Nat.lt_or_ge i L.size with hlt | hge
  · simp [hlt] at h1 hl; rw [h1] at hl; cases hl
  · simp [Array.getElem?_eq_none hge] at h1 hl
theorem ready_un {L : Array Bool} {i : Nat} (hr : i ∈ Region.ready md ops L) : L.getD i true = false := (mem_ready.1 hr).1
/-- What yields in every world that meets S, and what X waits for, may be taken first. -/
theorem Rest.first {i : Nat} {oi : Oper} {v : Value} (hi : ops[i]? = some oi) (hns : Region.noSelect ops = true) (hQ : ∀ c a w, Q (.panic c) (a.put oi.dst v) w → Q (.panic c) a w) (hX : waits md ops X i = true) :
    ∀ (n : Nat) (L : Array Bool) (a : Act) (w : World), (∀ k ok, ops[k]? = some ok → k ≠ i → L.getD k true = false → (∀ e ∈ ok.after, Region.binds md e = true → e.on ≠ i) → oi.apart ops ok = true) →
      i ∈ Region.ready md ops L → YieldsIf P ops S oi v a → S w → Rest P md ops Q S X n (L.setIfInBounds i true) (a.put oi.dst v) w → Rest P md ops Q S X (n + 1) L a w := by
  have hsel := Region.noSelect_spec hns
  intro n
  induction n with
  | zero =>
    intro L a w _ hr hy hS H
    refine ⟨fun h => absurd hr (by rw [h]; simp), fun k hk => ?_⟩
    by_cases e : k = i
    · subst e
      exact hy.wpOp hi hS ⟨.inr hS, H⟩
    · exact absurd (ready_mono hk e) (by rw [H.1]; simp)
  | succ n ih =>
    intro L a w hap hr hy hS H
    refine ⟨fun h => absurd hr (by rw [h]; simp), fun k hk => ?_⟩
    by_cases e : k = i
    · subst e
      exact hy.wpOp hi hS ⟨.inr hS, H⟩
    · obtain ⟨hun, ok, hok, hall⟩ := mem_ready.1 hk
      have hkX : k ≠ X := fun h => waits_not hX (ready_un hr) (h ▸ hk)
      have hno : ∀ e ∈ ok.after, Region.binds md e = true → e.on ≠ i := fun e he hb h => by
        have h1 := hall e he hb
        have h0 := ready_un hr
        rw [h] at h1
        rcases Nat.lt_or_ge i L.size with hlt | hge
        · simp [hlt] at h0 h1; rw [h0] at h1; cases h1
        · simp [Array.getElem?_eq_none hge] at h1
      refine wpOp_mono (fun a' w' h3 => ?_) (wpOp_putIf hok (hap k ok hok e hun hno) (fun cs b => hsel i oi cs b hi) (fun cs b => hsel k ok cs b hok) hQ hy (H.2 k (ready_mono hk e)))
      have hSw : S w' := h3.2.1.resolve_left hkX
      refine ⟨.inr hSw, ih (L.setIfInBounds k true) a' w' (fun j oj hj hji hju hjn => hap j oj hj hji ?_ hjn) (ready_mono hr (Ne.symm e)) h3.1 hSw ?_⟩
      · by_cases hkj : k = j
        · subst hkj; exact hun
        · rwa [getD_set_ne true hkj] at hju
      · rw [Array.setIfInBounds_comm _ _ e]
        exact h3.2.2
theorem Rest.take {i : Nat} {oi : Oper} {v : Value} {n : Nat} {L : Array Bool} {a : Act} {w : World} (hi : ops[i]? = some oi) (hs : Region.noSelect ops = true) (hf : Region.free md ops L i = true) (hr : (Region.ready md ops L).contains i = true) (hX : waits md ops X i = true)
    (hQ : ∀ c a w, Q (.panic c) (a.put oi.dst v) w → Q (.panic c) a w) (hy : YieldsIf P ops S oi v a) (hS : S w) (h : Rest P md ops Q S X n (L.setIfInBounds i true) (a.put oi.dst v) w) : Rest P md ops Q S X (n + 1) L a w :=
  Rest.first hi hs hQ hX n L a w (Region.free_spec hi hf) (by simpa using hr) hy hS h
/-- What a turn to number i wants. -/
def Comes (P : Program) (md : Region.Mode) (ops : Array Oper) (Q : Exit → Act → World → Prop) (S : World → Prop) (X n : Nat) (L : Array Bool) (a : Act) (w : World) (i : Nat) : Prop :=
  wpOp P ops Q i (fun a' w' => (i = X ∨ S w') ∧ Rest P md ops Q S X n (L.setIfInBounds i true) a' w') a w
theorem Rest.turn {rs : List Nat} {n : Nat} {L : Array Bool} {a : Act} {w : World} (hr : Region.ready md ops L = rs) (hne : rs ≠ []) (h : ∀ i ∈ rs, Comes P md ops Q S X n L a w i) : Rest P md ops Q S X (n + 1) L a w :=
  ⟨fun h0 => absurd (hr ▸ h0) hne, hr ▸ h⟩
theorem Comes.mk {i n : Nat} {L : Array Bool} {a : Act} {w : World} {o : Oper} (ho : ops[i]? = some o)
    (h : ∀ K : Act → World → Prop, Hid (∀ a w, (i = X ∨ S w) → Rest P md ops Q S X n (L.setIfInBounds i true) a w → K a w) → if Region.wanted o (yielded ops a.tmps) = true then Oper.wp P o a w K Q else K (a.put o.dst undef) w) : Comes P md ops Q S X n L a w i :=
  wpOp_step ho fun K hK => h K (Lib.hid fun a w hS hR => hK a w ⟨hS, hR⟩)
theorem Rest.one {i n : Nat} {L : Array Bool} {a : Act} {w : World} (hr : Region.ready md ops L = [i]) (h : Comes P md ops Q S X n L a w i) : Rest P md ops Q S X (n + 1) L a w :=
  .turn hr (by simp) fun j hj => by obtain rfl : j = i := by simpa using hj
                                    exact h
theorem Rest.two {i j n : Nat} {L : Array Bool} {a : Act} {w : World} (hr : Region.ready md ops L = [i, j]) (h : Comes P md ops Q S X n L a w i) (h2 : Comes P md ops Q S X n L a w j) : Rest P md ops Q S X (n + 1) L a w :=
  .turn hr (by simp) fun k hk => by
    rcases (by simpa using hk : k = i ∨ k = j) with rfl | rfl
    · exact h
    · exact h2
theorem Rest.three {i j l n : Nat} {L : Array Bool} {a : Act} {w : World} (hr : Region.ready md ops L = [i, j, l]) (h : Comes P md ops Q S X n L a w i) (h2 : Comes P md ops Q S X n L a w j) (h3 : Comes P md ops Q S X n L a w l) : Rest P md ops Q S X (n + 1) L a w :=
  .turn hr (by simp) fun k hk => by
    rcases (by simpa using hk : k = i ∨ k = j ∨ k = l) with rfl | rfl | rfl
    · exact h
    · exact h2
    · exact h3
theorem Rest.done {L : Array Bool} {a : Act} {w : World} (hr : Region.ready md ops L = []) (h : Q .normal a w) : ∀ n, Rest P md ops Q S X n L a w
  | 0 => ⟨hr, h⟩
  | _ + 1 => ⟨fun _ => h, by rw [hr]; simp⟩
theorem Rest.start {id : Nat} {a : Act} {w : World} (hm : P.follows .mixedOrders = true) (h : Rest P .any ops Q S X ops.size (Array.replicate ops.size false) a w.drew) : (Code.region id ops true).wp P Q a w :=
  wp_region_any hm (Rest.any _ _ _ _ h)
end

/-! ### Rows that the call owns -/
/-- Such a row: the type and the cells of its elements, the slice, its length, its cells; may it still grow? -/
structure OwnR where
  e : TypeId
  size : Nat
  v : Value
  n : Nat
  xs : List Value
  live : Bool
def OwnR.apart (r s : OwnR) : Prop := ∀ g, r.v.ownBlock = some g → s.v.ownBlock ≠ some g
theorem OwnR.apart.symm {r s : OwnR} (h : r.apart s) : s.apart r := fun g hs hr => h g hr hs
/-- The row in memory; one that has been marked is only looked at. -/
def OwnR.in_ (r : OwnR) (w : World) : Prop :=
  if r.live = true then w.ownsRow 0 r.e r.size r.v r.n r.xs
  else ∃ g c : Nat, r.v = .slice (some ⟨g, 0, none⟩) r.n c ∧ r.n ≤ c ∧ g < w.heap.size ∧ ∀ j u, r.xs[j]? = some u → w.cell? ⟨g, j, none⟩ = some u
theorem OwnR.in_.keep {r : OwnR} {w w' : World} (h : r.in_ w) {K : Nat → Prop} (hk : Keeps K w w') (hv : ∀ g, r.v.ownBlock = some g → K g) : r.in_ w' := by
  unfold OwnR.in_ at h ⊢
  split
  · rename_i hl
    rw [if_pos hl] at h
    exact owns_keep h hk hv
  · rename_i hl
    rw [if_neg hl] at h
    obtain ⟨g, c, h1, hn, h2, h3⟩ := h
    exact ⟨g, c, h1, hn, Nat.lt_of_lt_of_le h2 hk.size, fun j u hu => (hk.cell (p := ⟨g, j, none⟩) (hv g (by rw [h1]; rfl))).trans (h3 j u hu)⟩
theorem OwnR.in_.lt {r : OwnR} {w : World} (h : r.in_ w) {g : Nat} (hg : r.v.ownBlock = some g) : g < w.heap.size := by
  unfold OwnR.in_ at h
  split at h
  · exact (h.lt g hg).2
  · obtain ⟨g', c, h1, _, h2, _⟩ := h
    rw [h1] at hg
    have e : some g' = some g := hg
    simp only [Option.some.injEq] at e
    omega
theorem OwnR.in_.own {r : OwnR} {w : World} (h : r.in_ w) (hl : r.live = true) : w.ownsRow 0 r.e r.size r.v r.n r.xs := by
  unfold OwnR.in_ at h
  rwa [if_pos hl] at h
theorem OwnR.in_.mk {r : OwnR} {w : World} (hl : r.live = true) (h : w.ownsRow 0 r.e r.size r.v r.n r.xs) : r.in_ w := by
  unfold OwnR.in_
  rwa [if_pos hl]
/-- The call owns these rows, each in a block of its own that came behind w0; all else is as it was. -/
structure Rows (w0 w : World) (l : List OwnR) : Prop where
  bl : Below w0.heap.size w0 w
  ow : ∀ r ∈ l, r.in_ w
  nw : ∀ r ∈ l, ∀ g, r.v.ownBlock = some g → w0.heap.size ≤ g
  ap : l.Pairwise OwnR.apart
theorem Rows.nil {w0 w : World} (h : Below w0.heap.size w0 w) : Rows w0 w [] := ⟨h, by simp, by simp, .nil⟩
theorem Rows.head {w0 w : World} {r : OwnR} {l : List OwnR} (h : Rows w0 w (r :: l)) (hl : r.live = true := by rfl) : w.ownsRow 0 r.e r.size r.v r.n r.xs := (h.ow r (List.mem_cons_self ..)).own hl
theorem Rows.tail {w0 w : World} {r : OwnR} {l : List OwnR} (h : Rows w0 w (r :: l)) : Rows w0 w l := ⟨h.bl, fun s hs => h.ow s (List.mem_cons_of_mem _ hs), fun s hs => h.nw s (List.mem_cons_of_mem _ hs), (List.pairwise_cons.1 h.ap).2⟩
theorem Rows.perm {w0 w : World} {l l' : List OwnR} (h : Rows w0 w l) (hp : l'.Perm l) : Rows w0 w l' :=
  ⟨h.bl, fun r hr => h.ow r (hp.mem_iff.1 hr), fun r hr => h.nw r (hp.mem_iff.1 hr), (hp.pairwise_iff (fun hab => OwnR.apart.symm hab)).2 h.ap⟩
theorem Rows.swap {w0 w : World} {r s : OwnR} {l : List OwnR} (h : Rows w0 w (r :: s :: l)) : Rows w0 w (s :: r :: l) := h.perm (List.Perm.swap ..)
theorem Rows.pull3 {w0 w : World} {r s t : OwnR} {l : List OwnR} (h : Rows w0 w (r :: s :: t :: l)) : Rows w0 w (t :: r :: s :: l) := h.perm ((List.Perm.swap ..).trans (List.Perm.cons _ (List.Perm.swap ..)))
theorem Rows.front {w0 w : World} {r : OwnR} {l : List OwnR} (h : Rows w0 w (r :: l)) : Rows w0 w [r] :=
  ⟨h.bl, fun s hs => by rw [List.mem_singleton.1 hs]; exact h.ow _ (List.mem_cons_self ..), fun s hs => by rw [List.mem_singleton.1 hs]; exact h.nw _ (List.mem_cons_self ..), List.pairwise_singleton _ _⟩
/-- New blocks. -/
theorem Rows.below {w0 w w' : World} {l : List OwnR} (h : Rows w0 w l) (hb : Below w.heap.size w w') : Rows w0 w' l :=
  ⟨below_then h.bl hb, fun r hr => (h.ow r hr).keep (Keeps.below hb fun _ hk => hk) fun _ hg => (h.ow r hr).lt hg, h.nw, h.ap⟩
theorem Rows.lt {w0 w : World} {l : List OwnR} (h : Rows w0 w l) {r : OwnR} (hr : r ∈ l) {g : Nat} (hg : r.v.ownBlock = some g) : g < w.heap.size := (h.ow r hr).lt hg
theorem Rows.push {w0 w w' : World} {l : List OwnR} (h : Rows w0 w l) (hb : Below w.heap.size w w') {r : OwnR} (ho : r.in_ w') (hn : ∀ g, r.v.ownBlock = some g → w.heap.size ≤ g) : Rows w0 w' (r :: l) := by
  have h2 := h.below hb
  refine ⟨h2.bl, fun s hs => ?_, fun s hs => ?_, List.pairwise_cons.2 ⟨fun s hs g hr hs2 => ?_, h.ap⟩⟩
  · rcases List.mem_cons.1 hs with rfl | hs
    · exact ho
    · exact h2.ow s hs
  · rcases List.mem_cons.1 hs with rfl | hs
    · exact fun g hg => Nat.le_trans h.bl.size (hn g hg)
    · exact h.nw s hs
  · have h3 := h.lt hs hs2
    have h4 := hn g hr
    omega
/-- A literal. -/
theorem Rows.lit {w0 w : World} {l : List OwnR} (h : Rows w0 w l) (e : TypeId) (size n : Nat) (cs : Array Value) (hl : cs.toList.length = n * size) (hn : n ≤ maxLen) : Rows w0 (w.alloc (.cells cs e)) (⟨e, size, .slice (some ⟨w.heap.size, 0, none⟩) n n, n, cs.toList, true⟩ :: l) :=
  h.push (below_new (Below.refl _ _) _) (OwnR.in_.mk rfl (World.ownsRow_lit w cs n (Nat.zero_le _) hn hl)) fun g hg => by
    have e2 : some w.heap.size = some g := hg
    simp only [Option.some.injEq] at e2
    omega
theorem Rows.drewN {w0 w : World} {l : List OwnR} (h : Rows w0 w l) (k : Nat) : Rows w0 (w.drewN k) l := h.below (below_drewN (Below.refl _ _) k)
/-- The first one has grown. -/
theorem Rows.grow {w0 w w' : World} {r : OwnR} {l : List OwnR} (h : Rows w0 w (r :: l)) (hg : w.grownBy w' r.v.ownBlock) {v' : Value} {n' : Nat} {xs' : List Value} (ho : w'.ownsRow 0 r.e r.size v' n' xs') (hat : v'.ownBlock = r.v.ownBlock ∨ v'.ownBlock = some w.heap.size) : Rows w0 w' (⟨r.e, r.size, v', n', xs', true⟩ :: l) := by
  have ha := List.pairwise_cons.1 h.ap
  have hs := h.bl.size
  have hbl := h.bl.grown hg h.bl.size (h.nw r (List.mem_cons_self ..))
  refine ⟨hbl, fun s hs => ?_, fun s hs => ?_, List.pairwise_cons.2 ⟨fun s hs g hr hs2 => ?_, ha.2⟩⟩
  · rcases List.mem_cons.1 hs with rfl | hs
    · exact OwnR.in_.mk rfl ho
    · exact (h.ow s (List.mem_cons_of_mem _ hs)).keep (Keeps.grown (K := fun k => k < w.heap.size ∧ r.v.ownBlock ≠ some k) hg (fun k hk => hk.1) fun k hk hn => hn.2 hk) fun g hgs => ⟨h.lt (List.mem_cons_of_mem _ hs) hgs, fun hr => ha.1 s hs g hr hgs⟩
  · rcases List.mem_cons.1 hs with rfl | hs
    · intro g hgs
      rcases hat with k | k
      · exact h.nw r (List.mem_cons_self ..) g (k ▸ hgs)
      · have := k.symm.trans hgs
        simp only [Option.some.injEq] at this
        omega
    · exact h.nw s (List.mem_cons_of_mem _ hs)
  · rcases hat with k | k
    · exact ha.1 s hs g (k ▸ hr) hs2
    · have h3 := h.lt (List.mem_cons_of_mem _ hs) hs2
      have := k.symm.trans hr
      simp only [Option.some.injEq] at this
      omega
/-- The first one is marked: it is a converted literal of bytes. -/
theorem Rows.mark {w0 w : World} {e : TypeId} {y n : Nat} {xs : List Value} {l : List OwnR} (h : Rows w0 w (⟨e, 1, .slice (some ⟨y, 0, none⟩) n n, n, xs, true⟩ :: l)) : Rows w0 (w.freeze ⟨y, n, none⟩ 1) (⟨e, 1, .slice (some ⟨y, 0, none⟩) n n, n, xs, false⟩ :: l) := by
  have ha := List.pairwise_cons.1 h.ap
  have hy : w0.heap.size ≤ y := h.nw _ (List.mem_cons_self ..) y rfl
  have hlt : y < w.heap.size := h.lt (List.mem_cons_self ..) rfl
  have hbl : Below w0.heap.size w0 (w.freeze ⟨y, n, none⟩ 1) := Lib.below_freeze h.bl (p := ⟨y, n, none⟩) hy 1
  have hkp : Keeps (fun k => k < w.heap.size ∧ k ≠ y) w (w.freeze ⟨y, n, none⟩ 1) := by
    have hf := Lib.below_freeze (Below.refl 0 w) (p := ⟨y, n, none⟩) (Nat.zero_le _) 1
    refine ⟨hf.os, hf.tape, hf.output, hf.size, fun k hk => ?_⟩
    have hne : ¬ y = k := fun e => hk.2 e.symm
    simp [World.freeze, Array.getElem?_modify, hne]
  refine ⟨hbl, fun s hs => ?_, fun s hs => ?_, List.pairwise_cons.2 ⟨fun s hs g hr hs2 => ha.1 s hs g hr hs2, ha.2⟩⟩
  · rcases List.mem_cons.1 hs with rfl | hs
    · have ho := h.head
      unfold OwnR.in_
      rw [if_neg (by simp)]
      refine ⟨y, n, rfl, Nat.le_refl _, Nat.lt_of_lt_of_le hlt hkp.size, fun j u hu => ?_⟩
      have hj : j < n * 1 := by
        have h1 : xs.length = n * 1 := ho.1
        rcases Nat.lt_or_ge j xs.length with h2 | h2
        · omega
        · rw [List.getElem?_eq_none h2] at hu; cases hu
      have hc := ho.cellAt j hj
      rw [hu] at hc
      rcases ho.2 with ⟨hv, _⟩ | ⟨g', cap, cur, hv, _, hb, _⟩
      · cases hv
      · simp only [Value.slice.injEq, Option.some.injEq, Addr.mk.injEq] at hv
        obtain ⟨⟨rfl, _⟩, _⟩ := hv
        simp only [World.cell?, hb] at hc
        have hfz : (w.freeze ⟨y, n, none⟩ 1).heap[y]? = some (.cells cur e (n, n + 1)) := by
          simp [World.freeze, Array.getElem?_modify, hb]
        simp only [World.cell?, hfz]
        simpa using hc
    · exact (h.ow s (List.mem_cons_of_mem _ hs)).keep hkp fun g hgs => ⟨h.lt (List.mem_cons_of_mem _ hs) hgs, fun e => ha.1 s hs y rfl (e ▸ hgs)⟩
  · rcases List.mem_cons.1 hs with rfl | hs
    · intro g hg
      exact h.nw _ (List.mem_cons_self ..) g hg
    · exact h.nw s (List.mem_cons_of_mem _ hs)
/-- A row that the call owns, as a source of append. -/
theorem owns_news {w : World} {base : Nat} {e : TypeId} {size : Nat} {v : Value} {n : Nat} {xs : List Value} (h : w.ownsRow base e size v n xs) : News w v n xs := by
  have h1 := h.1
  rcases h.2 with ⟨rfl, rfl⟩ | ⟨g, cap, cur, rfl, _⟩
  · exact .inl ⟨rfl, rfl, List.eq_nil_of_length_eq_zero (by simpa using h1)⟩
  · refine .inr ⟨_, cap, rfl, fun j u hu => ?_⟩
    have hj : j < n * size := by
      rcases Nat.lt_or_ge j xs.length with h2 | h2
      · omega
      · rw [List.getElem?_eq_none h2] at hu; cases hu
    rw [add_lit0, h.cellAt j hj, hu]
end Go.Proofs.Ytlgfappnlnhddaa
