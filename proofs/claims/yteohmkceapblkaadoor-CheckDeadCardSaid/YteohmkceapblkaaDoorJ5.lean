/- A part of the proof. -/
import Derived.Test.YteohmkceapblkaaDoorJ4
import Derived.Lib.Strings
namespace Go.Proofs.YteohmkceapblkaaDoor
section
open Go.RowKit
structure Fr where
  op : Int
  ps : List Int
  rs : List Int
  h : Nat
  dead : Bool
structure Fv where
  op : Int
  pv : Value
  rv : Value
  ps : List Int
  rs : List Int
  h : Nat
  dead : Bool
def Fv.fr (f : Fv) : Fr := ⟨f.op, f.ps, f.rs, f.h, f.dead⟩
def Fv.cells (f : Fv) : List Value := [.int .i64 f.op, f.pv, f.rv, .int .i64 (f.h : Int), .bool f.dead]
def flatF (l : List Fv) : List Value := l.flatMap Fv.cells
theorem flatF_snoc (c : List Fv) (i : Fv) : flatF (c ++ [i]) = flatF c ++ i.cells := by simp [flatF]
structure Wx where
  G : Nat
  doc : Bool
  bt : TypeId
  ft : TypeId
  v : Mv
  m : Mdl
  prof : Int
  lov : Value
  lo : List Int
  rv : Value
  ro : List Int
structure Ws where
  sv : Value
  fv : Value
  s : List Int
  f : List Fv
def wpriv (F : Wx) (x : Ws) (k : Nat) : Prop := k = F.G ∨ x.sv.ownBlock = some k ∨ x.fv.ownBlock = some k
def wfree (F : Wx) (w : World) (x : Ws) (k : Nat) : Prop := k < w.heap.size ∧ ¬ wpriv F x k
def Wx.psv (F : Wx) : Nat := if F.doc then 11 else 0
def Wx.pfv (F : Wx) : Nat := if F.doc then 12 else 1
def wcells (F : Wx) (x : Ws) : Array Value :=
  if F.doc then #[F.v.m0, F.v.m1, F.v.m2, F.v.m3, F.v.m4, F.v.m5, F.v.m6, F.v.m7, .int .i64 F.prof, F.lov, F.rv, x.sv, x.fv]
  else #[x.sv, x.fv, F.v.m0, F.v.m1, F.v.m2, F.v.m3, F.v.m4, F.v.m5, F.v.m6, F.v.m7, .int .i64 F.prof, F.lov, F.rv]
theorem wcells_sv (F : Wx) (x : Ws) (v : Value) (s : List Int) : (wcells F x).setIfInBounds F.psv v = wcells F { x with sv := v, s := s } := by
  unfold wcells Wx.psv; cases F.doc <;> rfl
theorem wcells_fv (F : Wx) (x : Ws) (v : Value) (f : List Fv) : (wcells F x).setIfInBounds F.pfv v = wcells F { x with fv := v, f := f } := by
  unfold wcells Wx.pfv; cases F.doc <;> rfl
structure WReads (F : Wx) (K : Nat → Prop) (w : World) (fl : List Fv) : Prop where
  mod : ModAt K w F.v F.m
  loc : IntsK K w F.lov F.lo
  own : IntsK K w F.rv F.ro
  fr : ∀ f ∈ fl, IntsK K w f.pv f.ps ∧ IntsK K w f.rv f.rs
theorem WReads.keep {F : Wx} {K K' : Nat → Prop} {w w' : World} {fl : List Fv} (h : WReads F K w fl) (hk : Keeps K w w') (hm : ∀ k, K k → K' k) : WReads F K' w' fl :=
  ⟨h.mod.keep hk hm, h.loc.keep hk hm, h.own.keep hk hm, fun f hf => ⟨(h.fr f hf).1.keep hk hm, (h.fr f hf).2.keep hk hm⟩⟩
structure Wk (F : Wx) (w : World) (x : Ws) : Prop where
  hg : w.heap[F.G]? = some (.cells (wcells F x) F.bt (0, 0))
  so : w.ownsRow 0 3 1 x.sv x.s.length (x.s.map (Value.int .i64))
  sp : ∀ g, x.sv.ownBlock = some g → g ≠ F.G ∧ x.fv.ownBlock ≠ some g
  fo : w.ownsRow 0 F.ft 5 x.fv x.f.length (flatF x.f)
  fp : ∀ g, x.fv.ownBlock = some g → g ≠ F.G
  reads : WReads F (wfree F w x) w x.f
structure WStep (F : Wx) (w : World) (x : Ws) (w' : World) (x' : Ws) : Prop where
  keeps : Keeps (wfree F w x) w w'
  mono : ∀ k, wfree F w x k → wfree F w' x' k
theorem WStep.refl (F : Wx) (w : World) (x : Ws) : WStep F w x w x := ⟨.refl _ _, fun _ h => h⟩
theorem WStep.trans {F : Wx} {a b c : World} {x y z : Ws} (h : WStep F a x b y) (k : WStep F b y c z) : WStep F a x c z :=
  ⟨h.keeps.trans (k.keeps.mono h.mono), fun i hi => k.mono i (h.mono i hi)⟩
theorem WStep.ints {F : Wx} {w w' : World} {x x' : Ws} (h : WStep F w x w' x') {v : Value} {l : List Int} (hv : IntsK (wfree F w x) w v l) : IntsK (wfree F w' x') w' v l := hv.keep h.keeps h.mono
theorem Wk.below {F : Wx} {w w' : World} {x : Ws} (h : Wk F w x) (hb : Below w.heap.size w w') : Wk F w' x ∧ WStep F w x w' x := by
  have hk : Keeps (wfree F w x) w w' := .below hb fun k hk => hk.1
  have hm : ∀ k, wfree F w x k → wfree F w' x k := fun k hk => ⟨Nat.lt_of_lt_of_le hk.1 hb.size, hk.2⟩
  exact ⟨⟨(hb.block _ (Array.getElem?_eq_some_iff.1 h.hg).1).trans h.hg, owns_below h.so hb, h.sp, owns_below h.fo hb, h.fp, h.reads.keep hk hm⟩, hk, hm⟩
theorem Wk.store {F : Wx} {W w : World} {x x' : Ws} (h : Wk F W x) (hk : Keeps (fun k => k < W.heap.size ∧ x.sv.ownBlock ≠ some k ∧ x.fv.ownBlock ≠ some k) W w) (o : Nat) (u : Value) (hc : (wcells F x).setIfInBounds o u = wcells F x')
    (hs : w.ownsRow 0 3 1 x'.sv x'.s.length (x'.s.map (Value.int .i64))) (hsp : ∀ g, x'.sv.ownBlock = some g → g ≠ F.G ∧ x'.fv.ownBlock ≠ some g)
    (hf : w.ownsRow 0 F.ft 5 x'.fv x'.f.length (flatF x'.f)) (hfp : ∀ g, x'.fv.ownBlock = some g → g ≠ F.G)
    (hm : ∀ k, wpriv F x' k → wpriv F x k ∨ W.heap.size ≤ k) (hr : WReads F (wfree F w x') w x'.f) : Wk F (w.setCell ⟨F.G, o, none⟩ u) x' ∧ WStep F W x (w.setCell ⟨F.G, o, none⟩ u) x' := by
  have hsz : (w.setCell ⟨F.G, o, none⟩ u).heap.size = w.heap.size := by simp [World.setCell]
  have hk0 : Keeps (fun b => b ≠ F.G) w (w.setCell ⟨F.G, o, none⟩ u) := .setCell w (fun e => e rfl) u
  have hGW : F.G < W.heap.size := (Array.getElem?_eq_some_iff.1 h.hg).1
  have hg : w.heap[F.G]? = some (.cells (wcells F x) F.bt (0, 0)) := (hk.block F.G ⟨hGW, fun e => (h.sp _ e).1 rfl, fun e => (h.fp _ e) rfl⟩).trans h.hg
  have hK : Keeps (wfree F W x) W (w.setCell ⟨F.G, o, none⟩ u) := (hk.mono fun b hb => ⟨hb.1, fun e => hb.2 (.inr (.inl e)), fun e => hb.2 (.inr (.inr e))⟩).trans ((hk0.mono fun b hb => fun e => hb.2 (.inl e)) : Keeps (wfree F W x) _ _)
  have hM : ∀ k, wfree F W x k → wfree F (w.setCell ⟨F.G, o, none⟩ u) x' k := fun k hk' => ⟨by rw [hsz]; exact Nat.lt_of_lt_of_le hk'.1 hk.size, fun hp => by
    rcases hm k hp with h1 | h1
    · exact hk'.2 h1
    · exact absurd hk'.1 (Nat.not_lt_of_le h1)⟩
  have hR : ∀ k, wfree F w x' k → wfree F (w.setCell ⟨F.G, o, none⟩ u) x' k := fun k hk' => ⟨by rw [hsz]; exact hk'.1, hk'.2⟩
  exact ⟨⟨by rw [heap_setCell_at w F.G o _ _ u hg, hc], owns_keep hs hk0 fun g hg => (hsp g hg).1, hsp, owns_keep hf hk0 fun g hg => (hfp g hg), hfp, hr.keep (hk0.mono fun b hb e => hb.2 (.inl e)) hR⟩, hK, hM⟩
theorem wreads_on {F : Wx} {W w : World} {x x' : Ws} (hk : Keeps (fun k => k < W.heap.size ∧ x.sv.ownBlock ≠ some k ∧ x.fv.ownBlock ≠ some k) W w) (hm : ∀ k, wpriv F x' k → wpriv F x k ∨ W.heap.size ≤ k) :
    Keeps (wfree F W x) W w ∧ ∀ k, wfree F W x k → wfree F w x' k :=
  ⟨hk.mono fun b hb => ⟨hb.1, fun e => hb.2 (.inr (.inl e)), fun e => hb.2 (.inr (.inr e))⟩, fun k hk' => ⟨Nat.lt_of_lt_of_le hk'.1 hk.size, fun hp => by
    rcases hm k hp with h1 | h1
    · exact hk'.2 h1
    · exact absurd hk'.1 (Nat.not_lt_of_le h1)⟩⟩
theorem Wk.lts {F : Wx} {w : World} {x : Ws} (h : Wk F w x) : F.G < w.heap.size ∧ (∀ g, x.sv.ownBlock = some g → g < w.heap.size) ∧ ∀ g, x.fv.ownBlock = some g → g < w.heap.size :=
  ⟨(Array.getElem?_eq_some_iff.1 h.hg).1, fun g hg => (h.so.lt g hg).2, fun g hg => (h.fo.lt g hg).2⟩
theorem Wk.setS {F : Wx} {W w : World} {x : Ws} (h : Wk F W x) (hk : Keeps (fun k => k < W.heap.size ∧ x.sv.ownBlock ≠ some k) W w) (v : Value) (s : List Int) (hown : w.ownsRow 0 3 1 v s.length (s.map (Value.int .i64)))
    (hat : v.ownBlock = x.sv.ownBlock ∨ ∀ g, v.ownBlock = some g → W.heap.size ≤ g) :
    Wk F (w.setCell ⟨F.G, F.psv, none⟩ v) { x with sv := v, s := s } ∧ WStep F W x (w.setCell ⟨F.G, F.psv, none⟩ v) { x with sv := v, s := s } := by
  obtain ⟨l1, l3, l4⟩ := h.lts
  have hk2 : Keeps (fun k => k < W.heap.size ∧ x.sv.ownBlock ≠ some k ∧ x.fv.ownBlock ≠ some k) W w := hk.mono fun _ h => ⟨h.1, h.2.1⟩
  have hm : ∀ k, wpriv F { x with sv := v, s := s } k → wpriv F x k ∨ W.heap.size ≤ k := by
    rintro k (e | e | e)
    · exact .inl (.inl e)
    · rcases hat with h1 | h1
      · exact .inl (.inr (.inl (h1 ▸ e)))
      · exact .inr (h1 k e)
    · exact .inl (.inr (.inr e))
  obtain ⟨r1, r2⟩ := wreads_on hk2 hm
  refine h.store hk2 F.psv v (wcells_sv F x v s) hown (fun g hg => ?_) (owns_keep h.fo hk fun g hg => ⟨l4 g hg, fun e => (h.sp g e).2 hg⟩) h.fp hm (h.reads.keep r1 r2)
  rcases hat with h1 | h1
  · exact h.sp g (h1 ▸ hg)
  · have := h1 g hg
    exact ⟨by omega, fun e => by have := l4 g e; omega⟩
theorem Wk.setF {F : Wx} {W w : World} {x : Ws} (h : Wk F W x) (hk : Keeps (fun k => k < W.heap.size ∧ x.fv.ownBlock ≠ some k) W w) (v : Value) (f : List Fv) (hown : w.ownsRow 0 F.ft 5 v f.length (flatF f))
    (hat : v.ownBlock = x.fv.ownBlock ∨ ∀ g, v.ownBlock = some g → W.heap.size ≤ g) (hfr : ∀ a ∈ f, a ∈ x.f ∨ (IntsK (wfree F W x) W a.pv a.ps ∧ IntsK (wfree F W x) W a.rv a.rs)) :
    Wk F (w.setCell ⟨F.G, F.pfv, none⟩ v) { x with fv := v, f := f } ∧ WStep F W x (w.setCell ⟨F.G, F.pfv, none⟩ v) { x with fv := v, f := f } := by
  obtain ⟨l1, l3, l4⟩ := h.lts
  have hk2 : Keeps (fun k => k < W.heap.size ∧ x.sv.ownBlock ≠ some k ∧ x.fv.ownBlock ≠ some k) W w := hk.mono fun _ h => ⟨h.1, h.2.2⟩
  have hm : ∀ k, wpriv F { x with fv := v, f := f } k → wpriv F x k ∨ W.heap.size ≤ k := by
    rintro k (e | e | e)
    · exact .inl (.inl e)
    · exact .inl (.inr (.inl e))
    · rcases hat with h1 | h1
      · exact .inl (.inr (.inr (h1 ▸ e)))
      · exact .inr (h1 k e)
  obtain ⟨r1, r2⟩ := wreads_on hk2 hm
  refine h.store hk2 F.pfv v (wcells_fv F x v f) (owns_keep h.so hk fun g hg => ⟨l3 g hg, (h.sp g hg).2⟩) (fun g hg => ⟨(h.sp g hg).1, fun e => ?_⟩) hown (fun g hg => ?_) hm ?_
  · rcases hat with h1 | h1
    · exact (h.sp g hg).2 (h1 ▸ e)
    · have := h1 g e; have := l3 g hg; omega
  · rcases hat with h1 | h1
    · exact h.fp g (h1 ▸ hg)
    · have := h1 g hg; omega
  · have hr := h.reads.keep r1 r2
    exact ⟨hr.mod, hr.loc, hr.own, fun a ha => by
      rcases hfr a ha with h1 | ⟨h1, h2⟩
      · exact hr.fr a h1
      · exact ⟨h1.keep r1 r2, h2.keep r1 r2⟩⟩
theorem Wk.setC {F : Wx} {w : World} {x : Ws} (h : Wk F w x) {g n c : Nat} (hv : x.fv = .slice (some ⟨g, 0, none⟩) n c) (j : Nat) (u : Value) (f : List Fv) (hf : flatF f = (flatF x.f).set j u) (hn : f.length = x.f.length) (hfr : ∀ a ∈ f, ∃ b ∈ x.f, a.pv = b.pv ∧ a.rv = b.rv ∧ a.ps = b.ps ∧ a.rs = b.rs) :
    Wk F (w.setCell ⟨g, j, none⟩ u) { x with f := f } ∧ WStep F w x (w.setCell ⟨g, j, none⟩ u) { x with f := f } := by
  have hown : x.fv.ownBlock = some g := by rw [hv]; rfl
  have hgG : g ≠ F.G := h.fp g hown
  have hsz : (w.setCell ⟨g, j, none⟩ u).heap.size = w.heap.size := by simp [World.setCell]
  have hk0 : Keeps (fun b => b ≠ g) w (w.setCell ⟨g, j, none⟩ u) := .setCell w (fun e => e rfl) u
  have hK : Keeps (wfree F w x) w (w.setCell ⟨g, j, none⟩ u) := hk0.mono fun b hb e => hb.2 (.inr (.inr (e ▸ hown)))
  have hM : ∀ k, wfree F w x k → wfree F (w.setCell ⟨g, j, none⟩ u) { x with f := f } k := fun k hk => ⟨by rw [hsz]; exact hk.1, hk.2⟩
  have hfo := h.fo
  have hn' : x.f.length = n := by
    rcases hfo.2 with ⟨h1, _⟩ | ⟨_, _, _, h1, _⟩
    · rw [hv] at h1; cases h1
    · rw [hv] at h1; simp only [Value.slice.injEq] at h1; exact h1.2.1.symm
  rw [hv, hn'] at hfo
  have hst := (hfo.stored j u).1
  refine ⟨⟨(hk0.block _ (fun e => hgG e.symm)).trans h.hg, owns_keep h.so hk0 fun a ha e => (h.sp a ha).2 (e ▸ hown), h.sp, by rw [hn, hn', hf, hv]; exact hst, h.fp, ?_⟩, hK, hM⟩
  have hr := h.reads.keep hK hM
  exact ⟨hr.mod, hr.loc, hr.own, fun a ha => by
    obtain ⟨b, hb, e1, e2, e3, e4⟩ := hfr a ha
    rw [e1, e2, e3, e4]; exact hr.fr b hb⟩
section
variable {F : Wx} {w : World} {x : Ws}
theorem Wk.cell (h : Wk F w x) (o : Nat) : w.cell? ⟨F.G, o, none⟩ = (wcells F x)[o]? := by simp [World.cell?, h.hg]
theorem Wk.frozen (h : Wk F w x) (o : Nat) : w.frozen? ⟨F.G, o, none⟩ = false := by simp [World.frozen?, h.hg]
theorem Wk.sform (h : Wk F w x) : ∃ A c, x.sv = .slice A x.s.length c ∧ x.s.length ≤ c ∧ c ≤ maxLen := by
  rcases h.so.2 with ⟨h1, h2⟩ | ⟨g, cap, cur, h1, _, _, h2, h3, _⟩
  · exact ⟨none, 0, by rw [h1, h2], by omega, by unfold maxLen; omega⟩
  · exact ⟨_, cap, h1, h2, h3⟩
theorem Wk.scell (h : Wk F w x) (h0 : 0 < x.s.length) : ∃ g c : Nat, x.sv = .slice (some ⟨g, 0, none⟩) x.s.length c ∧ x.s.length ≤ c ∧ c ≤ maxLen ∧ g < w.heap.size ∧ ∀ j, j < x.s.length → w.cell? ⟨g, j, none⟩ = some (.int .i64 (x.s.getD j 0)) := by
  have hs := h.so
  obtain ⟨g, c, he, h1, h2⟩ : ∃ g c : Nat, x.sv = .slice (some ⟨g, 0, none⟩) x.s.length c ∧ x.s.length ≤ c ∧ c ≤ maxLen := by
    rcases hs.2 with ⟨_, h2⟩ | ⟨g, cap, cur, h1, _, _, h2, h3, _⟩
    · omega
    · exact ⟨g, cap, h1, h2, h3⟩
  rw [he] at hs
  refine ⟨g, c, he, h1, h2, (hs.lt g rfl).2, fun j hj => ?_⟩
  rw [hs.cellAt j (by rw [Nat.mul_one]; exact hj)]
  simp [hj]
theorem flatF_at (l : List Fv) (j i : Nat) (hj : j < l.length) (hi : i < 5) (f0 : Fv) : (flatF l)[j * 5 + i]? = (l.getD j f0).cells[i]? := by
  induction l generalizing j with
  | nil => simp at hj
  | cons a l ih =>
    cases j with
    | zero =>
      simp only [flatF, List.flatMap_cons, Nat.zero_mul, Nat.zero_add, List.getD_cons_zero]
      rw [List.getElem?_append_left (by simp [Fv.cells]; omega)]
    | succ j =>
      simp only [flatF, List.flatMap_cons, List.getD_cons_succ]
      rw [List.getElem?_append_right (by simp [Fv.cells]; omega)]
      rw [show (j + 1) * 5 + i - a.cells.length = j * 5 + i by simp [Fv.cells]; omega]
      exact ih j (by simpa using hj)
theorem Wk.fcell (h : Wk F w x) (h0 : 0 < x.f.length) : ∃ g c : Nat, x.fv = .slice (some ⟨g, 0, none⟩) x.f.length c ∧ x.f.length ≤ c ∧ c ≤ maxLen ∧ g < w.heap.size ∧ (∀ o, w.frozen? ⟨g, o, none⟩ = false) ∧ ∀ j, j < x.f.length → ∀ i, i < 5 → ∀ f0, w.cell? ⟨g, j * 5 + i, none⟩ = (x.f.getD j f0).cells[i]? := by
  have hs := h.fo
  obtain ⟨g, c, he, h1, h2⟩ : ∃ g c : Nat, x.fv = .slice (some ⟨g, 0, none⟩) x.f.length c ∧ x.f.length ≤ c ∧ c ≤ maxLen := by
    rcases hs.2 with ⟨_, h2⟩ | ⟨g, cap, cur, h1, _, _, h2, h3, _⟩
    · omega
    · exact ⟨g, cap, h1, h2, h3⟩
  rw [he] at hs
  refine ⟨g, c, he, h1, h2, (hs.lt g rfl).2, fun o => hs.frozenAt o, fun j hj i hi f0 => ?_⟩
  rw [hs.cellAt (j * 5 + i) (by omega)]
  exact flatF_at x.f j i hj hi f0
theorem Wk.new_free (h : Wk F w x) {k : Nat} (hk : w.heap.size ≤ k) : ¬ wpriv F x k := by
  obtain ⟨l1, l3, l4⟩ := h.lts
  rintro (e | e | e)
  · omega
  · have := l3 k e; omega
  · have := l4 k e; omega
theorem Wk.alloc (h : Wk F w x) (o : Obj) : Wk F (w.alloc o) x ∧ WStep F w x (w.alloc o) x := h.below ((Below.refl _ _).alloc (Nat.le_refl _) o)
theorem Wk.drew (h : Wk F w x) : Wk F w.drew x ∧ WStep F w x w.drew x := h.below ((Below.refl _ _).drew)
end
def WPost (F : Wx) (w : World) (x : Ws) (v : Value) (R : Ws → Prop) (e : Ending) (w' : World) : Prop := e = .returned v ∧ ∃ x', Wk F w' x' ∧ WStep F w x w' x' ∧ R x'
end
section
open Go.RowKit
def nums (s : ByteArray) : List Nat := s.data.toList.map UInt8.toNat
theorem map_toNat_inj : ∀ (a b : List UInt8), a.map UInt8.toNat = b.map UInt8.toNat → a = b
  | [], [], _ => rfl
  | [], _ :: _, h => by cases h
  | _ :: _, [], h => by cases h
  | x :: a, y :: b, h => by
    simp only [List.map_cons, List.cons.injEq] at h
    rw [UInt8.toNat_inj.1 h.1, map_toNat_inj a b h.2]
theorem nums_beq (s t : ByteArray) : (s.toList == t.toList) = decide (nums s = nums t) := by
  rw [Lib.toList_data, Lib.toList_data]
  unfold nums
  rw [Bool.eq_iff_iff]
  simp only [beq_iff_eq, decide_eq_true_eq]
  exact ⟨fun h => by rw [h], map_toNat_inj _ _⟩
theorem nums_lt (s : ByteArray) : ∀ x ∈ nums s, x < 256 := by
  intro x hx
  obtain ⟨b, _, rfl⟩ := List.mem_map.1 hx
  exact UInt8.toNat_lt b
theorem nums_length (s : ByteArray) : (nums s).length = s.size := by
  unfold nums; rw [List.length_map, Lib.size_eq]
theorem nums_ne {s t : ByteArray} (h : nums s ≠ nums t) : (s.toList == t.toList) = false := by rw [nums_beq, decide_eq_false h]
theorem nums_is {s t : ByteArray} (h : nums s = nums t) : (s.toList == t.toList) = true := by rw [nums_beq, decide_eq_true h]
end
section
open Go.RowKit
theorem all_yes {α : Type} {p : α → Bool} {l : List α} {d : α} (h : ∀ j, j < l.length → p (l.getD j d) = true) : l.all p = true := by
  rw [List.all_eq_true]
  intro x hx
  obtain ⟨j, hj, rfl⟩ := List.mem_iff_getElem.1 hx
  have := h j hj
  rwa [List.getD_eq_getElem?_getD, List.getElem?_eq_getElem hj] at this
theorem all_no {α : Type} {p : α → Bool} {l : List α} {d : α} {j : Nat} (hj : j < l.length) (h : p (l.getD j d) = false) : l.all p = false := by
  rw [Bool.eq_false_iff]
  intro ha
  rw [List.all_eq_true] at ha
  have := ha _ (List.getElem_mem hj)
  rw [List.getD_eq_getElem?_getD, List.getElem?_eq_getElem hj] at h
  simp only [Option.getD_some] at h
  rw [this] at h; cases h
def AllTo {α : Type} (p : α → Bool) (l : List α) (d : α) (k : Nat) : Prop := ∀ j, j < k → p (l.getD j d) = true
theorem AllTo.zero {α : Type} (p : α → Bool) (l : List α) (d : α) : AllTo p l d 0 := fun _ h => absurd h (Nat.not_lt_zero _)
theorem AllTo.succ {α : Type} {p : α → Bool} {l : List α} {d : α} {k : Nat} (h : AllTo p l d k) (hk : p (l.getD k d) = true) : AllTo p l d (k + 1) := fun j hj => by
  rcases Nat.lt_or_ge j k with h1 | h1
  · exact h j h1
  · rw [show j = k by omega]; exact hk
theorem AllTo.done {α : Type} {p : α → Bool} {l : List α} {d : α} (h : AllTo p l d l.length) : l.all p = true := all_yes h
def kindB (t : Int) : Bool := decide (t = 127 ∨ t = 126 ∨ t = 124)
def kindsB (l : List Int) (most : Int) : Bool := decide ((l.length : Int) ≤ most) && l.all kindB
def idxB (n : Int) : Bool := inB n 0 2147483647
def strB (s : ByteArray) : Bool := decide (s.size ≤ 64) && decide (0 ≤ cntI (nums s))
def instB (x : Ins) : Bool := insB x.op x.a x.b x.n x.l
def typB (t : List Int × List Int) : Bool := kindsB t.1 8 && kindsB t.2 8
def impB (i : ByteArray × ByteArray × Int) : Bool := strB i.1 && strB i.2.1 && idxB i.2.2
def codeB (c : List Ins) : Bool := decide (c.length ≤ 65536) && c.all instB
def fncB (f : Fnc) : Bool := idxB f.ty && kindsB f.loc 256 && codeB f.code
def memB (x : Int × Int) : Bool := decide (0 ≤ x.1) && decide (x.1 ≤ x.2) && decide (x.2 ≤ 512)
def globB (g : Int × Bool × Int) : Bool := kindB g.1 && !(decide (g.1 = 127) && decide (4294967295 < g.2.2))
def exOneB (e : ByteArray × Int × Int) : Bool := strB e.1 && idxB e.2.2 && decide (e.2.1 = 0 ∨ e.2.1 = 2 ∨ e.2.1 = 3)
def exD : ByteArray × Int × Int := (ByteArray.empty, 0, 0)
def exAtB (l : List (ByteArray × Int × Int)) (k : Nat) : Bool := exOneB (l.getD k exD) && (List.range k).all fun j => decide (nums (l.getD j exD).1 ≠ nums (l.getD k exD).1)
def exsB (l : List (ByteArray × Int × Int)) : Bool := (List.range l.length).all (exAtB l)
def datB (d : Dat) : Bool := (if d.act then inB d.mem 0 3 && inB d.pos 0 2147483647 else inB d.mem 0 0 && inB d.pos 0 0) && decide (d.bytes.length ≤ 1048576)
def cusB (c : ByteArray × List Nat) : Bool := strB c.1 && decide (c.2.length ≤ 1048576)
def fitsB (m : Mdl) : Bool :=
  decide (m.types.length ≤ 64) && decide (m.imps.length + m.funs.length ≤ 256) && decide (m.mems.length ≤ 4) && decide (m.globs.length ≤ 256) && decide (m.datas.length ≤ 16) && decide (m.exps.length ≤ 256) && decide (m.cus.length ≤ 16)
def partsB (m : Mdl) : Bool := m.types.all typB && m.imps.all impB && m.funs.all fncB && m.mems.all memB && m.globs.all globB && exsB m.exps && m.datas.all datB && m.cus.all cusB
def rightB (m : Mdl) : Int := if fitsB m then if partsB m then 0 else 12 else 13
theorem range_yes {p : Nat → Bool} {n : Nat} (h : ∀ j, j < n → p j = true) : (List.range n).all p = true := by
  rw [List.all_eq_true]; intro x hx; exact h x (List.mem_range.1 hx)
theorem range_no {p : Nat → Bool} {n j : Nat} (hj : j < n) (h : p j = false) : (List.range n).all p = false := by
  rw [Bool.eq_false_iff]; intro ha; rw [List.all_eq_true] at ha; rw [ha j (List.mem_range.2 hj)] at h; cases h
end
end Go.Proofs.YteohmkceapblkaaDoor
