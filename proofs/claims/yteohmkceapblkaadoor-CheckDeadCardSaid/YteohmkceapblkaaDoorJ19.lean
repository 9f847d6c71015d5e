/- A part of the proof. -/
import Derived.Test.YteohmkceapblkaaDoorJ18
namespace Go.Proofs.YteohmkceapblkaaDoor
section
open Go.RowKit
theorem fixedC_len (op : Int) : (fixedC op).1.length ≤ 3 ∧ (fixedC op).2.length ≤ 3 := by
  unfold fixedC
  split
  · simp
  · split
    · rename_i h
      have h1 : paramsB op = List.replicate (sigB op).1 (sigB op).2.1 := by unfold paramsB; rw [h]; rfl
      have h2 : resultsB op = [(sigB op).2.2] := by unfold resultsB; rw [h]; rfl
      simp only
      rw [h1, h2, List.length_replicate]
      have := sig_count op h
      simp
      omega
    · split
      · split <;> simp
      · simp
def restG (op : Int) : Prop := op ≠ 2 ∧ op ≠ 3 ∧ op ≠ 4 ∧ op ≠ 5 ∧ op ≠ 11 ∧ op ≠ 0 ∧ op ≠ 12 ∧ op ≠ 14 ∧ op ≠ 15 ∧ op ≠ 18 ∧ op ≠ 26 ∧ op ≠ 27 ∧ op ≠ 36
theorem restG_is (e : Env) (p : Pl) (x : Ins) (h : restG x.op) : followC e p x = (takeC p (effectC e p x).1).map fun q => giveC q (effectC e p x).2 := by
  obtain ⟨g0, g1, g2, g3, g4, g5, g6, g7, g8, g9, g10, g11, g12⟩ := h
  unfold followC
  simp [g0, g1, g2, g3, g4, g5, g6, g7, g8, g9, g10, g11, g12]
theorem Wk.new_ints {F : Wx} {w w' : World} {x : Ws} (h : Wk F w x) {v : Value} {q : List Int} (hq : IntsK (fun k => w.heap.size ≤ k ∧ k < w'.heap.size) w' v q) : IntsK (wfree F w' x) w' v q :=
  hq.keep (.refl _ _) fun _ hk => ⟨hk.2, h.new_free hk.1⟩
set_option maxRecDepth 100000 in
set_option maxHeartbeats 4000000 in
theorem follow_rest {F : Wx} {w : World} {x : Ws} (hF : F.prg) (h : Wk F w x) (h0 : 0 < x.f.length) (hs : x.s.length ≤ 900000) (hh : x.top.h ≤ x.s.length) (op a b n : Int) (l : List Int) (hop : restF op) (hog : restG op) (Al : Option Addr) (nl cl : Nat) :
    Calls Tryd.prog 28 #[.pointer (some ⟨F.G, 0, none⟩), .agg #[.int .i64 op, .int .i64 a, .int .i64 b, .int .u64 n, .slice Al nl cl]] w (FolPost F w x (followC F.env x.pl ⟨op, a, b, n, l⟩)) := by
  rw [restG_is _ _ ⟨op, a, b, n, l⟩ hog, restF_is _ _ ⟨op, a, b, n, l⟩ hop]
  simp only
  have HEF := Lib.hid (fun w => effect_rest (.pointer (some ⟨F.G, 0, none⟩)) w op a b n hop Al nl cl)
  obtain ⟨g0, g1, g2, g3, g4, g5, g6, g7, g8, g9, g10, g11, g12⟩ := hog
  have e0 : (op == 2) = false := by simpa using g0
  have e1 : (op == 3) = false := by simpa using g1
  have e2 : (op == 4) = false := by simpa using g2
  have e3 : (op == 5) = false := by simpa using g3
  have e4 : (op == 11) = false := by simpa using g4
  have e5 : (op == 0) = false := by simpa using g5
  have e6 : (op == 12) = false := by simpa using g6
  have e7 : (op == 14) = false := by simpa using g7
  have e8 : (op == 15) = false := by simpa using g8
  have e9 : (op == 18) = false := by simpa using g9
  have e10 : (op == 26) = false := by simpa using g10
  have e11 : (op == 27) = false := by simpa using g11
  have e12 : (op == 36) = false := by simpa using g12
  clear g0 g1 g2 g3 g4 g5 g6 g7 g8 g9 g10 g11 g12 hop
  have hql := fixedC_len op
  generalize fixedC op = q at HEF hql ⊢
  obtain ⟨W, hW⟩ : ∃ W, W = w.alloc (.cells #[.int .i64 op, .int .i64 a, .int .i64 b, .int .u64 n, .slice Al nl cl] 30) := ⟨_, rfl⟩
  have hk : ∀ j : Nat, W.cell? ⟨w.heap.size, j, none⟩ = (#[.int .i64 op, .int .i64 a, .int .i64 b, .int .u64 n, .slice Al nl cl] : Array Value)[j]? := fun j => by rw [hW, World.cell?_alloc_new]
  have k0 := hk 0
  have k1 := hk 1
  have k2 := hk 2
  have k3 := hk 3
  have k4 := hk 4
  simp only [List.getElem?_toArray, List.getElem?_cons_zero, List.getElem?_cons_succ] at k0 k1 k2 k3 k4
  have HG1 := Lib.hid (hW ▸ h.alloc (.cells #[.int .i64 op, .int .i64 a, .int .i64 b, .int .u64 n, .slice Al nl cl] 30) : Wk F W x ∧ WStep F w x W x)
  have HW := Lib.hid hW
  have HF := Lib.hid hF
  have HQL := Lib.hid hql
  have HH := Lib.hid (⟨h0, hs, hh⟩ : 0 < x.f.length ∧ x.s.length ≤ 900000 ∧ x.top.h ≤ x.s.length)
  clear hk hW h hF hql h0 hs hh
  cases hR : holdC x.top.h x.top.dead x.s q.1 with
  | false =>
    rw [take_no hR]
    have HTK : Hid (∀ w2 v, Wk F w2 x → IntsK (wfree F w2 x) w2 v q.1 → Calls Tryd.prog 60 #[.pointer (some ⟨F.G, 0, none⟩), v] w2 (WPost F w2 x (.bool false) fun _ => True)) := Lib.hid fun w2 v g2 hq => (take_any HF.out g2 HH.out.1 (by have := HH.out.2.1; omega) v q.1 hq (by have := HQL.out.1; omega) HH.out.2.2).mono fun e w' ⟨h1, x', h2, h3, h4⟩ => by
      rw [hR] at h1; exact ⟨h1, x', h2, h3, trivial⟩
    clear hR
    go_enter Tryd.func28, Tryd.ntmps28
    go_upto_region 1 with (fail)
    rw [← HW.out]
    go_wp2_with (first | (go_at_call 61; refine (HEF.out _).mono ?_; rintro e w2 ⟨p, r, rfl, hp, hr, hb2⟩; have HG2 := Lib.hid (HG1.out.1.below hb2); have HP := Lib.hid (HG1.out.1.new_ints hp); clear hb2 hp hr) | (go_at_call 60; refine (HTK.out _ _ HG2.out.1 HP.out).mono ?_; rintro e w3 ⟨rfl, x3, g3, s3, -⟩; have HG3 := Lib.hid g3; have HS3 := Lib.hid s3; clear g3 s3))
    go_ret
    exact ⟨x3, HG3.out, (HG1.out.2.trans HG2.out.2).trans HS3.out, rfl, fun q hq => (by cases hq)⟩
  | true =>
    rw [take_yes hR]
    have HTK : Hid (∀ w2 v, Wk F w2 x → IntsK (wfree F w2 x) w2 v q.1 → Calls Tryd.prog 60 #[.pointer (some ⟨F.G, 0, none⟩), v] w2 (WPost F w2 x (.bool true) fun x' => x'.f = x.f ∧ x'.s = x.s.take (max (x.s.length - q.1.length) x.top.h))) := Lib.hid fun w2 v g2 hq => (take_any HF.out g2 HH.out.1 (by have := HH.out.2.1; omega) v q.1 hq (by have := HQL.out.1; omega) HH.out.2.2).mono fun e w' ⟨h1, x', h2, h3, h4⟩ => by
      rw [hR] at h1; exact ⟨h1, x', h2, h3, h4.1, h4.2 hR⟩
    clear hR
    go_enter Tryd.func28, Tryd.ntmps28
    go_upto_region 1 with (fail)
    rw [← HW.out]
    go_wp2_with (first | (go_at_call 61; refine (HEF.out _).mono ?_; rintro e w2 ⟨p, r, rfl, hp, hr, hb2⟩; have HG2 := Lib.hid (HG1.out.1.below hb2); have HP := Lib.hid (HG1.out.1.new_ints hp); have HR := Lib.hid (HG1.out.1.new_ints hr); clear hb2 hp hr) | (go_at_call 60; refine (HTK.out _ _ HG2.out.1 HP.out).mono ?_; rintro e w3 ⟨rfl, x3, g3, s3, hf3, hs3⟩; have HG3 := Lib.hid g3; have HS3 := Lib.hid s3; have HF3 := Lib.hid hf3; have HX3 := Lib.hid hs3; clear g3 s3 hf3 hs3) | (go_at_call 43; refine (give_any HF.out HG3.out _ q.2 (HS3.out.ints HR.out) (by rw [HX3.out, List.length_take]; have := HH.out.2.1; have := HQL.out.2; omega)).mono ?_; rintro e w4 ⟨rfl, x4, g4, s4, hf4, hs4⟩; have HG4 := Lib.hid g4; have HS4 := Lib.hid s4; have HF4 := Lib.hid hf4; have HX4 := Lib.hid hs4; clear g4 s4 hf4 hs4))
    go_ret
    refine ⟨x4, HG4.out, ((HG1.out.2.trans HG2.out.2).trans HS3.out).trans HS4.out, rfl, fun q' hq => ?_⟩
    obtain rfl := Option.some.inj hq
    show Ws.pl x4 = giveC _ _
    unfold Ws.pl giveC
    rw [HF4.out, HX4.out, HF3.out, HX3.out]
end
section
structure Inv (n : Nat) (p : Pl) : Prop where
  sl : p.s.length ≤ 8 * n
  fl : p.f.length ≤ n + 1
  ar : ∀ a ∈ p.f, a.ps.length ≤ 8 ∧ a.rs.length ≤ 8
  hi : (p.f.map Fr.h).Pairwise (· ≤ ·)
  lo : ∀ a ∈ p.f, a.h ≤ p.s.length
theorem topF_snoc (f : List Fr) (t : Fr) : topF (f ++ [t]) = t := by simp [topF]
theorem snoc_of {α : Type} (f : List α) (h : 0 < f.length) : ∃ g t, f = g ++ [t] :=
  ⟨f.dropLast, f.getLast (by intro e; rw [e] at h; exact absurd h (Nat.lt_irrefl _)), (List.dropLast_concat_getLast _).symm⟩
theorem Inv.ends {n : Nat} {p : Pl} (h : Inv n p) (h0 : 0 < p.f.length) : ∃ f t, p.f = f ++ [t] ∧ topF p.f = t ∧ (∀ a ∈ f, a.h ≤ t.h) ∧ t.h ≤ p.s.length ∧ t.ps.length ≤ 8 ∧ t.rs.length ≤ 8 := by
  obtain ⟨f, t, e⟩ := snoc_of p.f h0
  have hp := h.hi
  rw [e, List.map_append, List.pairwise_append] at hp
  refine ⟨f, t, e, by rw [e, topF_snoc], fun a ha => hp.2.2 _ (List.mem_map.2 ⟨a, ha, rfl⟩) _ (by simp), h.lo t (by rw [e]; simp), h.ar t (by rw [e]; simp)⟩
theorem Inv.top {n : Nat} {p : Pl} (h : Inv n p) (h0 : 0 < p.f.length) : (topF p.f).h ≤ p.s.length ∧ (topF p.f).ps.length ≤ 8 ∧ (topF p.f).rs.length ≤ 8 := by
  obtain ⟨f, t, _, e, _, h1, h2, h3⟩ := h.ends h0
  rw [e]; exact ⟨h1, h2, h3⟩
theorem Inv.all {n : Nat} {p : Pl} (h : Inv n p) (h0 : 0 < p.f.length) : ∀ a ∈ p.f, a.h ≤ (topF p.f).h := by
  obtain ⟨f, t, e, e2, h1, _⟩ := h.ends h0
  rw [e2, e]
  intro a ha
  rcases List.mem_append.1 ha with h2 | h2
  · exact h1 a h2
  · rw [List.mem_singleton.1 h2]; exact Nat.le_refl _
theorem Inv.cut {n : Nat} {p : Pl} (h : Inv n p) (h0 : 0 < p.f.length) (k : Nat) (hk : (topF p.f).h ≤ k) : Inv n ⟨p.s.take k, p.f⟩ :=
  ⟨Nat.le_trans (by simp only [List.length_take]; omega) h.sl, h.fl, h.ar, h.hi, fun a ha => by
    have h1 := h.all h0 a ha
    have h2 := h.lo a ha
    show a.h ≤ (p.s.take k).length
    rw [List.length_take]
    omega⟩
theorem Inv.up {n : Nat} {p : Pl} (h : Inv n p) : Inv (n + 1) p := ⟨Nat.le_trans h.sl (by omega), Nat.le_trans h.fl (by omega), h.ar, h.hi, h.lo⟩
theorem Inv.take {n : Nat} {p p' : Pl} {q : List Int} (h : Inv n p) (h0 : 0 < p.f.length) (ht : takeC p q = some p') : Inv n p' ∧ p'.f = p.f := by
  unfold takeC at ht
  split at ht
  · simp only [Option.some.injEq] at ht
    subst ht
    exact ⟨h.cut h0 _ (Nat.le_max_right _ _), rfl⟩
  · cases ht
theorem Inv.give {n : Nat} {p : Pl} {q : List Int} (h : Inv n p) (hq : q.length ≤ 8) : Inv (n + 1) (giveC p q) :=
  ⟨by have := h.sl; show (p.s ++ q).length ≤ _; rw [List.length_append]; omega, Nat.le_trans h.fl (by show _ ≤ n + 1 + 1; omega), h.ar, h.hi, fun a ha => by
    have := h.lo a ha
    show a.h ≤ (p.s ++ q).length
    rw [List.length_append]; omega⟩
theorem Inv.begin {n : Nat} {p : Pl} {op : Int} {ps rs : List Int} (h : Inv n p) (hp : ps.length ≤ 8) (hr : rs.length ≤ 8) : Inv (n + 1) (beginC p op ps rs) :=
  ⟨by have := h.sl; show (p.s ++ ps).length ≤ _; rw [List.length_append]; omega, by have := h.fl; show (p.f ++ [_]).length ≤ _; rw [List.length_append]; simp; omega, fun a ha => by
    rcases List.mem_append.1 ha with h1 | h1
    · exact h.ar a h1
    · rw [List.mem_singleton.1 h1]; exact ⟨hp, hr⟩,
   by
    show (List.map Fr.h (p.f ++ [_])).Pairwise _
    rw [List.map_append, List.pairwise_append]
    refine ⟨h.hi, by simp, fun a ha b hb => ?_⟩
    obtain ⟨c, hc, rfl⟩ := List.mem_map.1 ha
    simp only [List.map_cons, List.map_nil, List.mem_singleton] at hb
    subst hb
    exact h.lo c hc, fun a ha => by
    show a.h ≤ (p.s ++ ps).length
    rw [List.length_append]
    rcases List.mem_append.1 ha with h1 | h1
    · have := h.lo a h1; omega
    · rw [List.mem_singleton.1 h1]; show p.s.length ≤ _; omega⟩
theorem Inv.dead {n : Nat} {p : Pl} (h : Inv n p) (h0 : 0 < p.f.length) : Inv n (deadC p) := by
  obtain ⟨f, t, e, e2, h1, h2, h3⟩ := h.ends h0
  have hf : (deadC p).f = f ++ [{ t with dead := true }] := by
    unfold deadC
    simp only
    rw [e2, e]
    simp
  have hs : (deadC p).s = p.s.take t.h := by unfold deadC; simp only; rw [e2]
  have hm : ∀ a ∈ (deadC p).f, a.h ≤ t.h := fun a ha => by
    rw [hf] at ha
    rcases List.mem_append.1 ha with h4 | h4
    · exact h1 a h4
    · rw [List.mem_singleton.1 h4]; exact Nat.le_refl _
  refine ⟨by rw [hs, List.length_take]; have := h.sl; omega, by rw [hf]; have := h.fl; rw [e] at this; simp at this ⊢; omega, fun a ha => ?_, ?_, fun a ha => by rw [hs, List.length_take]; have := hm a ha; omega⟩
  · rw [hf] at ha
    rcases List.mem_append.1 ha with h4 | h4
    · exact h.ar a (by rw [e]; simp [h4])
    · rw [List.mem_singleton.1 h4]; exact h3
  · rw [hf]
    have := h.hi
    rw [e] at this
    simpa using this
theorem Inv.leave {n : Nat} {p p' : Pl} {q : List Int} (h : Inv n p) (h0 : 0 < p.f.length) (hl : leaveC p q = some p') : Inv n p' := by
  unfold leaveC at hl
  obtain ⟨p1, h1, rfl⟩ := Option.map_eq_some_iff.1 hl
  obtain ⟨h2, h3⟩ := h.take h0 h1
  exact h2.dead (by rw [h3]; exact h0)
theorem Inv.finish {n : Nat} {p p' : Pl} {fr : Fr} (h : Inv n p) (h0 : 0 < p.f.length) (hl : finishC p = some (fr, p')) : Inv n p' ∧ fr.ps.length ≤ 8 ∧ fr.rs.length ≤ 8 ∧ p'.f.length + 1 = p.f.length := by
  unfold finishC at hl
  obtain ⟨p1, h1, h2⟩ := Option.bind_eq_some_iff.1 hl
  obtain ⟨h3, h4⟩ := h.take h0 h1
  split at h2
  · rename_i h5
    simp only [Option.some.injEq, Prod.mk.injEq] at h2
    obtain ⟨rfl, rfl⟩ := h2
    obtain ⟨f, t, e, e2, h6, h7, h8⟩ := h.ends h0
    have ht : p.f.take (p.f.length - 1) = f := by rw [e]; simp
    rw [e2] at h5 ⊢
    refine ⟨⟨h3.sl, by show (p.f.take _).length ≤ _; rw [List.length_take]; have := h.fl; omega, fun a ha => h.ar a (List.mem_of_mem_take ha), ?_, fun a ha => ?_⟩, h8.1, h8.2, by show (p.f.take _).length + 1 = _; rw [List.length_take]; omega⟩
    · have := h.hi
      show (List.map Fr.h (p.f.take _)).Pairwise _
      rw [ht]
      rw [e, List.map_append, List.pairwise_append] at this
      exact this.1
    · have ha' : a ∈ p.f.take (p.f.length - 1) := ha
      rw [ht] at ha'
      show a.h ≤ p1.s.length
      have h9 := h6 a ha'
      have h10 : t.h ≤ p1.s.length := h3.lo t (by rw [h4, e]; simp)
      omega
  · cases h2
theorem Inv.pop {n : Nat} {p : Pl} {q : Int × Pl} (h : Inv n p) (h0 : 0 < p.f.length) (hl : popC p = some q) : Inv n q.2 ∧ q.2.f = p.f := by
  unfold popC at hl
  split at hl
  · split at hl
    · simp only [Option.some.injEq] at hl
      subst hl
      exact ⟨h, rfl⟩
    · cases hl
  · simp only [Option.some.injEq] at hl
    subst hl
    exact ⟨h.cut h0 _ (by omega), rfl⟩
theorem labelC_len {n : Nat} {p : Pl} (h : Inv n p) (k : Nat) : (labelC p k).length ≤ 8 := by
  unfold labelC
  by_cases hk : p.f.length - 1 - k < p.f.length
  · have hm : p.f.getD (p.f.length - 1 - k) fr0 ∈ p.f := getD_mem' _ _ _ hk
    split
    · exact (h.ar _ hm).1
    · exact (h.ar _ hm).2
  · have h1 : p.f.length ≤ p.f.length - 1 - k := by omega
    have h0 : p.f.getD (p.f.length - 1 - k) fr0 = fr0 := by rw [List.getD_eq_getElem?_getD, List.getElem?_eq_none h1]; rfl
    rw [h0]
    exact Nat.zero_le _
structure EnvOk (e : Env) : Prop where
  ro : e.ro.length ≤ 8
  ty : ∀ t ∈ e.m.types, t.1.length ≤ 8 ∧ t.2.length ≤ 8
theorem EnvOk.sig {e : Env} (h : EnvOk e) (k : Int) : ((fsigB e.m k).getD ([], [])).1.length ≤ 8 ∧ ((fsigB e.m k).getD ([], [])).2.length ≤ 8 := by
  cases hs : fsigB e.m k with
  | none => exact ⟨Nat.zero_le _, Nat.zero_le _⟩
  | some t => exact h.ty t (fsigB_mem hs)
theorem EnvOk.block {e : Env} (h : EnvOk e) (k : Int) : ((blockB e.m k).getD ([], [])).1.length ≤ 8 ∧ ((blockB e.m k).getD ([], [])).2.length ≤ 8 := by
  unfold blockB
  split
  · exact ⟨by simp, by simp⟩
  split
  · exact ⟨by simp, by simp⟩
  split
  · exact ⟨by simp, by simp⟩
  split
  · exact ⟨by simp, by simp⟩
  cases hs : typeB e.m k with
  | none => exact ⟨Nat.zero_le _, Nat.zero_le _⟩
  | some t => exact h.ty t (typeB_mem hs)
theorem EnvOk.eff {e : Env} (h : EnvOk e) {n : Nat} {p : Pl} (hp : Inv n p) (x : Ins) : (effectC e p x).1.length ≤ 9 ∧ (effectC e p x).2.length ≤ 8 := by
  have hl := labelC_len hp x.a.toNat
  have hs := h.sig x.a
  have hf := fixedC_len x.op
  unfold effectC
  split
  · exact ⟨by rw [List.length_append]; simp; omega, hl⟩
  split
  · exact ⟨by omega, by omega⟩
  split
  · exact ⟨by simp, by simp⟩
  split
  · exact ⟨by simp, by simp⟩
  split
  · exact ⟨by simp, by simp⟩
  split
  · exact ⟨by simp, by simp⟩
  split
  · exact ⟨by simp, by simp⟩
  split
  · exact ⟨by simp, by simp⟩
  split
  · exact ⟨by simp, by simp⟩
  exact ⟨by omega, by omega⟩
theorem Inv.follow {e : Env} {n : Nat} {p q : Pl} {x : Ins} (he : EnvOk e) (h : Inv n p) (h0 : 0 < p.f.length) (hf : followC e p x = some q) : Inv (n + 1) q := by
  unfold followC at hf
  by_cases c0 : x.op = 2 ∨ x.op = 3 ∨ x.op = 4
  · rw [if_pos c0] at hf
    unfold openC at hf
    obtain ⟨p1, h1, h2⟩ := Option.bind_eq_some_iff.1 hf
    obtain ⟨p2, h3, rfl⟩ := Option.map_eq_some_iff.1 h2
    have h4 : Inv n p1 ∧ p1.f = p.f := by
      split at h1
      · exact h.take h0 h1
      · simp only [Option.some.injEq] at h1; subst h1; exact ⟨h, rfl⟩
    have h5 := h4.1.take (by rw [h4.2]; exact h0) h3
    exact h5.1.begin (he.block _).1 (he.block _).2
  rw [if_neg c0] at hf
  by_cases c1 : x.op = 5
  · rw [if_pos c1] at hf
    unfold divideC at hf
    obtain ⟨⟨fr, p1⟩, h1, rfl⟩ := Option.map_eq_some_iff.1 hf
    obtain ⟨h2, h3, h4, _⟩ := h.finish h0 h1
    exact h2.begin h3 h4
  rw [if_neg c1] at hf
  by_cases c2 : x.op = 11
  · rw [if_pos c2] at hf
    unfold closeC at hf
    obtain ⟨⟨fr, p1⟩, h1, h2⟩ := Option.bind_eq_some_iff.1 hf
    obtain ⟨h3, h4, h5, _⟩ := h.finish h0 h1
    split at h2
    · cases h2
    · simp only [Option.some.injEq] at h2; subst h2; exact h3.give h5
  rw [if_neg c2] at hf
  by_cases c3 : x.op = 0
  · rw [if_pos c3] at hf
    exact (h.leave h0 hf).up
  rw [if_neg c3] at hf
  by_cases c4 : x.op = 12
  · rw [if_pos c4] at hf
    exact (h.leave h0 hf).up
  rw [if_neg c4] at hf
  by_cases c5 : x.op = 14
  · rw [if_pos c5] at hf
    unfold branchC at hf
    obtain ⟨p1, h1, h2⟩ := Option.bind_eq_some_iff.1 hf
    obtain ⟨h3, h4⟩ := h.take h0 h1
    split at h2
    · exact (h3.leave (by rw [h4]; exact h0) h2).up
    · cases h2
  rw [if_neg c5] at hf
  by_cases c6 : x.op = 15
  · rw [if_pos c6] at hf
    exact (h.leave h0 hf).up
  rw [if_neg c6] at hf
  by_cases c7 : x.op = 18
  · rw [if_pos c7] at hf
    split at hf
    · exact (h.leave h0 hf).up
    · cases hf
  rw [if_neg c7] at hf
  by_cases c8 : x.op = 26
  · rw [if_pos c8] at hf
    obtain ⟨p1, h1, rfl⟩ := Option.map_eq_some_iff.1 hf
    exact (h.pop h0 h1).1.up
  rw [if_neg c8] at hf
  by_cases c9 : x.op = 27
  · rw [if_pos c9] at hf
    unfold chooseC at hf
    obtain ⟨p1, h1, h2⟩ := Option.bind_eq_some_iff.1 hf
    obtain ⟨u, h3, h4⟩ := Option.bind_eq_some_iff.1 h2
    obtain ⟨l, h5, h6⟩ := Option.bind_eq_some_iff.1 h4
    obtain ⟨a1, a2⟩ := h.take h0 h1
    obtain ⟨b1, b2⟩ := a1.pop (by rw [a2]; exact h0) h3
    obtain ⟨c1, c2⟩ := b1.pop (by rw [b2, a2]; exact h0) h5
    split at h6
    · simp only [Option.some.injEq] at h6; subst h6; exact c1.give (by simp)
    · cases h6
  rw [if_neg c9] at hf
  by_cases c10 : x.op = 36
  · rw [if_pos c10] at hf
    split at hf
    · exact (h.take h0 hf).1.up
    · cases hf
  rw [if_neg c10] at hf
  obtain ⟨p1, h1, rfl⟩ := Option.map_eq_some_iff.1 hf
  exact (h.take h0 h1).1.give (he.eff h x).2
theorem inPlaceC_pos {p : Pl} {op : Int} (h : inPlaceC p op = true) : 0 < p.f.length := by
  unfold inPlaceC at h
  split at h
  · cases h
  · omega
theorem Inv.step {e : Env} {n : Nat} {p : Pl} {x : Ins} (he : EnvOk e) (h : Inv n p) (hs : (stepC e p x).1 = 0) : Inv (n + 1) (stepC e p x).2 := by
  unfold stepC at hs ⊢
  split at hs
  · cases hs
  rename_i h1
  rw [if_neg h1]
  split at hs
  · cases hs
  rename_i h2
  rw [if_neg h2]
  split at hs
  · cases hs
  rename_i h3
  rw [if_neg h3]
  have h0 : 0 < p.f.length := inPlaceC_pos (op := x.op) (by cases hi : inPlaceC p x.op with | true => rfl | false => exact absurd hi h1)
  cases hf : followC e p x with
  | none => rw [hf] at hs; cases hs
  | some q => exact h.follow he h0 hf
theorem Inv.first (op : Int) (ro : List Int) (hr : ro.length ≤ 8) : Inv 0 (beginC ⟨[], []⟩ op [] ro) :=
  ⟨Nat.le_refl _, Nat.le_refl _, fun a ha => by
    have ha : a ∈ [(⟨op, [], ro, 0, false⟩ : Fr)] := ha
    rw [List.mem_singleton.1 ha]; exact ⟨Nat.zero_le _, hr⟩, by simp [beginC], fun a ha => by
    have ha : a ∈ [(⟨op, [], ro, 0, false⟩ : Fr)] := ha
    rw [List.mem_singleton.1 ha]; exact Nat.le_refl _⟩
end
end Go.Proofs.YteohmkceapblkaaDoor
