/-
  A host in memory: its box, its answers, its calls; how a call leaves it.
-/
import Derived.Test.YtlgfappnlnhddaaHb
namespace Go.Proofs.Ytlgfappnlnhddaa
open Go.RowKit
variable {w w' : World}

/-- An answer, a call as plain data: so many words, the word at each place. -/
structure Ans where
  n : Nat
  f : Nat → Nat
  trap : Bool
structure Cal where
  idx : Int
  n : Nat
  f : Nat → Nat
/-- Answers that the slice v holds. -/
def AnsF (K : Nat → Prop) (w : World) (v : Value) (N : Nat) (L : Nat → Ans) : Prop :=
  ∃ A c, v = .slice A N c ∧ N ≤ c ∧ N * 32 ≤ 140737488355328 ∧ (0 < N → ∃ g o : Nat, A = some ⟨g, o, none⟩ ∧ K g ∧ ∀ j, j < N → (∃ u, w.cell? ⟨g, o + j * 2, none⟩ = some u ∧ WordsF K w u (L j).n (L j).f) ∧ w.cell? ⟨g, o + j * 2 + 1, none⟩ = some (.bool (L j).trap))
theorem AnsF.keep {K K' : Nat → Prop} {v : Value} {N : Nat} {L : Nat → Ans} (h : AnsF K w v N L) (hk : Keeps K w w') (hm : ∀ k, K k → K' k) : AnsF K' w' v N L := by
  obtain ⟨A, c, rfl, h1, h2, h3⟩ := h
  refine ⟨A, c, rfl, h1, h2, fun h0 => ?_⟩
  obtain ⟨g, o, rfl, hg, h4⟩ := h3 h0
  refine ⟨g, o, rfl, hm g hg, fun j hj => ?_⟩
  obtain ⟨⟨u, h5, h6⟩, h7⟩ := h4 j hj
  exact ⟨⟨u, (hk.cell (p := ⟨g, o + j * 2, none⟩) hg).trans h5, h6.keep hk hm⟩, (hk.cell (p := ⟨g, o + j * 2 + 1, none⟩) hg).trans h7⟩
/-- Calls in a row of values. -/
def CalsIn (K : Nat → Prop) (w : World) (xs : List Value) (k : Nat) (C : Nat → Cal) : Prop :=
  xs.length = k * 2 ∧ ∀ j, j < k → xs[j * 2]? = some (.int .i64 (C j).idx) ∧ ∃ u, xs[j * 2 + 1]? = some u ∧ WordsF K w u (C j).n (C j).f
theorem CalsIn.keep {K K' : Nat → Prop} {xs : List Value} {k : Nat} {C : Nat → Cal} (h : CalsIn K w xs k C) (hk : Keeps K w w') (hm : ∀ k, K k → K' k) : CalsIn K' w' xs k C :=
  ⟨h.1, fun j hj => by
    obtain ⟨h1, u, h2, h3⟩ := h.2 j hj
    exact ⟨h1, u, h2, h3.keep hk hm⟩⟩
/-- A host: where its box lies, where its answers, the slices in the box; what it holds. -/
structure Ho where
  p : Nat
  B : Nat
  lv : Value
  cv : Value
  N : Nat
  L : Nat → Ans
  k : Nat
  C : Nat → Cal
/-- The blocks that it writes. -/
def Ho.priv (h : Ho) (b : Nat) : Prop := b = h.p ∨ b = h.B ∨ h.cv.ownBlock = some b
structure HostAt (D : Nat → Prop) (h : Ho) (w : World) : Prop where
  box : w.heap[h.p]? = some (.cells #[h.lv, h.cv] 47 (0, 0))
  ne : h.B ≠ h.p
  nc : ∀ b, h.cv.ownBlock = some b → b ≠ h.p ∧ b ≠ h.B
  nd : ∀ b, D b → ¬ h.priv b
  lt : ∀ b, h.priv b ∨ D b → b < w.heap.size
  left : ∃ A c, h.lv = .slice A h.N c ∧ h.N ≤ c ∧ ∃ cs, w.heap[h.B]? = some (.cells cs 26 (0, 0)) ∧ (0 < h.N → ∃ o : Nat, A = some ⟨h.B, o, none⟩ ∧ ∀ j, j < h.N → (∃ u, cs[o + j * 2]? = some u ∧ WordsF D w u (h.L j).n (h.L j).f) ∧ cs[o + j * 2 + 1]? = some (.bool (h.L j).trap))
  calls : ∃ xs, w.ownsRow 0 44 2 h.cv h.k xs ∧ CalsIn D w xs h.k h.C
/-- All that was there but what a host writes is as it was. -/
def Ho.kept (h : Ho) (w : World) (b : Nat) : Prop := b < w.heap.size ∧ ¬ h.priv b
theorem HostAt.keep {D : Nat → Prop} {h : Ho} {K : Nat → Prop} (hh : HostAt D h w) (hk : Keeps K w w') (hm : ∀ b, h.priv b ∨ D b → K b) : HostAt D h w' := by
  obtain ⟨A, c, h1, h2, cs, h3, h4⟩ := hh.left
  obtain ⟨xs, h5, h6⟩ := hh.calls
  have hD : Keeps D w w' := hk.mono fun b hb => hm b (.inr hb)
  refine ⟨(hk.block _ (hm _ (.inl (.inl rfl)))).trans hh.box, hh.ne, hh.nc, hh.nd, fun b hb => Nat.lt_of_lt_of_le (hh.lt b hb) hk.size, ⟨A, c, h1, h2, cs, (hk.block _ (hm _ (.inl (.inr (.inl rfl))))).trans h3, fun h0 => ?_⟩, ⟨xs, owns_keep h5 hk fun b hb => hm b (.inl (.inr (.inr hb))), h6.keep hD fun _ h => h⟩⟩
  obtain ⟨o, rfl, h7⟩ := h4 h0
  refine ⟨o, rfl, fun j hj => ?_⟩
  obtain ⟨⟨u, h8, h9⟩, h10⟩ := h7 j hj
  exact ⟨⟨u, h8, h9.keep hD fun _ h => h⟩, h10⟩
theorem HostAt.below {D : Nat → Prop} {h : Ho} (hh : HostAt D h w) (hb : Below w.heap.size w w') : HostAt D h w' := hh.keep (K := fun b => b < w.heap.size) (.below hb fun _ h => h) hh.lt
theorem HostAt.c0 {D : Nat → Prop} {h : Ho} (hh : HostAt D h w) : w.cell? ⟨h.p, 0, none⟩ = some h.lv := by rw [cell_of_row w h.p 0 _ _ _ hh.box]; rfl
theorem HostAt.c1 {D : Nat → Prop} {h : Ho} (hh : HostAt D h w) : w.cell? ⟨h.p, 1, none⟩ = some h.cv := by rw [cell_of_row w h.p 1 _ _ _ hh.box]; rfl
theorem HostAt.frozen {D : Nat → Prop} {h : Ho} (hh : HostAt D h w) (j : Nat) : w.frozen? ⟨h.p, j, none⟩ = false := frozen_of_row w h.p j _ _ hh.box
theorem HostAt.lform {D : Nat → Prop} {h : Ho} (hh : HostAt D h w) : ∃ A c, h.lv = .slice A h.N c ∧ h.N ≤ c := by
  obtain ⟨A, c, h1, h2, _⟩ := hh.left
  exact ⟨A, c, h1, h2⟩
theorem HostAt.cform {D : Nat → Prop} {h : Ho} (hh : HostAt D h w) : ∃ A c, h.cv = .slice A h.k c := by
  obtain ⟨xs, h1, _⟩ := hh.calls
  exact owns_slice h1

/-! ### Left -/
theorem left_any {D : Nat → Prop} {h : Ho} (hh : HostAt D h w) : Calls Try.prog 10 #[.pointer (some ⟨h.p, 0, none⟩)] w fun e w' => e = .returned (.int .i64 (h.N : Int)) ∧ w = w' := by
  obtain ⟨A, c, hl, hc⟩ := hh.lform
  have c0 := hh.c0
  rw [hl] at c0
  obtain ⟨p, hp⟩ : ∃ p, h.p = p := ⟨_, rfl⟩
  rw [hp] at c0 ⊢
  clear hl hp hh
  go_enter Try.func10, Try.ntmps10
  go_wp2
  go_ret
  exact ⟨rfl, rfl⟩

/-! ### take -/
/-- The first answer is taken, or none. -/
def Ho.next (h : Ho) : Ho := { h with N := h.N - 1, L := fun j => h.L (j + 1) }
def noAns : Ans := ⟨0, fun _ => 0, false⟩
def Ho.first (h : Ho) : Ans := if 0 < h.N then h.L 0 else noAns
/-- What take leaves. -/
theorem HostAt.took {D : Nat → Prop} {h : Ho} {o c : Nat} (hh : HostAt D h w) (hl : h.lv = .slice (some ⟨h.B, o, none⟩) h.N c) (h0 : 0 < h.N) (lv : Value) (A : Option Addr) (hlv : lv = .slice A (h.N - 1) (c - 1)) (hA : 1 < h.N → A = some ⟨h.B, o + 2, none⟩) (z0 z1 : Value) :
    HostAt D { h.next with lv := lv } (((w.setCell ⟨h.B, o, none⟩ z0).setCell ⟨h.B, o + 1, none⟩ z1).setCell ⟨h.p, 0, none⟩ lv) ∧ Keeps (h.kept w) w (((w.setCell ⟨h.B, o, none⟩ z0).setCell ⟨h.B, o + 1, none⟩ z1).setCell ⟨h.p, 0, none⟩ lv) := by
  have hk : Keeps (h.kept w) w (((w.setCell ⟨h.B, o, none⟩ z0).setCell ⟨h.B, o + 1, none⟩ z1).setCell ⟨h.p, 0, none⟩ lv) :=
    ((Keeps.setCell w (p := ⟨h.B, o, none⟩) (fun hb => hb.2 (.inr (.inl rfl))) z0).trans (Keeps.setCell _ (p := ⟨h.B, o + 1, none⟩) (fun hb => hb.2 (.inr (.inl rfl))) z1)).trans (Keeps.setCell _ (p := ⟨h.p, 0, none⟩) (fun hb => hb.2 (.inl rfl)) lv)
  obtain ⟨A', c', h1, h2, cs, h3, h4⟩ := hh.left
  rw [hl] at h1
  simp only [Value.slice.injEq, true_and] at h1
  obtain ⟨rfl, rfl⟩ := h1
  obtain ⟨o', he, h5⟩ := h4 h0
  simp only [Option.some.injEq, Addr.mk.injEq, true_and, and_true] at he
  subst he
  obtain ⟨xs, h6, h7⟩ := hh.calls
  have hD : Keeps D w (((w.setCell ⟨h.B, o, none⟩ z0).setCell ⟨h.B, o + 1, none⟩ z1).setCell ⟨h.p, 0, none⟩ lv) := hk.mono fun b hb => ⟨hh.lt b (.inr hb), hh.nd b hb⟩
  have hB1 := heap_setCell_same w h.B o _ _ z0 h3
  have hB2 := heap_setCell_same _ h.B (o + 1) _ _ z1 hB1
  have hp1 : ((w.setCell ⟨h.B, o, none⟩ z0).setCell ⟨h.B, o + 1, none⟩ z1).heap[h.p]? = some (.cells #[h.lv, h.cv] 47 (0, 0)) := by
    rw [heap_setCell_other _ _ _ _ (show h.p ≠ h.B from fun e => hh.ne e.symm), heap_setCell_other _ _ _ _ (show h.p ≠ h.B from fun e => hh.ne e.symm)]
    exact hh.box
  refine ⟨⟨?_, hh.ne, hh.nc, hh.nd, fun b hb => Nat.lt_of_lt_of_le (hh.lt b hb) hk.size, ⟨A, c - 1, hlv, by show h.N - 1 ≤ _; omega, _, (heap_setCell_other _ ⟨h.p, 0, none⟩ h.B lv hh.ne).trans hB2, fun h9 => ?_⟩, ⟨xs, ?_, h7.keep hD fun _ h => h⟩⟩, hk⟩
  · exact heap_setCell_same _ h.p 0 _ _ lv hp1
  · have h9' : 0 < h.N - 1 := h9
    refine ⟨o + 2, hA (by omega), fun j hj => ?_⟩
    have hj' : j < h.N - 1 := hj
    obtain ⟨⟨u, k1, k2⟩, k3⟩ := h5 (j + 1) (by omega)
    have e : ∀ i, o + 1 < i → ((cs.setIfInBounds o z0).setIfInBounds (o + 1) z1)[i]? = cs[i]? := fun i hi => by
      rw [Array.getElem?_setIfInBounds_ne (by omega), Array.getElem?_setIfInBounds_ne (by omega)]
    refine ⟨⟨u, ?_, k2.keep hD fun _ h => h⟩, ?_⟩
    · rw [e _ (by omega), ← k1]; congr 1; omega
    · rw [e _ (by omega), show (h.next.L j).trap = (h.L (j + 1)).trap from rfl, ← k3]; congr 1; omega
  · refine owns_keep (K := fun b => b ≠ h.p ∧ b ≠ h.B) h6 ?_ fun b hb => hh.nc b hb
    exact ((Keeps.setCell w (p := ⟨h.B, o, none⟩) (fun hb => hb.2 rfl) z0).trans (Keeps.setCell _ (p := ⟨h.B, o + 1, none⟩) (fun hb => hb.2 rfl) z1)).trans (Keeps.setCell _ (p := ⟨h.p, 0, none⟩) (fun hb => hb.1 rfl) lv)
def TookPost (D : Nat → Prop) (h : Ho) (w : World) (e : Ending) (w' : World) : Prop :=
  ∃ (u lv : Value), e = .returned (.agg #[u, .bool h.first.trap]) ∧ WordsF D w' u h.first.n h.first.f ∧ HostAt D { h.next with lv := lv } w' ∧ Keeps (h.kept w) w w'
theorem took_none {D : Nat → Prop} {h : Ho} (hh : HostAt D h w) (h0 : h.N = 0) : Calls Try.prog 13 #[.pointer (some ⟨h.p, 0, none⟩)] w (TookPost D h w) := by
  obtain ⟨A, c, hl, hc⟩ := hh.lform
  have c0 := hh.c0
  have HH := Lib.hid hh
  rw [hl, h0] at c0
  obtain ⟨p, hp⟩ : ∃ p, h.p = p := ⟨_, rfl⟩
  rw [hp] at c0 ⊢
  have hlt := World.block_lt_of_cell? w _ c0
  have HL := Lib.hid hl
  have H0 := Lib.hid h0
  clear hl hp hh h0 hc
  go_enter Try.func13, Try.ntmps13
  go_wp2
  have hb : Below w.heap.size w (w.alloc (.cells #[.slice none 0 0, .bool false] 26)) := (Below.refl _ _).alloc (Nat.le_refl _) _
  refine bodyPost_ret (v := .agg #[.slice none 0 0, .bool false]) (by simp [results, Try.results13, go_sem]) rfl ⟨.slice none 0 0, h.lv, ?_, ?_, ?_, ?_⟩
  · unfold Ho.first; rw [if_neg (by rw [H0.out]; omega)]; rfl
  · unfold Ho.first; rw [if_neg (by rw [H0.out]; omega)]; exact WordsF.nil _ _ _
  · have hk := HH.out.below hb
    obtain ⟨A', c', h1, h2, cs, h3, h4⟩ := hk.left
    exact ⟨hk.box, hk.ne, hk.nc, hk.nd, hk.lt, ⟨A', c', by rw [h1, H0.out]; simp [Ho.next, H0.out], by simp [Ho.next, H0.out], cs, h3, fun h9 => absurd h9 (by simp [Ho.next, H0.out])⟩, hk.calls⟩
  · exact .below hb fun b hb => hb.1
theorem took_some {D : Nat → Prop} {h : Ho} (hh : HostAt D h w) (h0 : 0 < h.N) : Calls Try.prog 13 #[.pointer (some ⟨h.p, 0, none⟩)] w (TookPost D h w) := by
  obtain ⟨A, c, hl, hc, cs, hB, hleft⟩ := hh.left
  obtain ⟨o, rfl, hat⟩ := hleft h0
  obtain ⟨⟨u, hu, hW⟩, ht⟩ := hat 0 h0
  obtain ⟨Au, cu, rfl⟩ := hW.form
  simp only [Nat.zero_mul, Nat.add_zero] at hu ht
  have c0 := hh.c0
  rw [hl] at c0
  have b0 : w.cell? ⟨h.B, o, none⟩ = some (.slice Au (h.L 0).n cu) := by rw [cell_of_row w h.B o _ _ _ hB]; exact hu
  have b1 : w.cell? ⟨h.B, o + 1, none⟩ = some (.bool (h.L 0).trap) := by rw [cell_of_row w h.B (o + 1) _ _ _ hB]; exact ht
  have fb : ∀ j, w.frozen? ⟨h.B, j, none⟩ = false := fun j => frozen_of_row w h.B j _ _ hB
  have fp := hh.frozen 0
  have hpl := World.block_lt_of_cell? w _ c0
  have hbl := World.block_lt_of_cell? w _ b0
  have hne := hh.ne
  have HH := Lib.hid hh
  have HCS := Lib.hid hB
  have HAT := Lib.hid hat
  have HL := Lib.hid hl
  obtain ⟨p, hp⟩ : ∃ p, h.p = p := ⟨_, rfl⟩
  obtain ⟨B, hB2⟩ : ∃ B, h.B = B := ⟨_, rfl⟩
  obtain ⟨N, hN⟩ : ∃ N, h.N = N := ⟨_, rfl⟩
  obtain ⟨m, hm⟩ : ∃ m, (h.L 0).n = m := ⟨_, rfl⟩
  obtain ⟨tr, htr⟩ : ∃ tr, (h.L 0).trap = tr := ⟨_, rfl⟩
  rw [hp, hB2, hN] at c0
  rw [hB2, hm] at b0
  rw [hB2, htr] at b1
  rw [hB2] at fb hbl hne
  rw [hp] at fp hpl hne ⊢
  rw [hN] at hc h0
  have HP := Lib.hid hp
  have HBB := Lib.hid hB2
  have HN := Lib.hid hN
  have HM := Lib.hid hm
  have HTR := Lib.hid htr
  have f0 := fb o
  have f1 := fb (o + 1)
  clear hl hp hB2 hN hm htr hh hB hleft hat hu ht fb
  have hfin : ∀ (A : Option Addr), (1 < N → A = some ⟨B, o + 2, none⟩) → TookPost D h w (.returned (.agg #[.slice Au m cu, .bool tr])) (((((w.setCell ⟨B, o, none⟩ (.slice none 0 0)).setCell ⟨B, o + 1, none⟩ (.bool false)).setCell ⟨p, 0, none⟩ (.slice A (N - 1) (c - 1))).alloc (.cells #[.slice Au m cu, .bool tr] 26)).alloc (.cells #[.slice Au m cu, .bool tr] 26)) := by
    intro A hA
    have e1 := HP.out
    have e2 := HBB.out
    have e3 := HN.out
    subst e1 e2 e3
    have hW' := hW
    rw [show (Value.slice Au (h.L 0).n cu) = .slice Au m cu by rw [HM.out]] at hW'
    obtain ⟨h1, h2⟩ := HH.out.took HL.out h0 (.slice A (h.N - 1) (c - 1)) A rfl hA (.slice none 0 0) (.bool false)
    have hb : Below (((w.setCell ⟨h.B, o, none⟩ (.slice none 0 0)).setCell ⟨h.B, o + 1, none⟩ (.bool false)).setCell ⟨h.p, 0, none⟩ (.slice A (h.N - 1) (c - 1))).heap.size (((w.setCell ⟨h.B, o, none⟩ (.slice none 0 0)).setCell ⟨h.B, o + 1, none⟩ (.bool false)).setCell ⟨h.p, 0, none⟩ (.slice A (h.N - 1) (c - 1))) (((((w.setCell ⟨h.B, o, none⟩ (.slice none 0 0)).setCell ⟨h.B, o + 1, none⟩ (.bool false)).setCell ⟨h.p, 0, none⟩ (.slice A (h.N - 1) (c - 1))).alloc (.cells #[.slice Au m cu, .bool tr] 26)).alloc (.cells #[.slice Au m cu, .bool tr] 26)) :=
      ((Below.refl _ _).alloc (Nat.le_refl _) _).alloc (by simp) _
    have hkk : Keeps (h.kept w) w (((((w.setCell ⟨h.B, o, none⟩ (.slice none 0 0)).setCell ⟨h.B, o + 1, none⟩ (.bool false)).setCell ⟨h.p, 0, none⟩ (.slice A (h.N - 1) (c - 1))).alloc (.cells #[.slice Au m cu, .bool tr] 26)).alloc (.cells #[.slice Au m cu, .bool tr] 26)) := h2.trans (.below hb fun b hb => Nat.lt_of_lt_of_le hb.1 h2.size)
    refine ⟨.slice Au m cu, .slice A (h.N - 1) (c - 1), ?_, ?_, h1.below hb, hkk⟩
    · unfold Ho.first; rw [if_pos h0, HTR.out]
    · unfold Ho.first; rw [if_pos h0]
      exact hW'.keep (hkk.mono fun b hb => ⟨HH.out.lt b (.inr hb), HH.out.nd b hb⟩) fun _ h => h
  have HFIN := Lib.hid hfin
  clear hfin hW
  go_enter Try.func13, Try.ntmps13
  go_wp2
  all_goals refine bodyPost_ret (v := .agg #[.slice Au m cu, .bool tr]) (by simp [results, Try.results13, go_sem]) rfl ?_
  · rename_i h
    have h9 := HFIN.out (some ⟨B, o, none⟩) (fun h => by omega)
    rw [show c - 1 = 0 by omega] at h9
    exact h9
  · exact HFIN.out _ (fun _ => rfl)
theorem take_any {D : Nat → Prop} {h : Ho} (hh : HostAt D h w) : Calls Try.prog 13 #[.pointer (some ⟨h.p, 0, none⟩)] w (TookPost D h w) := by
  rcases Nat.eq_zero_or_pos h.N with h0 | h0
  · exact took_none hh h0
  · exact took_some hh h0
end Go.Proofs.Ytlgfappnlnhddaa
