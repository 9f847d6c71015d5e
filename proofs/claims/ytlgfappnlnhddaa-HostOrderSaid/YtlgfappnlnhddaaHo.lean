/-
  HostOrder: its walk.
-/
import Derived.Test.YtlgfappnlnhddaaHg
import Derived.Deep.CutRange
import Derived.Deep.CutBlock
namespace Go.Proofs.Ytlgfappnlnhddaa
open Go.RowKit
variable {w w' : World}

theorem AnsF.take {K : Nat → Prop} {A : Option Addr} {N c m : Nat} {L : Nat → Ans} (h : AnsF K w (.slice A N c) N L) (hm : m ≤ N) : AnsF K w (.slice A m c) m L := by
  obtain ⟨A', c', he, h1, h2, h3⟩ := h
  simp only [Value.slice.injEq, true_and] at he
  obtain ⟨rfl, rfl⟩ := he
  refine ⟨_, _, rfl, by omega, by omega, fun h0 => ?_⟩
  obtain ⟨g, o, rfl, hg, h4⟩ := h3 (by omega)
  exact ⟨g, o, rfl, hg, fun j hj => h4 j (by omega)⟩
/-- Two hosts of the same answers, i and j calls on. -/
structure Two (w0 : World) (X Y N : Nat) (L : Nat → Ans) (p q i j : Nat) (g : Ho) (D : Nat → Prop) (h : Ho) (E : Nat → Prop) (w : World) : Prop where
  a : HostAt D g w
  b : HostAt E h w
  pa : g.p = p
  pb : h.p = q
  na : g.N = N - i
  nb : h.N = N - j
  la : g.L = fun k => L (i + k)
  lb : h.L = fun k => L (j + k)
  ka : g.k = i
  kb : h.k = j
  ab : ∀ b, D b ∨ g.priv b → ¬ h.priv b
  ba : ∀ b, E b ∨ h.priv b → ¬ g.priv b
  ga : ∀ b, g.priv b → w0.heap.size ≤ b ∧ b ≠ X ∧ b ≠ Y
  gb : ∀ b, h.priv b → w0.heap.size ≤ b ∧ b ≠ X ∧ b ≠ Y
  acc : Below w0.heap.size w0 w
  bx : w.heap[X]? = some (.cells #[.slice none 0 0, .slice (some ⟨Y, 0, none⟩) 1 1] 36 (0, 0))
  by_ : w.heap[Y]? = some (.cells #[.int .i64 126] 3 (0, 0))
section
variable {w0 : World} {p q X Y N : Nat} {L : Nat → Ans} {i j : Nat} {g : Ho} {D : Nat → Prop} {h : Ho} {E : Nat → Prop}
theorem Two.symm (t : Two w0 X Y N L p q i j g D h E w) : Two w0 X Y N L q p j i h E g D w :=
  ⟨t.b, t.a, t.pb, t.pa, t.nb, t.na, t.lb, t.la, t.kb, t.ka, t.ba, t.ab, t.gb, t.ga, t.acc, t.bx, t.by_⟩
theorem Two.below (t : Two w0 X Y N L p q i j g D h E w) (hb : Below w.heap.size w w') : Two w0 X Y N L p q i j g D h E w' :=
  ⟨t.a.below hb, t.b.below hb, t.pa, t.pb, t.na, t.nb, t.la, t.lb, t.ka, t.kb, t.ab, t.ba, t.ga, t.gb, t.acc.trans (hb.mono t.acc.size),
    (hb.block X (Array.getElem?_eq_some_iff.1 t.bx).1).trans t.bx, (hb.block Y (Array.getElem?_eq_some_iff.1 t.by_).1).trans t.by_⟩
/-- The answer that comes next. -/
def nxt (N : Nat) (L : Nat → Ans) (i : Nat) : Ans := if i < N then L i else noAns
def word0 (f : Ans) : Nat := if 0 < f.n then f.f 0 else 0
def many (f : Ans) : Nat := if f.trap = true then 0 else 1
theorem Two.first (t : Two w0 X Y N L p q i j g D h E w) : g.first = nxt N L i := by
  unfold Ho.first nxt
  rw [t.na, t.la]
  by_cases hi : i < N
  · rw [if_pos (by omega), if_pos hi]; rfl
  · rw [if_neg (by omega), if_neg hi]
/-- What a call of the first one gives. -/
def TwoPost (w0 : World) (X Y N : Nat) (L : Nat → Ans) (p q i j : Nat) (g0 : Ho) (h : Ho) (E : Nat → Prop) (w : World) (e : Ending) (w' : World) : Prop :=
  ∃ (va : Value) (g : Ho) (D : Nat → Prop), e = .returned (.tuple #[va, .bool (!(nxt N L i).trap)]) ∧ WordsF (fun b => b < w'.heap.size ∧ ¬ h.priv b) w' va (many (nxt N L i)) (fun _ => word0 (nxt N L i)) ∧ Two w0 X Y N L p q (i + 1) j g D h E w' ∧ ∀ (v : Value) (n : Nat) (f : Nat → Nat), WordsF (fun b => b < w.heap.size ∧ ¬ g0.priv b) w v n f → WordsF (fun b => b < w'.heap.size) w' v n f
theorem two_ask (t : Two w0 X Y N L p q i j g D h E w) (hi : i ≤ 40) :
    Calls Try.prog 8 #[.pointer (some ⟨p, 0, none⟩), .int .i64 (i : Int), .slice none 0 0, .agg #[.slice none 0 0, .slice (some ⟨Y, 0, none⟩) 1 1]] w (TwoPost w0 X Y N L p q i j g h E w) := by
  have hyl := (Array.getElem?_eq_some_iff.1 t.by_).1
  have hxl := (Array.getElem?_eq_some_iff.1 t.bx).1
  have f1 := t.first
  have hy : IntsK (fun b => b = Y) w (.slice (some ⟨Y, 0, none⟩) 1 1) [126] := ints_block (ts := [126]) t.by_ rfl rfl (by decide)
  have hA := (ask_any (K := fun _ => False) (K' := fun b => b = Y) (i : Int) t.a (WordsF.nil _ _ (fun _ => 0)) (fun b hb => hb.elim) ⟨none, 0, 0, rfl⟩ hy (fun b hb => by subst hb; exact ⟨hyl, fun hp => (t.ga _ hp).2.2 rfl⟩) (by decide) (by rw [t.ka]; omega)).mono fun _ _ h => h.two
  rw [t.pa] at hA
  refine hA.mono ?_
  rintro e w1 ⟨va, g1, D1, rfl, hva, hg1, e1, e2, e3, e4, -, e5, e6, e7⟩
  have hgv : g.gives [126] = many (nxt N L i) := by unfold Ho.gives many; rw [f1]; rfl
  rw [hgv, f1] at hva
  have hva1 := hva.congr (f' := fun _ => word0 (nxt N L i)) (fun k hk => by
    have hk0 : k = 0 := by unfold many at hk; split at hk <;> omega
    subst hk0
    rfl)
  have hks : w.heap.size ≤ w1.heap.size := e7.size
  have hkh : Keeps (fun b => E b ∨ h.priv b) w w1 := e7.mono fun b hb => ⟨t.b.lt b (hb.symm), t.ba b hb⟩
  refine ⟨va, g1, D1, by rw [f1], hva1.mono fun b hb => ⟨hb.1.2, fun hp => by have := t.b.lt b (.inl hp); have := hb.1.1; omega⟩,
    ⟨hg1, t.b.keep hkh fun b hb => hb.symm, e1.trans t.pa, t.pb, by rw [e2, t.na]; omega, t.nb, ?_, t.lb, by rw [e4, t.ka], t.kb, ?_, ?_, ?_, t.gb, ?_, ?_, ?_⟩, fun v n f hv => ?_⟩
  · rw [e3, t.la]; funext k; show L (i + (k + 1)) = L (i + 1 + k); congr 1; omega
  · intro b hb hp
    have hl := t.b.lt b (.inl hp)
    rcases hb with hb | hb
    · rcases e5 b hb with h9 | h9
      · exact t.ab b (.inl h9) hp
      · have := h9.1; omega
    · rcases e6 b hb with h9 | h9
      · exact t.ab b (.inr h9) hp
      · have := h9.1; omega
  · intro b hb hp
    have hl := t.b.lt b hb.symm
    rcases e6 b hp with h9 | h9
    · exact t.ba b hb h9
    · have := h9.1; omega
  · intro b hb
    rcases e6 b hb with h9 | h9
    · exact t.ga b h9
    · have := h9.1; have := t.acc.size
      exact ⟨by omega, by omega, by omega⟩
  · exact t.acc.trans (e7.to_below fun b hb => ⟨by have := t.acc.size; omega, fun hp => by have := (t.ga b hp).1; omega⟩)
  · exact (e7.block X ⟨hxl, fun hp => (t.ga _ hp).2.1 rfl⟩).trans t.bx
  · exact (e7.block Y ⟨hyl, fun hp => (t.ga _ hp).2.2 rfl⟩).trans t.by_
  · exact hv.keep (e7.mono fun b hb => hb) fun b hb => Nat.lt_of_lt_of_le hb.1 hks
end
theorem hosts_two {w0 w1 w2 w3 : World} {N : Nat} {L : Nat → Ans} {g h : Ho} {D E : Nat → Prop} (hb1 : Below w0.heap.size w0 w1) (hg : HostAt D g w1) (g1 : g.N = N) (g2 : g.L = L) (g3 : g.k = 0) (g4 : ∀ b, D b ∨ g.priv b → Nw w0 w1 b)
    (hb2 : Below w1.heap.size w1 w2) (hh : HostAt E h w2) (h1 : h.N = N) (h2 : h.L = L) (h3 : h.k = 0) (h4 : ∀ b, E b ∨ h.priv b → Nw w1 w2 b) (hw : w3 = (w2.alloc (.cells #[.int .i64 126] 3)).alloc (.cells #[.slice none 0 0, .slice (some ⟨w2.heap.size, 0, none⟩) 1 1] 36)) :
    Two w0 (w2.heap.size + 1) w2.heap.size N L g.p h.p 0 0 g D h E w3 := by
  have hb3 : Below w2.heap.size w2 w3 := by rw [hw]; exact ((Below.refl _ _).alloc (Nat.le_refl _) _).alloc (by simp) _
  have s1 := hb1.size
  have s2 := hb2.size
  refine ⟨(hg.below hb2).below hb3, hh.below hb3, rfl, rfl, g1, h1, by rw [g2]; funext k; simp, by rw [h2]; funext k; simp, g3, h3, fun b hb hp => ?_, fun b hb hp => ?_, fun b hb => ?_, fun b hb => ?_, (hb1.trans (hb2.mono s1)).trans (hb3.mono (by omega)), ?_, ?_⟩
  · have := (g4 b hb).2; have := (h4 b (.inr hp)).1; omega
  · have := (h4 b hb).1; have := (g4 b (.inr hp)).2; omega
  · have := g4 b (.inr hb); exact ⟨this.1, by have := this.2; omega, by have := this.2; omega⟩
  · have := h4 b (.inr hb); exact ⟨by have := this.1; omega, by have := this.2; omega, by have := this.2; omega⟩
  · rw [hw]; exact heap_alloc2_new w2 _ _
  · rw [hw]; exact heap_alloc2_old w2 _ _
theorem max_left0 (N i : Nat) : (if (N : Int) - (i : Int) < 0 then (0 : Int) else (N : Int) - (i : Int)) = ((N - i : Nat) : Int) := by
  split <;> omega
theorem turn30 (n : Int) : ∃ (r : Int) (k : Nat), n.tmod 30 = r ∧ (r + 30).tmod 30 = (k : Int) ∧ k < 30 ∧ -30 < r ∧ r < 30 := by
  have t0 := Int.lt_tmod_of_pos n (show (0 : Int) < 30 by omega)
  have t1 := Int.tmod_lt_of_pos n (show (0 : Int) < 30 by omega)
  have e : (n.tmod 30 + 30).tmod 30 = (n.tmod 30 + 30) % 30 := Int.tmod_eq_emod_of_nonneg (by omega)
  exact ⟨_, ((n.tmod 30 + 30).tmod 30).toNat, rfl, by rw [e]; omega, by rw [e]; omega, t0, t1⟩
set_option maxRecDepth 100000 in
set_option maxHeartbeats 2000000 in
theorem horder_any {K : Nat → Prop} {v : Value} {N0 : Nat} {L : Nat → Ans} (n : Int) (h : AnsF K w v N0 L) (hK : ∀ b, K b → b < w.heap.size) :
    Calls Try.prog 5 #[v, .int .i64 n] w (BoolPost true w) := by
  obtain ⟨r, kk, hr1, hr2, hk30, hr3, hr4⟩ := turn30 n
  have HV0 := Lib.hid h
  obtain ⟨A, c, rfl, hNc, _, _⟩ := h
  go_enter Try.func5, Try.ntmps5
  go_upto_if 16 with fail
  go_cut [0] from 17 to 18 (fun v wx => ∃ N, N ≤ 20 ∧ v = .slice A N c ∧ Hid (AnsF K w (.slice A N c) N L) ∧ wx = w)
  case first =>
    by_cases h20 : 20 < N0
    · have hd : decide (20 < N0) = true := by simpa using h20
      have hc20 : 20 ≤ c := by omega
      go_wp2
      go_meet
      exact ⟨20, Nat.le_refl _, rfl, Lib.hid (HV0.out.take (by omega)), rfl⟩
    · have hd : decide (20 < N0) = false := by simpa using h20
      go_wp2
      go_meet
      exact ⟨N0, by omega, rfl, HV0, rfl⟩
  case rest =>
    obtain ⟨N, hN20, rfl, HV, rfl⟩ := hcut
    obtain ⟨w0, rfl⟩ : ∃ w0 : World, w0 = wc := ⟨_, rfl⟩
    clear HV0 hNc
    have HN1 := Lib.hid (new_any HV.out hK)
    go_wp2_with fail
    go_at_call 7
    refine HN1.out.mono ?_
    rintro e w1 ⟨g, D, rfl, hg, g1, g2, g3, g4, hb1⟩
    have HN2 := Lib.hid (new_any (HV.out.keep (K' := K) (.below hb1 hK) fun _ h => h) fun b hb => Nat.lt_of_lt_of_le (hK b hb) hb1.size)
    go_wp2_with fail
    go_at_call 7
    refine HN2.out.mono ?_
    rintro e w2 ⟨h, E, rfl, hh, h1, h2, h3, h4, hb2⟩
    have HT0 := Lib.hid (hosts_two hb1 hg g1 g2 g3 g4 hb2 hh h1 h2 h3 h4 rfl)
    obtain ⟨p, hp⟩ : ∃ p, g.p = p := ⟨_, rfl⟩
    obtain ⟨q, hq⟩ : ∃ q, h.p = q := ⟨_, rfl⟩
    rw [hp, hq] at HT0
    rw [hp, hq]
    clear HN1 HN2 hg g1 g2 g3 g4 hb1 hh h1 h2 h3 h4 hb2 hp hq
    go_wp2_with fail
    go_loopw [9] (fun vi wr => ∃ (i : Nat) (g : Ho) (D : Nat → Prop) (h : Ho) (E : Nat → Prop), vi = .int .i64 (i : Int) ∧ i ≤ kk ∧ Hid (Two w0 (w2.heap.size + 1) w2.heap.size N L p q i i g D h E wr)) (fun vi _ => kk - (intOf vi).toNat)
    case atStart => exact ⟨0, g, D, h, E, rfl, Nat.zero_le _, HT0⟩
    case round =>
      clear HT0
      obtain ⟨i, g, D, h, E, rfl, hik, HT⟩ := hrel
      by_cases hlt : i < kk
      · have hd : decide (i < kk) = true := by simpa using hlt
        have HA := Lib.hid (two_ask HT.out (by omega))
        have x0 : wr.cell? ⟨w2.heap.size + 1, 0, none⟩ = some (.slice none 0 0) := by rw [cell_of_row _ _ _ _ _ _ HT.out.bx]; rfl
        have x1 : wr.cell? ⟨w2.heap.size + 1, 1, none⟩ = some (.slice (some ⟨w2.heap.size, 0, none⟩) 1 1) := by rw [cell_of_row _ _ _ _ _ _ HT.out.bx]; rfl
        go_wp2_with fail
        go_at_call 8
        refine HA.out.mono ?_
        rintro e w4 ⟨va, g4, D4, rfl, hva, ht4, -⟩
        have HA4 := Lib.hid (two_ask ht4.symm (by omega))
        have HVA := Lib.hid hva
        have x0 : w4.cell? ⟨w2.heap.size + 1, 0, none⟩ = some (.slice none 0 0) := by rw [cell_of_row _ _ _ _ _ _ ht4.bx]; rfl
        have x1 : w4.cell? ⟨w2.heap.size + 1, 1, none⟩ = some (.slice (some ⟨w2.heap.size, 0, none⟩) 1 1) := by rw [cell_of_row _ _ _ _ _ _ ht4.bx]; rfl
        obtain ⟨Av, cv, rfl⟩ := hva.form
        clear hva ht4 HA
        go_wp2_with fail
        go_at_call 8
        refine HA4.out.mono ?_
        rintro e w5 ⟨vb, h5, E5, rfl, hvb, ht5, hkp⟩
        have HT5 := Lib.hid ht5.symm
        have HVA5 := Lib.hid (hkp _ _ _ HVA.out)
        have HVB := Lib.hid hvb
        obtain ⟨Ab, cb, rfl⟩ := hvb.form
        clear hvb ht5 hkp HA4 HVA x0 x1
        obtain ⟨a, ha⟩ : ∃ a, nxt N L i = a := ⟨_, rfl⟩
        rw [ha] at HVA5 HVB ⊢
        have HAA := Lib.hid ha
        have hb05 := HT5.out.acc
        clear ha
        obtain ⟨an, af, tr⟩ := a
        cases tr with
        | true =>
          have hiN : i < N := by
            rcases Nat.lt_or_ge i N with h9 | h9
            · exact h9
            · have := HAA.out; unfold nxt at this; rw [if_neg (by omega)] at this; cases this
          have hLi : L i = ⟨an, af, true⟩ := by have := HAA.out; unfold nxt at this; rw [if_pos hiN] at this; exact this
          obtain ⟨A', c', he, _, _, hat⟩ := HV.out
          simp only [Value.slice.injEq, true_and] at he
          obtain ⟨rfl, rfl⟩ := he
          obtain ⟨g0, o0, rfl, hg0, hat⟩ := hat (by omega)
          obtain ⟨_, l1⟩ := hat i hiN
          rw [hLi] at l1
          replace l1 := (hb05.cell (p := ⟨g0, o0 + i * 2 + 1, none⟩) (hK g0 hg0)).trans l1
          have e0 : many ⟨an, af, true⟩ = 0 := rfl
          rw [e0] at HVA5 HVB ⊢
          have HSM := Lib.hid (same_any HVA5.out HVB.out fun _ _ => rfl)
          have hd1 : decide (N ≤ i) = false := by simp; omega
          have hd2 : decide (i < N) = true := by simp; omega
          clear hat hLi
          go_wp2_with (go_at_call 9; refine HSM.out.mono ?_; rintro e w6 ⟨rfl, q6, rfl⟩)
          go_quiet (fail)
          go_wp2
          go_roundw
          case rel => exact ⟨i + 1, _, _, _, _, by go_num, by omega, Lib.hid (HT5.out.below (below_drewN (Below.refl w5.heap.size w5) _))⟩
          case measure => simp [intOf]; omega
        | false =>
          have e0 : many ⟨an, af, false⟩ = 1 := rfl
          rw [e0] at HVA5 HVB ⊢
          have HSM := Lib.hid (same_any HVA5.out HVB.out fun _ _ => rfl)
          obtain ⟨gv, ov, rfl, _, hcv⟩ := HVA5.out.at_ (by decide)
          have v0 := hcv 0 (by decide)
          simp only [wrd, Nat.add_zero] at v0
          clear hcv
          by_cases hiN : i < N
          · have hLi : L i = ⟨an, af, false⟩ := by have := HAA.out; unfold nxt at this; rw [if_pos hiN] at this; exact this
            obtain ⟨A', c', he, _, _, hat⟩ := HV.out
            simp only [Value.slice.injEq, true_and] at he
            obtain ⟨rfl, rfl⟩ := he
            obtain ⟨g0, o0, rfl, hg0, hat⟩ := hat (by omega)
            obtain ⟨⟨u, l0, hu⟩, l1⟩ := hat i hiN
            rw [hLi] at l1 hu
            obtain ⟨Au, cu, rfl⟩ := hu.form
            replace l0 := (hb05.cell (p := ⟨g0, o0 + i * 2, none⟩) (hK g0 hg0)).trans l0
            replace l1 := (hb05.cell (p := ⟨g0, o0 + i * 2 + 1, none⟩) (hK g0 hg0)).trans l1
            have hd1 : decide (N ≤ i) = false := by simp; omega
            have hd2 : decide (i < N) = true := by simp; omega
            dsimp only at l0 l1 hu
            have HU := Lib.hid hu
            clear hat hLi hu
            rcases Nat.eq_zero_or_pos an with h0 | h0
            · subst h0
              go_wp2_with (go_at_call 9; refine HSM.out.mono ?_; rintro e w6 ⟨rfl, q6, rfl⟩)
              go_quiet (fail)
              go_wp2
              go_roundw
              case rel => exact ⟨i + 1, _, _, _, _, by go_num, by omega, Lib.hid (HT5.out.below (below_drewN (Below.refl w5.heap.size w5) _))⟩
              case measure => simp [intOf]; omega
            · obtain ⟨gu, ou, rfl, hgu, hcu⟩ := HU.out.at_ h0
              have u0 := (hb05.cell (p := ⟨gu, ou, none⟩) (hK gu hgu)).trans (hcu 0 h0)
              have ew : word0 ⟨an, af, false⟩ = af 0 := by unfold word0; exact if_pos h0
              rw [ew] at v0
              simp only [wrd] at u0
              obtain ⟨x, hx⟩ : ∃ x, af 0 = x := ⟨_, rfl⟩
              rw [hx] at v0 u0
              have hd3 : decide (0 < an) = true := by simpa using h0
              clear hcu ew hx
              go_wp2_with (go_at_call 9; refine HSM.out.mono ?_; rintro e w6 ⟨rfl, q6, rfl⟩)
              go_quiet (fail)
              go_wp2
              go_roundw
              case rel => exact ⟨i + 1, _, _, _, _, by go_num, by omega, Lib.hid (HT5.out.below (below_drewN (Below.refl w5.heap.size w5) _))⟩
              case measure => simp [intOf]; omega
          · have ha0 : (⟨an, af, false⟩ : Ans) = noAns := by have := HAA.out; unfold nxt at this; rw [if_neg hiN] at this; exact this.symm
            have ew : word0 ⟨an, af, false⟩ = 0 := by rw [ha0]; rfl
            rw [ew] at v0
            have hd1 : decide (N ≤ i) = true := by simp; omega
            have hd2 : decide (i < N) = false := by simp; omega
            clear ha0 ew
            go_wp2_with (go_at_call 9; refine HSM.out.mono ?_; rintro e w6 ⟨rfl, q6, rfl⟩)
            go_quiet (fail)
            go_wp2
            go_roundw
            case rel => exact ⟨i + 1, _, _, _, _, by go_num, by omega, Lib.hid (HT5.out.below (below_drewN (Below.refl w5.heap.size w5) _))⟩
            case measure => simp [intOf]; omega
      · have hd : decide (i < kk) = false := by simpa using hlt
        have eik : i = kk := by omega
        have hcal := calls_any HT.out.a (by rw [HT.out.ka]; omega)
        rw [HT.out.pa, HT.out.ka, eik] at hcal
        have HCAL := Lib.hid hcal
        have HLF := Lib.hid fun (w' : World) (hb : Below wr.heap.size wr w') => left_any (HT.out.below hb).a
        rw [HT.out.pa, HT.out.na, eik] at HLF
        have hmax := max_left0 N kk
        obtain ⟨r5, hr5⟩ : ∃ r : Int, ((N - kk : Nat) : Int) = r := ⟨_, rfl⟩
        rw [hr5] at hmax HLF
        clear hcal eik
        go_wp2_with (first
          | (go_at_call 11; refine HCAL.out.mono ?_; rintro e w5 ⟨v5, rfl, ⟨A5, c5, rfl, _⟩, hb5⟩)
          | (go_at_call 10; refine (HLF.out w5 hb5).mono ?_; rintro e w6 ⟨rfl, rfl⟩)
          | (go_at_call 6; refine (known_any _).mono ?_; rintro e w9 ⟨rfl, hb9⟩))
        go_ret
        exact ⟨rfl, (HT.out.acc.trans (hb5.mono HT.out.acc.size)).trans (hb9.mono (Nat.le_trans HT.out.acc.size hb5.size))⟩
end Go.Proofs.Ytlgfappnlnhddaa
