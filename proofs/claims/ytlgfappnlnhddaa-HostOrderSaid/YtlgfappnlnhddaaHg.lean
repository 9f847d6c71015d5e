/-
  'known' of chapter 13's statements.
-/
import Derived.Test.YtlgfappnlnhddaaHf
import Derived.WalkLawsBesides
namespace Go.Proofs.Ytlgfappnlnhddaa
open Go.RowKit
variable {w w' : World}

/-- What came behind the host's last turn is none of it. -/
theorem HostAt.apart {D : Nat → Prop} {h : Ho} (hh : HostAt D h w) {b : Nat} (hb : Nw w w' b) : b < w'.heap.size ∧ ¬ h.priv b := ⟨hb.2, fun hp => by have := hh.lt b (.inl hp); have := hb.1; omega⟩
theorem Ho.below_kept {h : Ho} {B : Nat} {w0 w1 : World} (h0 : Below B w0 w) (h1 : Below w.heap.size w w1) (hk : Keeps (h.kept w1) w1 w') (hlo : ∀ b, h.priv b → B ≤ b) (hB : B ≤ w.heap.size) : Below B w0 w' :=
  (h0.trans (h1.mono hB)).trans (hk.to_below fun b hb => ⟨by have := h1.size; omega, fun hp => by have := hlo b hp; omega⟩)
theorem words_block {g n c : Nat} {cs : Array Value} {T : TypeId} {f : Nat → Nat} {K : Nat → Prop} (h : w.heap[g]? = some (.cells cs T (0, 0))) (hK : K g) (hn : n * 8 ≤ 140737488355328) (hf : ∀ j, j < n → f j < 18446744073709551616 ∧ cs[j]? = some (wrd (f j))) : WordsF K w (.slice (some ⟨g, 0, none⟩) n c) n f :=
  ⟨_, c, rfl, hn, fun j hj => (hf j hj).1, fun _ => ⟨g, 0, rfl, hK, fun j hj => by rw [Nat.zero_add, cell_of_row w g j _ _ _ h]; exact (hf j hj).2⟩⟩
theorem ints_block {g n c : Nat} {T : TypeId} {ts : List Int} {K : Nat → Prop} (h : w.heap[g]? = some (.cells (ts.map (Value.int .i64)).toArray T (0, 0))) (hK : K g) (hn : ts.length = n) (hm : n ≤ 1000000) : IntsK K w (.slice (some ⟨g, 0, none⟩) n c) ts := by
  subst hn
  refine ⟨_, c, rfl, by unfold maxLen; omega, (fun h => by cases h), fun _ => ⟨g, 0, rfl, hK, fun j hj => ?_⟩⟩
  rw [Nat.zero_add, cell_of_row w g j _ _ _ h]
  simp [hj]
def kf : Nat → Nat := fun j => if j = 0 then 4294967296 else 9
def kL : Nat → Ans := fun j => if j = 0 then ⟨2, kf, false⟩ else ⟨0, fun _ => 0, true⟩
theorem k_row (w : World) : AnsF (fun b => Nw w ((w.alloc (.cells #[.int .u64 4294967296, .int .u64 9] 27)).alloc (.cells #[.slice (some ⟨w.heap.size, 0, none⟩) 2 2, .bool false, .slice none 0 0, .bool true] 26)) b)
    ((w.alloc (.cells #[.int .u64 4294967296, .int .u64 9] 27)).alloc (.cells #[.slice (some ⟨w.heap.size, 0, none⟩) 2 2, .bool false, .slice none 0 0, .bool true] 26)) (.slice (some ⟨w.heap.size + 1, 0, none⟩) 2 2) 2 kL := by
  have h1 := heap_alloc2_old w (.cells #[.int .u64 4294967296, .int .u64 9] 27) (.cells #[.slice (some ⟨w.heap.size, 0, none⟩) 2 2, .bool false, .slice none 0 0, .bool true] 26)
  have h2 := heap_alloc2_new w (.cells #[.int .u64 4294967296, .int .u64 9] 27) (.cells #[.slice (some ⟨w.heap.size, 0, none⟩) 2 2, .bool false, .slice none 0 0, .bool true] 26)
  have hs : ((w.alloc (.cells #[.int .u64 4294967296, .int .u64 9] 27)).alloc (.cells #[.slice (some ⟨w.heap.size, 0, none⟩) 2 2, .bool false, .slice none 0 0, .bool true] 26)).heap.size = w.heap.size + 2 := by simp
  refine ⟨_, 2, rfl, Nat.le_refl _, by decide, fun _ => ⟨w.heap.size + 1, 0, rfl, ⟨by omega, by omega⟩, fun j hj => ?_⟩⟩
  match j, hj with
  | 0, _ =>
    refine ⟨⟨_, by rw [cell_of_row _ _ _ _ _ _ h2]; rfl, ?_⟩, by rw [cell_of_row _ _ _ _ _ _ h2]; rfl⟩
    refine words_block h1 ⟨Nat.le_refl _, by omega⟩ (by decide) fun j hj => ?_
    match j, hj with
    | 0, _ => exact ⟨by decide, rfl⟩
    | 1, _ => exact ⟨by decide, rfl⟩
  | 1, _ => exact ⟨⟨_, by rw [cell_of_row _ _ _ _ _ _ h2]; rfl, WordsF.nil _ _ _⟩, by rw [cell_of_row _ _ _ _ _ _ h2]; rfl⟩
def sevenF : Nat → Nat := fun _ => 7
theorem k_new (w : World) : Calls Try.prog 7 #[.slice (some ⟨w.heap.size + 1, 0, none⟩) 2 2] ((w.alloc (.cells #[.int .u64 4294967296, .int .u64 9] 27)).alloc (.cells #[.slice (some ⟨w.heap.size, 0, none⟩) 2 2, .bool false, .slice none 0 0, .bool true] 26))
    fun e w' => ∃ (h : Ho) (D : Nat → Prop), e = .returned (.pointer (some ⟨h.p, 0, none⟩)) ∧ HostAt D h w' ∧ h.N = 2 ∧ h.L = kL ∧ h.k = 0 ∧ Below w.heap.size w w' ∧ ∀ b, D b ∨ h.priv b → w.heap.size ≤ b :=
  (new_any (k_row w) fun b hb => hb.2).mono fun e w' ⟨h, D, h1, h2, h3, h4, h5, h6, h7⟩ => ⟨h, D, h1, h2, h3, h4, h5, (((Below.refl _ _).alloc (Nat.le_refl _) _).alloc (by simp) _).trans (h7.mono (by simp; omega)), fun b hb => by have := (h6 b hb).1; simp at this; omega⟩
/-- A call whose types are new, whose args are new or none. -/
theorem ask_new {D : Nat → Prop} {h : Ho} {w1 : World} {av rv : Value} {n : Nat} {f : Nat → Nat} {ts : List Int} (idx : Int) (hh : HostAt D h w) (hb : Below w.heap.size w w1) (ha : WordsF (Nw w w1) w1 av n f) (hr : IntsK (Nw w w1) w1 rv ts) (hts : ts.length ≤ 1000000) (hk : h.k < 1000) :
    Calls Try.prog 8 #[.pointer (some ⟨h.p, 0, none⟩), .int .i64 idx, av, .agg #[.slice none 0 0, rv]] w1 (AskPost2 D h ⟨idx, n, f⟩ ts w1) :=
  (ask_any idx (hh.below hb) ha (fun _ hb' => hh.apart hb') ⟨none, 0, 0, rfl⟩ hr (fun _ hb' => hh.apart hb') hts hk).mono fun _ _ h => h.two
theorem k_ask1 {D : Nat → Prop} {h : Ho} (hh : HostAt D h w) (hk : h.k < 1000) : Calls Try.prog 8 #[.pointer (some ⟨h.p, 0, none⟩), .int .i64 3, .slice (some ⟨w.heap.size, 0, none⟩) 1 1, .agg #[.slice none 0 0, .slice (some ⟨w.heap.size + 1, 0, none⟩) 3 3]]
    ((w.alloc (.cells #[.int .u64 7] 27)).alloc (.cells #[.int .i64 127, .int .i64 126, .int .i64 124] 3)) (AskPost2 D h ⟨3, 1, sevenF⟩ [127, 126, 124] ((w.alloc (.cells #[.int .u64 7] 27)).alloc (.cells #[.int .i64 127, .int .i64 126, .int .i64 124] 3))) := by
  have h1 := heap_alloc2_old w (.cells #[.int .u64 7] 27) (.cells #[.int .i64 127, .int .i64 126, .int .i64 124] 3)
  have h2 := heap_alloc2_new w (.cells #[.int .u64 7] 27) (.cells #[.int .i64 127, .int .i64 126, .int .i64 124] 3)
  have hs : ((w.alloc (.cells #[.int .u64 7] 27)).alloc (.cells #[.int .i64 127, .int .i64 126, .int .i64 124] 3)).heap.size = w.heap.size + 2 := by simp
  refine ask_new 3 hh (((Below.refl _ _).alloc (Nat.le_refl _) _).alloc (by simp) _) (words_block h1 ⟨Nat.le_refl _, by omega⟩ (by decide) fun j hj => ?_) (ints_block (ts := [127, 126, 124]) h2 ⟨by omega, by omega⟩ rfl (by decide)) (by decide) hk
  obtain rfl : j = 0 := by omega
  exact ⟨by decide, rfl⟩
theorem k_ask2 {D : Nat → Prop} {h : Ho} (idx : Int) (hh : HostAt D h w) (hk : h.k < 1000) : Calls Try.prog 8 #[.pointer (some ⟨h.p, 0, none⟩), .int .i64 idx, .slice none 0 0, .agg #[.slice none 0 0, .slice (some ⟨w.heap.size, 0, none⟩) 1 1]]
    (w.alloc (.cells #[.int .i64 127] 3)) (AskPost2 D h ⟨idx, 0, sevenF⟩ [127] (w.alloc (.cells #[.int .i64 127] 3))) :=
  ask_new idx hh ((Below.refl _ _).alloc (Nat.le_refl _) _) (WordsF.nil _ _ _) (ints_block (ts := [127]) (heap_alloc_new w _) ⟨Nat.le_refl _, by simp⟩ rfl (by decide)) (by decide) hk
set_option maxRecDepth 100000 in
set_option maxHeartbeats 1000000 in
theorem known_any (w : World) : Calls Try.prog 6 #[] w (BoolPost true w) := by
  go_enter Try.func6, Try.ntmps6
  go_wp2_with fail
  go_at_call 7
  refine (k_new w).mono ?_
  rintro e w1 ⟨h, D, rfl, hh, hN, hL, hk, hb, hlo⟩
  have hf0 : h.first = ⟨2, kf, false⟩ := by unfold Ho.first; rw [hN, hL]; rfl
  have C1 := k_ask1 hh (by omega)
  obtain ⟨p, hp⟩ : ∃ p, h.p = p := ⟨_, rfl⟩
  rw [hp] at C1 ⊢
  have HC1 := Lib.hid C1
  have HB := Lib.hid hb
  clear C1 hh hb
  go_wp2_with fail
  go_at_call 8
  refine HC1.out.mono ?_
  rintro e w2 ⟨v1, h1, D1, rfl, hv1, hh1, e1, e2, e3, e4, -, e5, e6, e7⟩
  rw [hf0]
  have hg1 : h.gives [127, 126, 124] = 3 := by unfold Ho.gives; rw [hf0]; rfl
  rw [hg1, hf0] at hv1
  have HW1 := Lib.hid (Ho.below_kept HB.out (((Below.refl w1.heap.size w1).alloc (Nat.le_refl _) _).alloc (by simp) _) e7 (fun b hb => hlo b (.inr hb)) HB.out.size)
  have HL1 : Hid (∀ b, h1.priv b → w.heap.size ≤ b) := Lib.hid fun b hb => by
    rcases e6 b hb with h9 | h9
    · exact hlo b (.inr h9)
    · have := h9.1; have := HB.out.size; simp at *; omega
  obtain ⟨g1, o1, c1, rfl, hk1, ha1⟩ := hv1.some_ (by decide)
  have hfv : ∀ j, j < 3 → fitV 2 kf [127, 126, 124] j = if j = 1 then 9 else 0 := by
    intro j hj
    match j, hj with
    | 0, _ => rfl
    | 1, _ => rfl
    | 2, _ => rfl
  have hgl1 := World.block_lt_of_cell? w2 _ (ha1 0 (by decide))
  have A1 := Lib.hid ha1
  have F1 := Lib.hid hfv
  have P1 := Lib.hid hk1.2
  have hN1 : h1.N = 1 := by rw [e2, hN]
  have hL1 : h1.L = fun j => kL (j + 1) := by rw [e3, hL]
  have hk1' : h1.k = 1 := by rw [e4, hk]
  have hf1 : h1.first = ⟨0, fun _ => 0, true⟩ := by unfold Ho.first; rw [hN1, hL1]; rfl
  have C2 := k_ask2 0 hh1 (by omega)
  rw [e1, hp] at C2
  have HC2 := Lib.hid C2
  have B2 := Lib.hid hh1
  have E7 := Lib.hid e7
  have HP1 := Lib.hid (e1.trans hp)
  have BA2 : Hid (Below w2.heap.size w2 (w2.alloc (.cells #[.int .i64 127] 3))) := Lib.hid ((Below.refl _ _).alloc (Nat.le_refl _) _)
  clear C2 hh1 e7 hv1 ha1 hk1 hg1 hfv e1 e2 e3 e4 hp hN hL hk
  go_wp2_with fail
  go_at_call 8
  refine HC2.out.mono ?_
  rintro e w3 ⟨v2, h2, D2, rfl, hv2, hh2, e1, e2, e3, e4, -, e5, e6', e7⟩
  rw [hf1]
  have hg2 : h1.gives [127] = 0 := by unfold Ho.gives; rw [hf1]; rfl
  rw [hg2] at hv2
  obtain ⟨A2, c2, rfl⟩ := hv2.form
  have hN2 : h2.N = 0 := by rw [e2, hN1]
  have hk2' : h2.k = 2 := by rw [e4, hk1']
  have hf2 : h2.first = noAns := by unfold Ho.first; rw [hN2]; rfl
  have C3 := k_ask2 1 hh2 (by omega)
  rw [e1, HP1.out] at C3
  have HC3 := Lib.hid C3
  have B3 := Lib.hid hh2
  have K2 := Lib.hid e7
  have HP2 := Lib.hid (e1.trans HP1.out)
  have hsz := BA2.out.size
  have hnp2 : ∀ b, b < w2.heap.size → ¬ h1.priv b → ¬ h2.priv b := fun b hb hn hp => by
    rcases e6' b hp with h9 | h9
    · exact hn h9
    · have := h9.1; omega
  have a2 : ∀ j, j < 3 → w3.cell? ⟨g1, o1 + j, none⟩ = some (wrd (if j = 1 then 9 else 0)) := fun j hj => by
    rw [← F1.out j hj, ← A1.out j hj]
    exact (e7.cell (p := ⟨g1, o1 + j, none⟩) ⟨Nat.lt_of_lt_of_le hgl1 hsz, P1.out⟩).trans (BA2.out.cell (p := ⟨g1, o1 + j, none⟩) hgl1)
  have A2' := Lib.hid a2
  have P2 := Lib.hid (hnp2 g1 hgl1 P1.out)
  have HW2 : Hid (Below w.heap.size w w3) := Lib.hid (Ho.below_kept HW1.out BA2.out e7 HL1.out HW1.out.size)
  have HL2 : Hid (∀ b, h2.priv b → w.heap.size ≤ b) := Lib.hid fun b hb => by
    rcases e6' b hb with h9 | h9
    · exact HL1.out b h9
    · have := h9.1; have := HW1.out.size; omega
  have hgl3 := World.block_lt_of_cell? w3 _ (a2 0 (by decide))
  have BA3 : Hid (Below w3.heap.size w3 (w3.alloc (.cells #[.int .i64 127] 3))) := Lib.hid ((Below.refl _ _).alloc (Nat.le_refl _) _)
  clear C3 hh2 e7 hv2 a2 hg2 e1 e2 e3 e4 hN1 hL1 hk1' e5 e6' hnp2 hsz HC2 HC1 A1 F1
  go_wp2_with fail
  go_at_call 8
  refine HC3.out.mono ?_
  rintro e w4 ⟨v3, h3, D3, rfl, hv3, hh3, e1, e2, e3, e4, -, e5, e6', e7⟩
  rw [hf2]
  have hg3 : h2.gives [127] = 1 := by unfold Ho.gives; rw [hf2]; rfl
  rw [hg3, hf2] at hv3
  obtain ⟨g3, o3, c3, rfl, hk3, ha3⟩ := hv3.some_ (by decide)
  have b0 := ha3 0 (by decide)
  have e0 : fitV noAns.n noAns.f [127] 0 = 0 := rfl
  rw [e0] at b0
  have hN3 : h3.N = 0 := by rw [e2, hN2]
  have hk3' : h3.k = 3 := by rw [e4, hk2']
  have a3 : ∀ j, j < 3 → w4.cell? ⟨g1, o1 + j, none⟩ = some (wrd (if j = 1 then 9 else 0)) := fun j hj =>
    ((e7.cell (p := ⟨g1, o1 + j, none⟩) ⟨Nat.lt_of_lt_of_le hgl3 BA3.out.size, P2.out⟩).trans (BA3.out.cell (p := ⟨g1, o1 + j, none⟩) hgl3)).trans (A2'.out j hj)
  have a0 := a3 0 (by decide)
  have a1 := a3 1 (by decide)
  have a2 := a3 2 (by decide)
  have HCC := Lib.hid (calls_any hh3 (by omega))
  have HLL := Lib.hid fun (w' : World) (hb : Below w4.heap.size w4 w') => left_any (hh3.below hb)
  rw [hk3', e1, HP2.out] at HCC
  rw [hN3, e1, HP2.out] at HLL
  have HW4 : Hid (Below w.heap.size w w4) := Lib.hid (Ho.below_kept HW2.out BA3.out e7 HL2.out HW2.out.size)
  simp only [wrd, Nat.add_zero] at a0 a1 a2 b0
  clear a3 hh3 e7 hv3 ha3 e1 e2 e3 e4 e5 e6' HC3
  go_wp2_with (first
    | (go_at_call 11; refine HCC.out.mono ?_; rintro e w5 ⟨v5, rfl, ⟨A5, c5, rfl, _⟩, hb5⟩)
    | (go_at_call 10; refine (HLL.out w5 hb5).mono ?_; rintro e w6 ⟨rfl, rfl⟩))
  go_ret
  exact ⟨rfl, HW4.out.trans (hb5.mono HW4.out.size)⟩
end Go.Proofs.Ytlgfappnlnhddaa
