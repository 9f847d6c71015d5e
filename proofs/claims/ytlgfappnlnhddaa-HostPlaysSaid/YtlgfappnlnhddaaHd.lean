/-
  Contract of Ask.
-/
import Derived.Test.YtlgfappnlnhddaaHc
import Derived.Test.YtlgfappnlnhddaaLast
import Derived.Test.YtlgfappnlnhddaaTr
namespace Go.Proofs.Ytlgfappnlnhddaa
open Go.RowKit
variable {w w' : World}

/-- One call more. -/
def Ho.asked (h : Ho) (c : Cal) : Ho := { h.next with k := h.k + 1, C := fun j => if j = h.k then c else h.C j }
/-- Words as they are given: those of the answer, as the types hold them; none at a trap. -/
def Ho.gives (h : Ho) (ts : List Int) : Nat := if h.first.trap = true then 0 else ts.length
theorem Try.infoCall : (Try.prog.info? 44).map (fun i => (i.zero, i.size, i.bytes)) = some (some (.agg #[.int .i64 0, .slice none 0 0]), 2, 32) := by kernel_rfl
theorem CalsIn.snoc {K : Nat → Prop} {xs : List Value} {k : Nat} {C : Nat → Cal} (h : CalsIn K w xs k C) (c : Cal) {u : Value} (hu : WordsF K w u c.n c.f) : CalsIn K w (xs ++ [.int .i64 c.idx, u]) (k + 1) (fun j => if j = k then c else C j) := by
  refine ⟨by rw [List.length_append, h.1]; simp; omega, fun j hj => ?_⟩
  by_cases e : j = k
  · subst e
    have h1 := h.1
    dsimp only
    rw [if_pos rfl]
    refine ⟨?_, u, ?_, hu⟩
    · rw [List.getElem?_append_right (by omega), h1, Nat.sub_self]; rfl
    · rw [List.getElem?_append_right (by omega), h1, show j * 2 + 1 - j * 2 = 1 by omega]; rfl
  · obtain ⟨h1, u', h2, h3⟩ := h.2 j (by omega)
    have hl := h.1
    dsimp only
    rw [if_neg e]
    exact ⟨by rw [List.getElem?_append_left (by omega)]; exact h1, u', by rw [List.getElem?_append_left (by omega)]; exact h2, h3⟩
/-- The calls' row is another one, with one more. -/
theorem HostAt.setC {D D' : Nat → Prop} {h : Ho} {w1 : World} (hh : HostAt D h w) (hk : Keeps (h.kept w) w w1) (hbox : w1.heap[h.p]? = w.heap[h.p]?) (hB : w1.heap[h.B]? = w.heap[h.B]?) (cv : Value) (xs : List Value) (k : Nat) (C : Nat → Cal)
    (hown : w1.ownsRow 0 44 2 cv k xs) (hcal : CalsIn D' w1 xs k C) (hat : cv.ownBlock = h.cv.ownBlock ∨ ∀ g, cv.ownBlock = some g → w.heap.size ≤ g ∧ ¬ D' g) (hD : ∀ b, D b → D' b) (hD' : ∀ b, D' b → D b ∨ Nw w w1 b) :
    HostAt D' { h with cv := cv, k := k, C := C } (w1.setCell ⟨h.p, 1, none⟩ cv) := by
  obtain ⟨A, c, h1, h2, cs, h3, h4⟩ := hh.left
  have hpl := hh.lt h.p (.inl (.inl rfl))
  have hBl := hh.lt h.B (.inl (.inr (.inl rfl)))
  have hpD : ∀ b, D' b → b ≠ h.p ∧ b ≠ h.B := fun b hb => by
    rcases hD' b hb with h9 | h9
    · exact ⟨fun e => hh.nd b h9 (.inl e), fun e => hh.nd b h9 (.inr (.inl e))⟩
    · exact ⟨fun e => by have := h9.1; omega, fun e => by have := h9.1; omega⟩
  have hnc : ∀ b, cv.ownBlock = some b → b ≠ h.p ∧ b ≠ h.B ∧ ¬ D' b := fun b hb => by
    rcases hat with h9 | h9
    · rw [h9] at hb
      refine ⟨(hh.nc b hb).1, (hh.nc b hb).2, fun hd => ?_⟩
      rcases hD' b hd with h8 | h8
      · exact hh.nd b h8 (.inr (.inr hb))
      · have := hh.lt b (.inl (.inr (.inr hb))); have := h8.1; omega
    · obtain ⟨h8, h7⟩ := h9 b hb
      exact ⟨fun e => by omega, fun e => by omega, h7⟩
  have hset : Keeps (fun b => b ≠ h.p) w1 (w1.setCell ⟨h.p, 1, none⟩ cv) := Keeps.setCell w1 (fun hb => hb rfl) cv
  have hDk : Keeps D w w1 := hk.mono fun b hb => ⟨hh.lt b (.inr hb), hh.nd b hb⟩
  refine ⟨?_, hh.ne, fun b hb => ⟨(hnc b hb).1, (hnc b hb).2.1⟩, fun b hb hp => ?_, fun b hb => ?_, ⟨A, c, h1, h2, cs, ?_, fun h0 => ?_⟩, ⟨xs, ?_, ?_⟩⟩
  · exact heap_setCell_same w1 h.p 1 _ _ cv (hbox.trans hh.box)
  · rcases hp with hp | hp | hp
    · exact (hpD b hb).1 hp
    · exact (hpD b hb).2 hp
    · exact (hnc b hp).2.2 hb
  · rw [World.size_setCell]
    rcases hb with (hb | hb | hb) | hb
    · have e : b = h.p := hb
      rw [e]; exact Nat.lt_of_lt_of_le hpl hk.size
    · have e : b = h.B := hb
      rw [e]; exact Nat.lt_of_lt_of_le hBl hk.size
    · have e : cv.ownBlock = some b := hb
      rcases hown.2 with ⟨h9, _⟩ | ⟨g, cap, cur, h9, _, h10, _⟩
      · rw [h9] at e; cases e
      · rw [h9] at e
        have e2 : g = b := by simpa [Value.ownBlock] using e
        rw [← e2]; exact (Array.getElem?_eq_some_iff.1 h10).1
    · rcases hD' b hb with h9 | h9
      · exact Nat.lt_of_lt_of_le (hh.lt b (.inr h9)) hk.size
      · exact h9.2
  · exact (hset.block h.B hh.ne).trans (hB.trans h3)
  · obtain ⟨o, rfl, h5⟩ := h4 h0
    refine ⟨o, rfl, fun j hj => ?_⟩
    obtain ⟨⟨u, k1, k2⟩, k3⟩ := h5 j hj
    exact ⟨⟨u, k1, (k2.keep hDk hD).keep (hset.mono fun b hb => (hpD b hb).1) fun _ h => h⟩, k3⟩
  · exact owns_keep hown hset fun b hb => (hnc b hb).1
  · exact hcal.keep (hset.mono fun b hb => (hpD b hb).1) fun _ h => h
def AskPost (D : Nat → Prop) (h : Ho) (c : Cal) (ts : List Int) (w : World) (e : Ending) (w' : World) : Prop :=
  ∃ (v lv cv : Value) (D' : Nat → Prop), e = .returned (.tuple #[v, .bool (!h.first.trap)]) ∧ WordsF (fun b => Nw w w' b ∧ ¬ ({ h.asked c with lv := lv, cv := cv } : Ho).priv b) w' v (h.gives ts) (fitV h.first.n h.first.f ts) ∧
    HostAt D' { h.asked c with lv := lv, cv := cv } w' ∧ (∀ b, D' b → D b ∨ Nw w w' b) ∧ (∀ b, cv.ownBlock = some b → h.priv b ∨ Nw w w' b) ∧ Keeps (h.kept w) w w'
set_option maxRecDepth 100000 in
set_option maxHeartbeats 1000000 in
theorem ask_any {D K K' : Nat → Prop} {h : Ho} {av pv rv : Value} {n : Nat} {f : Nat → Nat} {ts : List Int} (idx : Int) (hh : HostAt D h w) (ha : WordsF K w av n f) (hK : ∀ b, K b → b < w.heap.size ∧ ¬ h.priv b) (hp : ∃ A m c, pv = .slice A m c) (hr : IntsK K' w rv ts) (hK' : ∀ b, K' b → b < w.heap.size ∧ ¬ h.priv b) (hts : ts.length ≤ 1000000) (hk : h.k < 1000) :
    Calls Try.prog 8 #[.pointer (some ⟨h.p, 0, none⟩), .int .i64 idx, av, .agg #[pv, rv]] w (AskPost D h ⟨idx, n, f⟩ ts w) := by
  obtain ⟨Aa, ca, rfl⟩ := ha.form
  obtain ⟨Ap, np, cp, rfl⟩ := hp
  obtain ⟨Ar, cr, rfl, _⟩ := hr.form
  obtain ⟨Ac, cc, hcv⟩ := hh.cform
  obtain ⟨nt, hnt⟩ : ∃ nt, ts.length = nt := ⟨_, rfl⟩
  rw [hnt] at hr ⊢
  obtain ⟨W, hW⟩ : ∃ W, W = w.alloc (.cells #[.slice Ap np cp, .slice Ar nt cr] 36) := ⟨_, rfl⟩
  have hbW : Below w.heap.size w W := by rw [hW]; exact (Below.refl _ _).alloc (Nat.le_refl _) _
  have hB0 : ∀ j : Nat, W.cell? ⟨w.heap.size, j, none⟩ = #[.slice Ap np cp, .slice Ar nt cr][j]? := fun j => by rw [hW, World.cell?_alloc_new]
  have t1 := hB0 1
  simp only [List.getElem?_toArray, List.getElem?_cons_succ, List.getElem?_cons_zero] at t1
  have htl := World.block_lt_of_cell? W _ t1
  have hhW := hh.below hbW
  have haW : WordsF K W (.slice Aa n ca) n f := ha.keep (K' := K) (.below hbW fun b hb => (hK b hb).1) fun _ h => h
  have hrW : IntsK K' W (.slice Ar nt cr) ts := hr.keep (K' := K') (.below hbW fun b hb => (hK' b hb).1) fun _ h => h
  have a1 := hhW.c1
  rw [hcv] at a1
  obtain ⟨xs, hown, hcal⟩ := hhW.calls
  rw [hcv] at hown
  have hpl := hhW.lt h.p (.inl (.inl rfl))
  have hpc : h.cv.ownBlock ≠ some h.p := fun e => (hhW.nc _ e).1 rfl
  obtain ⟨p, hpe⟩ : ∃ p, h.p = p := ⟨_, rfl⟩
  obtain ⟨k, hke⟩ : ∃ k, h.k = k := ⟨_, rfl⟩
  rw [hpe] at a1 hpl hpc ⊢
  rw [hke] at a1 hown hcal hk
  have HE : Hid (∀ w', Keeps (fun b => b < W.heap.size ∧ h.cv.ownBlock ≠ some b) W w' → w'.cell? ⟨p, 1, none⟩ = some (.slice Ac k cc)) :=
    Lib.hid fun w' hk => (hk.cell (p := ⟨p, 1, none⟩) ⟨hpl, hpc⟩).trans a1
  have HZ : Hid (∀ w', Keeps (fun b => b < W.heap.size ∧ h.cv.ownBlock ≠ some b) W w' → w'.frozen? ⟨p, 1, none⟩ = false) :=
    Lib.hid fun w' hk => (World.frozen?_of_block (w := W) (a := ⟨p, 1, none⟩) (hk.block p ⟨hpl, hpc⟩)).trans (by rw [← hpe]; exact hhW.frozen 1)
  have HC := Lib.hid fun (w' : World) (hb : Below W.heap.size W w') => copy_any (haW.keep (K' := K) (.below hb fun b hb => Nat.lt_of_lt_of_le (hK b hb).1 hbW.size) fun _ h => h) fun b hb' => Nat.lt_of_lt_of_le (Nat.lt_of_lt_of_le (hK b hb').1 hbW.size) hb.size
  have HH := Lib.hid hh
  have HHW := Lib.hid hhW
  have HW := Lib.hid hW
  have HBW := Lib.hid hbW
  have HOWN := Lib.hid hown
  have HCAL := Lib.hid hcal
  have HRW := Lib.hid hrW
  have HT1 := Lib.hid t1
  have HTL := Lib.hid htl
  have HPE := Lib.hid hpe
  have HKE := Lib.hid hke
  have HNT := Lib.hid hnt
  have HCV := Lib.hid hcv
  rw [hke] at hcv
  have hob : h.cv.ownBlock = (Value.slice Ac k cc).ownBlock := by rw [hcv]
  have HOB := Lib.hid hob
  clear hB0 t1 htl hhW haW hrW a1 hpc hpl hown hcal hh ha hr hW hbW hpe hke hnt hcv hob
  go_enter Try.func8, Try.ntmps8
  go_wp2_with fail
  rw [← HW.out]
  refine Rest.start (S := fun wz => Keeps (fun b => b < W.heap.size ∧ h.cv.ownBlock ≠ some b) W wz) (X := 13) (by kernel_rfl) ?_
  show Rest _ _ _ _ _ _ 14 #[false, false, false, false, false, false, false, false, false, false, false, false, false, false] _ _
  have hS : Keeps (fun b => b < W.heap.size ∧ h.cv.ownBlock ≠ some b) W W.drew := .below ((Below.refl _ _).drew) fun _ h => h.1
  have hSB : Below W.heap.size W W.drew := (Below.refl _ _).drew
  generalize W.drew = w1 at hS hSB ⊢
  refine Rest.tk 0 11 rfl hS ?_
  refine Rest.tk 1 12 rfl hS ?_
  refine Rest.tk 2 13 rfl hS ?_
  refine Rest.tk 3 14 rfl hS ?_
  refine Rest.tk 4 15 rfl hS ?_ (hy := by intro w' hSw; have a1 := HE.out w' hSw; go_simp; try with_reducible rfl)
  refine Rest.tk 5 16 rfl hS ?_
  refine Rest.tk 6 17 rfl hS ?_
  refine Rest.om 7 18 rfl fun K hK => ?_
  go_simp
  go_at_call 12
  refine (HC.out w1 hSB).mono ?_
  rintro e w2 ⟨u, rfl, hb2, hu2⟩
  have hS2 : Keeps (fun b => b < W.heap.size ∧ h.cv.ownBlock ≠ some b) W w2 := hS.trans (.below hb2 fun b hb => Nat.lt_of_lt_of_le hb.1 hSB.size)
  have hSB2 := hSB.trans (hb2.mono hSB.size)
  obtain ⟨Au, cu, rfl⟩ := hu2.form
  have HU2 := Lib.hid (hu2.mono (K' := Nw W w2) fun b hb => ⟨Nat.le_trans hSB.size hb.1, hb.2⟩)
  go_wp2_with fail
  refine hK.out _ _ (.inr hS2) ?_
  clear hK K hS hSB hu2 hb2
  try simp only [List.setIfInBounds_toArray, List.set]
  refine Rest.tk 8 19 rfl hS2 ?_
  refine Rest.om 9 20 rfl fun K hK => ?_
  go_simp
  have hS3 : Keeps (fun b => b < W.heap.size ∧ h.cv.ownBlock ≠ some b) W (w2.alloc (.cells #[.int .i64 idx, .slice Au n cu] 44)) := hS2.trans (.below ((Below.refl _ _).alloc (Nat.le_refl _) _) fun b hb => Nat.lt_of_lt_of_le hb.1 hSB2.size)
  have hSB3 : Below W.heap.size W (w2.alloc (.cells #[.int .i64 idx, .slice Au n cu] 44)) := hSB2.alloc hSB2.size _
  have hnews := news_new w2 #[.int .i64 idx, .slice Au n cu] 44 1 1
  have hk23 : Keeps (fun b => b < w2.heap.size) w2 (w2.alloc (.cells #[.int .i64 idx, .slice Au n cu] 44)) := .below ((Below.refl _ _).alloc (Nat.le_refl _) _) fun _ h => h
  have hsz3 : w2.heap.size ≤ (w2.alloc (.cells #[.int .i64 idx, .slice Au n cu] 44)).heap.size := by simp
  refine hK.out _ _ (.inr hS3) ?_
  clear hK K hS2
  try simp only [List.setIfInBounds_toArray, List.set]
  have how : (w2.alloc (.cells #[.int .i64 idx, .slice Au n cu] 44)).ownsRow 0 44 2 (.slice Ac k cc) k xs := by
    refine owns_keep (K := fun b => b < W.heap.size) HOWN.out (.below hSB3 fun _ h => h) fun g e => ?_
    rw [← HOB.out] at e
    exact HHW.out.lt g (.inl (.inr (.inr e)))
  generalize w2.alloc (.cells #[.int .i64 idx, .slice Au n cu] 44) = w3 at hS3 hSB3 hnews how hk23 hsz3 ⊢
  have hone : ∀ u ∈ ([.int .i64 idx, .slice Au n cu] : List Value), u.oneCell' = true := by
    intro u hu; simp only [List.mem_cons, List.not_mem_nil, or_false] at hu; rcases hu with rfl | rfl <;> rfl
  refine Rest.om 10 21 rfl fun K hK => ?_
  refine step_append_row rfl (.tmp 15) (.tmp 20) 41 44 rfl _ 2 32 Try.underlying41 Try.infoCall rfl (by decide) (by decide) (.slice Ac k cc) k xs (by rfl) how _ 1 [.int .i64 idx, .slice Au n cu] (by rfl) (by rfl) hnews hone (by omega) ?_
  intro v' w4 hown hgr hat
  obtain ⟨A3, c3, rfl⟩ := owns_slice hown
  have hS4 : Keeps (fun b => b < W.heap.size ∧ h.cv.ownBlock ≠ some b) W w4 := hS3.trans (.grown hgr (fun b hb => Nat.lt_of_lt_of_le hb.1 hSB3.size) (fun j e hk => hk.2 (by rw [HOB.out]; exact e)))
  refine hK.out _ _ (.inr hS4) ?_
  clear hK K
  try simp only [Act.put, List.setIfInBounds_toArray, List.set]
  refine Rest.om 11 22 rfl fun K hK => ?_
  go_simp
  refine hK.out _ _ (.inr hS4) ?_
  clear hK K
  try simp only [List.setIfInBounds_toArray, List.set]
  refine Rest.tk 12 23 rfl hS4 ?_
  refine Rest.on 13 rfl fun K hK => ?_
  have a1 := HE.out w4 hS4
  have f1 := HZ.out w4 hS4
  go_simp
  refine hK.out _ _ (.inl rfl) ?_
  clear hK K a1 f1
  refine Rest.done (by kernel_rfl) ?_ _
  have hst : HostAt (fun b => D b ∨ Nw W w2 b) { h with cv := .slice A3 (k + 1) c3, k := k + 1, C := fun j => if j = k then ⟨idx, n, f⟩ else h.C j } (w4.setCell ⟨p, 1, none⟩ (.slice A3 (k + 1) c3)) ∧ Keeps (h.kept W) W (w4.setCell ⟨p, 1, none⟩ (.slice A3 (k + 1) c3)) ∧ (∀ b, (Value.slice A3 (k + 1) c3).ownBlock = some b → h.priv b ∨ Nw W w4 b) ∧ w2.heap.size ≤ w4.heap.size := by
    have hsz4 := hgr.size
    have hkk : Keeps (h.kept W) W w4 := hS4.mono fun b hb => ⟨hb.1, fun e => hb.2 (.inr (.inr e))⟩
    have hk24 : Keeps (fun b => b < w2.heap.size ∧ h.cv.ownBlock ≠ some b) w2 w4 := (hk23.mono fun b hb => hb.1).trans (.grown hgr (fun b hb => Nat.lt_of_lt_of_le hb.1 hsz3) (fun j e hk => hk.2 (by rw [HOB.out]; exact e)))
    have hcl : ∀ b, h.cv.ownBlock = some b → b < W.heap.size := fun b hb => HHW.out.lt b (.inl (.inr (.inr hb)))
    have hDk : ∀ b, D b → b < W.heap.size ∧ h.cv.ownBlock ≠ some b := fun b hb => ⟨HHW.out.lt b (.inr hb), fun e => HHW.out.nd b hb (.inr (.inr e))⟩
    have hcal := (HCAL.out.keep (K' := fun b => D b ∨ Nw W w2 b) (hS4.mono hDk) fun _ h => .inl h).snoc ⟨idx, n, f⟩ (u := .slice Au n cu) (HU2.out.keep (K' := fun b => D b ∨ Nw W w2 b) (hk24.mono fun b hb => ⟨hb.2, fun e => by have := hcl b e; have := hb.1; omega⟩) fun _ h => .inr h)
    have hset := HHW.out.setC (D' := fun b => D b ∨ Nw W w2 b) hkk (hS4.block h.p ⟨HHW.out.lt _ (.inl (.inl rfl)), fun e => (HHW.out.nc _ e).1 rfl⟩) (hS4.block h.B ⟨HHW.out.lt _ (.inl (.inr (.inl rfl))), fun e => (HHW.out.nc _ e).2 rfl⟩) (.slice A3 (k + 1) c3) _ (k + 1) (fun j => if j = k then ⟨idx, n, f⟩ else h.C j) hown hcal (by
      rcases hat with h1 | h1
      · exact .inl (h1.trans HOB.out.symm)
      · refine .inr fun g e => ?_
        have e2 : w3.heap.size = g := by have := h1.symm.trans e; simpa using this
        refine ⟨by have := hSB2.size; omega, fun hd => ?_⟩
        rcases hd with hd | hd
        · have := HHW.out.lt g (.inr hd); have := hSB2.size; omega
        · have := hd.2; omega) (fun b hb => .inl hb) (fun b hb => by
      rcases hb with hb | hb
      · exact .inl hb
      · exact .inr ⟨hb.1, by have := hb.2; omega⟩)
    rw [show (⟨p, 1, none⟩ : Addr) = ⟨h.p, 1, none⟩ by rw [HPE.out]]
    refine ⟨hset, hkk.trans (Keeps.setCell w4 (p := ⟨h.p, 1, none⟩) (fun hb => hb.2 (.inl rfl)) _), fun b hb => ?_, by omega⟩
    rcases hat with h1 | h1
    · exact .inl (.inr (.inr (HOB.out.trans (h1.symm.trans hb))))
    · have e2 : w3.heap.size = b := by have := h1.symm.trans hb; simpa using this
      refine .inr ⟨by have := hSB2.size; omega, ?_⟩
      rcases hown.2 with ⟨h9, _⟩ | ⟨g, cap, cur, h9, _, h10, _⟩
      · rw [h9] at hb; cases hb
      · rw [h9] at hb
        have e3 : g = b := by simpa [Value.ownBlock] using hb
        rw [← e3]; exact (Array.getElem?_eq_some_iff.1 h10).1
  obtain ⟨hst, hkst, hcvst, hsz⟩ := hst
  have hsz5 : w4.heap.size = (w4.setCell ⟨p, 1, none⟩ (.slice A3 (k + 1) c3)).heap.size := (World.size_setCell ..).symm
  obtain ⟨h1, hh1⟩ : ∃ h1 : Ho, h1 = { h with cv := .slice A3 (k + 1) c3, k := k + 1, C := fun j => if j = k then ⟨idx, n, f⟩ else h.C j } := ⟨_, rfl⟩
  rw [← hh1] at hst
  have htk := take_any hst
  rw [show h1.p = p by rw [hh1]; exact HPE.out] at htk
  have HTK := Lib.hid htk
  have HST := Lib.hid hst
  have HKST := Lib.hid hkst
  have HCVST := Lib.hid hcvst
  have HH1 := Lib.hid hh1
  have HS2 := Lib.hid hSB2
  have HRT := Lib.hid ((HRW.out.keep (K' := K') (HKST.out.mono fun b hb => ⟨Nat.lt_of_lt_of_le (hK' b hb).1 HBW.out.size, (hK' b hb).2⟩) fun _ h => h))
  have t1 := (HKST.out.cell (p := ⟨w.heap.size, 1, none⟩) ⟨HTL.out, fun hb => by have := HH.out.lt w.heap.size (.inl hb); omega⟩).trans HT1.out
  have HKS := Lib.hid HKST.out.size
  clear hst hkst hcvst hh1 htk hSB2 hS3 hSB3 hnews how hk23 hsz3 hone hown hgr hat hS4
  generalize w4.setCell ⟨p, 1, none⟩ (.slice A3 (k + 1) c3) = w5 at HTK HST HKST hsz5 HRT t1 HKS ⊢
  go_wp2_with fail
  go_at_call 13
  refine HTK.out.mono ?_
  rintro e w6 ⟨u6, lv6, rfl, hu6, hh6, hk6⟩
  have hnp : ∀ b, b < W.heap.size → ¬ h.priv b → ¬ h1.priv b := fun b hb hn hp => by
    rw [HH1.out] at hp
    rcases hp with hp | hp | hp
    · exact hn (.inl hp)
    · exact hn (.inr (.inl hp))
    · rcases HCVST.out b hp with h9 | h9
      · exact hn h9
      · have := h9.1; omega
  have hK6 : Keeps (h.kept w) w w6 := ((Keeps.below HBW.out fun b hb => hb.1).trans (HKST.out.mono fun b hb => ⟨Nat.lt_of_lt_of_le hb.1 HBW.out.size, hb.2⟩)).trans (hk6.mono fun b hb => ⟨Nat.lt_of_lt_of_le (Nat.lt_of_lt_of_le hb.1 HBW.out.size) HKS.out, hnp b (Nat.lt_of_lt_of_le hb.1 HBW.out.size) hb.2⟩)
  have t6 := (hk6.cell (p := ⟨w.heap.size, 1, none⟩) ⟨Nat.lt_of_lt_of_le HTL.out HKS.out, hnp _ HTL.out fun hb => by have := HH.out.lt w.heap.size (.inl hb); omega⟩).trans t1
  have hr6 : IntsK K' w6 (.slice Ar nt cr) ts := HRT.out.keep (hk6.mono fun b hb => ⟨Nat.lt_of_lt_of_le (Nat.lt_of_lt_of_le (hK' b hb).1 HBW.out.size) HKS.out, hnp b (Nat.lt_of_lt_of_le (hK' b hb).1 HBW.out.size) (hK' b hb).2⟩) fun _ h => h
  have hfst : h1.first = h.first := by rw [HH1.out]; rfl
  rw [hfst] at hu6 ⊢
  have hz6 : w4.heap.size ≤ w6.heap.size := by rw [hsz5]; exact hk6.size
  have hfin : ∀ (w9 : World) (v : Value), Below w6.heap.size w6 w9 → WordsF (Nw w6 w9) w9 v (h.gives ts) (fitV h.first.n h.first.f ts) → AskPost D h ⟨idx, n, f⟩ ts w (.returned (.tuple #[v, .bool (!h.first.trap)])) w9 := fun w9 v hb hv => by
    have eh : ({ h1.next with lv := lv6 } : Ho) = { h.asked ⟨idx, n, f⟩ with lv := lv6, cv := .slice A3 (k + 1) c3 } := by
      rw [HH1.out, ← HKE.out]; rfl
    refine ⟨v, lv6, .slice A3 (k + 1) c3, fun b => D b ∨ Nw W w2 b, rfl, hv.mono fun b hb' => ⟨⟨Nat.le_trans (Nat.le_trans HBW.out.size (Nat.le_trans HKS.out (by omega))) hb'.1, hb'.2⟩, fun hp => ?_⟩, ?_, fun b hb' => ?_, fun b hb' => ?_, hK6.trans (.below hb fun b hb' => Nat.lt_of_lt_of_le hb'.1 hK6.size)⟩
    · rw [← eh] at hp
      have := hh6.lt b (.inl hp)
      have := hb'.1
      omega
    · have h9 := hh6.below hb
      rw [eh] at h9
      exact h9
    · have h3 := HBW.out.size
      have h4 := hb.size
      have h5 := HS2.out.size
      rcases hb' with hb' | hb'
      · exact .inl hb'
      · exact .inr ⟨by have := hb'.1; omega, by have := hb'.2; omega⟩
    · have h3 := HBW.out.size
      have h4 := hb.size
      rcases HCVST.out b hb' with h9 | h9
      · exact .inl h9
      · exact .inr ⟨by have := h9.1; omega, by have := h9.2; omega⟩
  have HFIN := Lib.hid hfin
  have HR6 := Lib.hid hr6
  have HU6 := Lib.hid hu6
  have hD6 : ∀ b, (D b ∨ Nw W w2 b) → b < w6.heap.size := fun b hb => hh6.lt b (.inr hb)
  have htl6 : w.heap.size < w6.heap.size := Nat.lt_of_lt_of_le (Nat.lt_of_lt_of_le HTL.out HKS.out) hk6.size
  obtain ⟨A6, c6, rfl⟩ := hu6.form
  have HK6 := Lib.hid hK6
  have hd6 : Hid (∀ b, (D b ∨ Nw W w2 b) → b < w6.heap.size) := Lib.hid hD6
  clear hfin hr6 hu6 hh6 hnp t1 hK6 hk6 hfst hz6 hD6
  obtain ⟨a, ha⟩ : ∃ a, h.first = a := ⟨_, rfl⟩
  rw [ha] at HFIN HU6 ⊢
  have HA := Lib.hid ha
  clear ha
  obtain ⟨an, af, tr⟩ := a
  cases tr with
  | true =>
    go_wp2
    go_ret2
    refine HFIN.out _ _ ((Below.refl _ _).alloc (Nat.le_refl _) _) ?_
    unfold Ho.gives
    rw [HA.out, if_pos rfl]
    exact WordsF.nil _ _ _
  | false =>
    have hb7 : Below w6.heap.size w6 (w6.alloc (.cells #[.slice A6 an c6, .bool false] 26)) := (Below.refl _ _).alloc (Nat.le_refl _) _
    have HB7 := Lib.hid hb7
    have HF := Lib.hid (fit_any (K := fun b => b < w6.heap.size) (K' := fun b => b < w6.heap.size) (HU6.out.keep (.below hb7 hd6.out) hd6.out) (fun b hb => Nat.lt_of_lt_of_le hb hb7.size) (HR6.out.keep (K' := fun b => b < w6.heap.size) (.below hb7 fun b hb => Nat.lt_of_lt_of_le (hK' b hb).1 (by omega)) fun b hb => Nat.lt_of_lt_of_le (hK' b hb).1 (by omega)) hts)
    clear hb7
    go_wp2_with (go_at_call 14; refine HF.out.mono ?_; rintro e w8 ⟨v8, rfl, hb8, hv8⟩; have HB8 := Lib.hid hb8; have HV8 := Lib.hid hv8; clear hb8 hv8)
    go_ret2
    refine HFIN.out w8 v8 (below_then HB7.out HB8.out) ?_
    have e : h.gives ts = ts.length := by unfold Ho.gives; rw [HA.out]; rfl
    rw [e]
    exact HV8.out.mono fun b hb => ⟨Nat.le_trans HB7.out.size hb.1, hb.2⟩
/-- The same, the host behind it by what is known of it. -/
def AskPost2 (D : Nat → Prop) (h : Ho) (c : Cal) (ts : List Int) (w : World) (e : Ending) (w' : World) : Prop :=
  ∃ (v : Value) (h' : Ho) (D' : Nat → Prop), e = .returned (.tuple #[v, .bool (!h.first.trap)]) ∧ WordsF (fun b => Nw w w' b ∧ ¬ h'.priv b) w' v (h.gives ts) (fitV h.first.n h.first.f ts) ∧
    HostAt D' h' w' ∧ h'.p = h.p ∧ h'.N = h.N - 1 ∧ h'.L = (fun j => h.L (j + 1)) ∧ h'.k = h.k + 1 ∧ h'.C h.k = c ∧ (∀ b, D' b → D b ∨ Nw w w' b) ∧ (∀ b, h'.priv b → h.priv b ∨ Nw w w' b) ∧ Keeps (h.kept w) w w'
theorem AskPost.two {D : Nat → Prop} {h : Ho} {c : Cal} {ts : List Int} {e : Ending} (h0 : AskPost D h c ts w e w') : AskPost2 D h c ts w e w' := by
  obtain ⟨v, lv, cv, D', h1, h2, h3, h4, h4', h5⟩ := h0
  refine ⟨v, _, D', h1, h2, h3, rfl, rfl, rfl, rfl, by show (if h.k = h.k then c else _) = c; exact if_pos rfl, h4, fun b hb => ?_, h5⟩
  rcases hb with hb | hb | hb
  · exact .inl (.inl hb)
  · exact .inl (.inr (.inl hb))
  · exact h4' b hb
end Go.Proofs.Ytlgfappnlnhddaa
