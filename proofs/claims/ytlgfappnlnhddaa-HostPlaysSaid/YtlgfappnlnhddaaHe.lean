/-
  Contract of New.
-/
import Derived.Test.YtlgfappnlnhddaaHd
import Derived.Deep.CutRange
namespace Go.Proofs.Ytlgfappnlnhddaa
open Go.RowKit
variable {w w' : World}

theorem Try.infoAns : (Try.prog.info? 26).map (fun i => (i.zero, i.size, i.bytes)) = some (some (.agg #[.slice none 0 0, .bool false]), 2, 32) := by kernel_rfl
def zeroAns (n : Nat) : Array Value := madeCells (Value.agg #[.slice none 0 0, .bool false]).cells (n * 2)
theorem zeroAns_size (n : Nat) : (zeroAns n).size = n * 2 := by simp [zeroAns, madeCells]
theorem run_make_ans (n : Nat) (hn : n * 32 ≤ 140737488355328) (w : World) : (Instr.makeSlice 22 (.int .i64 (n : Int)) (.int .i64 (n : Int))).run Try.prog w = .ok (.slice (some ⟨w.heap.size, 0, none⟩) n n) (w.alloc (.cells (zeroAns n) 26)) := by
  obtain ⟨i0, hi, hz0, hz1, hz2⟩ := info_parts Try.infoAns
  have h := run_make (P := Try.prog) w 22 26 i0 _ Try.underlying22 hi hz0 .i64 .i64 n n (by omega) (by omega) (by rw [hz2]; omega) (by omega)
  rw [hz1, Int.toNat_natCast] at h
  exact h
def NewPost (N : Nat) (L : Nat → Ans) (w : World) (e : Ending) (w' : World) : Prop :=
  ∃ (h : Ho) (D : Nat → Prop), e = .returned (.pointer (some ⟨h.p, 0, none⟩)) ∧ HostAt D h w' ∧ h.N = N ∧ h.L = L ∧ h.k = 0 ∧ (∀ b, D b ∨ h.priv b → Nw w w' b) ∧ Below w.heap.size w w'
/-- The first i answers of the row are made. -/
def MadeA (B N : Nat) (L : Nat → Ans) (i : Nat) (w : World) : Prop :=
  ∃ cs, w.heap[B]? = some (.cells cs 26 (0, 0)) ∧ cs.size = N * 2 ∧ ∀ j, j < i → (∃ u, cs[j * 2]? = some u ∧ WordsF (fun b => B + 2 ≤ b ∧ b < w.heap.size) w u (L j).n (L j).f) ∧ cs[j * 2 + 1]? = some (.bool (L j).trap)
theorem MadeA.step {B N i : Nat} {L : Nat → Ans} {u : Value} {w1 : World} (h : MadeA B N L i w) (hb : Below w.heap.size w w1) (hu : WordsF (Nw w w1) w1 u (L i).n (L i).f) (hi : i < N) (hB : B + 2 ≤ w.heap.size) : MadeA B N L (i + 1) ((w1.setCell ⟨B, i * 2, none⟩ u).setCell ⟨B, i * 2 + 1, none⟩ (.bool (L i).trap)) := by
  obtain ⟨cs, h1, h2, h3⟩ := h
  have h4 := (hb.block B (by omega)).trans h1
  have h5 := heap_setCell_same w1 B (i * 2) _ _ u h4
  have h6 := heap_setCell_same _ B (i * 2 + 1) _ _ (.bool (L i).trap) h5
  have hk : Keeps (fun b => B + 2 ≤ b) w1 ((w1.setCell ⟨B, i * 2, none⟩ u).setCell ⟨B, i * 2 + 1, none⟩ (.bool (L i).trap)) := (Keeps.setCell w1 (p := ⟨B, i * 2, none⟩) (by simp) u).trans (Keeps.setCell _ (p := ⟨B, i * 2 + 1, none⟩) (by simp) _)
  have hs : ((w1.setCell ⟨B, i * 2, none⟩ u).setCell ⟨B, i * 2 + 1, none⟩ (.bool (L i).trap)).heap.size = w1.heap.size := by simp
  refine ⟨_, h6, by simp [h2], fun j hj => ?_⟩
  by_cases e : j = i
  · subst e
    refine ⟨⟨u, ?_, ?_⟩, ?_⟩
    · rw [Array.getElem?_setIfInBounds_ne (by omega), Array.getElem?_setIfInBounds_self_of_lt (by omega)]
    · exact (hu.mono (K' := fun b => B + 2 ≤ b ∧ b < w1.heap.size) fun b hb => ⟨by have := hb.1; omega, hb.2⟩).keep (hk.mono fun b hb => hb.1) fun b hb => ⟨hb.1, by rw [hs]; exact hb.2⟩
    · rw [Array.getElem?_setIfInBounds_self_of_lt (by simp [h2]; omega)]
  · obtain ⟨⟨u', k1, k2⟩, k3⟩ := h3 j (by omega)
    refine ⟨⟨u', ?_, ?_⟩, ?_⟩
    · rw [Array.getElem?_setIfInBounds_ne (by omega), Array.getElem?_setIfInBounds_ne (by omega)]; exact k1
    · exact (k2.keep (K' := fun b => B + 2 ≤ b ∧ b < w1.heap.size) (.below hb fun b hb => hb.2) fun b hb' => ⟨hb'.1, Nat.lt_of_lt_of_le hb'.2 hb.size⟩).keep (hk.mono fun b hb => hb.1) fun b hb => ⟨hb.1, by rw [hs]; exact hb.2⟩
    · rw [Array.getElem?_setIfInBounds_ne (by omega), Array.getElem?_setIfInBounds_ne (by omega)]; exact k3
set_option maxRecDepth 100000 in
set_option maxHeartbeats 1000000 in
theorem new_any {K : Nat → Prop} {v : Value} {N : Nat} {L : Nat → Ans} (h : AnsF K w v N L) (hK : ∀ b, K b → b < w.heap.size) : Calls Try.prog 7 #[v] w (NewPost N L w) := by
  obtain ⟨A, c, rfl, hNc, hN, hcell⟩ := h
  have hmk := run_make_ans N hN w
  have HC := Lib.hid hcell
  clear hcell
  go_enter Try.func7, Try.ntmps7
  go_wp2_with fail
  have HB0 : Hid (Below w.heap.size w ((w.alloc (.cells (zeroAns N) 26)).alloc (.cells #[.slice (some ⟨w.heap.size, 0, none⟩) N N, .slice none 0 0] 47))) := Lib.hid (((Below.refl _ _).alloc (Nat.le_refl _) _).alloc (by simp) _)
  have HX0 : Hid (((w.alloc (.cells (zeroAns N) 26)).alloc (.cells #[.slice (some ⟨w.heap.size, 0, none⟩) N N, .slice none 0 0] 47)).heap[w.heap.size + 1]? = some (.cells #[.slice (some ⟨w.heap.size, 0, none⟩) N N, .slice none 0 0] 47 (0, 0))) := Lib.hid (heap_alloc2_new w _ _)
  have HM0 : Hid (MadeA w.heap.size N L 0 ((w.alloc (.cells (zeroAns N) 26)).alloc (.cells #[.slice (some ⟨w.heap.size, 0, none⟩) N N, .slice none 0 0] 47))) := Lib.hid ⟨_, heap_alloc2_old w _ _, zeroAns_size N, fun j hj => by omega⟩
  go_loopw [13] (fun i wr => ∃ k : Nat, k ≤ N ∧ i = .int .i64 (k : Int) ∧ Hid (Below w.heap.size w wr) ∧ Hid (wr.heap[w.heap.size + 1]? = some (.cells #[.slice (some ⟨w.heap.size, 0, none⟩) N N, .slice none 0 0] 47 (0, 0))) ∧ Hid (MadeA w.heap.size N L k wr)) (fun i _ => N - (intOf i).toNat)
  case atStart => exact ⟨0, Nat.zero_le _, rfl, HB0, HX0, HM0⟩
  case round =>
    clear HB0 HX0 HM0
    obtain ⟨k, hk, rfl, HB, HX, HM⟩ := hrel
    by_cases hlt : k < N
    · obtain ⟨g, o, rfl, hg, hat⟩ := HC.out (by omega)
      obtain ⟨⟨u, c1, hu⟩, c2⟩ := hat k hlt
      have hgl := hK g hg
      have huw := hu.keep (K' := K) (.below HB.out hK) fun _ h => h
      obtain ⟨Au, cu, rfl⟩ := hu.form
      replace c1 := (HB.out.cell (p := ⟨g, o + k * 2, none⟩) hgl).trans c1
      replace c2 := (HB.out.cell (p := ⟨g, o + k * 2 + 1, none⟩) hgl).trans c2
      obtain ⟨m, hm⟩ : ∃ m, (L k).n = m := ⟨_, rfl⟩
      obtain ⟨tr, htr⟩ : ∃ tr, (L k).trap = tr := ⟨_, rfl⟩
      rw [hm] at c1 huw
      rw [htr] at c2
      have HU := Lib.hid huw
      have HMM := Lib.hid hm
      have HTR := Lib.hid htr
      clear huw hm htr hu hat
      go_wp2_with fail
      obtain ⟨wv, hwv⟩ : ∃ wv, wv = wr.alloc (.cells #[.slice Au m cu, .bool tr] 26) := ⟨_, rfl⟩
      have hbv : Below wr.heap.size wr wv := by rw [hwv]; exact (Below.refl _ _).alloc (Nat.le_refl _) _
      have hv0 : wv.cell? ⟨wr.heap.size, 0, none⟩ = some (.slice Au m cu) := by rw [hwv, World.cell?_alloc_new]; rfl
      have hv1 : wv.cell? ⟨wr.heap.size, 1, none⟩ = some (.bool tr) := by rw [hwv, World.cell?_alloc_new]; rfl
      have hpx := HX.out
      have hpl := (Array.getElem?_eq_some_iff.1 hpx).1
      have p0 : wv.cell? ⟨w.heap.size + 1, 0, none⟩ = some (.slice (some ⟨w.heap.size, 0, none⟩) N N) := (hbv.cell (p := ⟨w.heap.size + 1, 0, none⟩) hpl).trans (by rw [cell_of_row wr _ 0 _ _ _ hpx]; rfl)
      have hvl := World.block_lt_of_cell? wv _ hv0
      have hplv : w.heap.size + 1 < wv.heap.size := Nat.lt_of_lt_of_le hpl hbv.size
      have HE : Hid (∀ w', Below wv.heap.size wv w' → w'.cell? ⟨w.heap.size + 1, 0, none⟩ = some (.slice (some ⟨w.heap.size, 0, none⟩) N N) ∧ w'.cell? ⟨wr.heap.size, 0, none⟩ = some (.slice Au m cu) ∧ w'.cell? ⟨wr.heap.size, 1, none⟩ = some (.bool tr)) :=
        Lib.hid fun w' hb => ⟨(hb.cell (p := ⟨w.heap.size + 1, 0, none⟩) hplv).trans p0, (hb.cell (p := ⟨wr.heap.size, 0, none⟩) hvl).trans hv0, (hb.cell (p := ⟨wr.heap.size, 1, none⟩) hvl).trans hv1⟩
      have HBV := Lib.hid hbv
      have HCP := Lib.hid fun (w' : World) (hb : Below wv.heap.size wv w') => copy_any ((HU.out.keep (K' := K) (.below hbv fun b hb => Nat.lt_of_lt_of_le (hK b hb) HB.out.size) fun _ h => h).keep (K' := K) (.below hb fun b hb => Nat.lt_of_lt_of_le (Nat.lt_of_lt_of_le (hK b hb) HB.out.size) hbv.size) fun _ h => h) fun b hb' => Nat.lt_of_lt_of_le (Nat.lt_of_lt_of_le (Nat.lt_of_lt_of_le (hK b hb') HB.out.size) hbv.size) hb.size
      rw [← hwv]
      clear hwv hbv hv0 hv1 hpx p0 hvl c1 c2
      refine Rest.start (S := fun wz => Below wv.heap.size wv wz) (X := 12) (by kernel_rfl) ?_
      show Rest _ _ _ _ _ _ 13 #[false, false, false, false, false, false, false, false, false, false, false, false, false] _ _
      have hS : Below wv.heap.size wv wv.drew := (Below.refl _ _).drew
      generalize wv.drew = w1 at hS ⊢
      refine Rest.tk 0 18 rfl hS ?_
      refine Rest.tk 1 19 rfl hS ?_
      refine Rest.tk 2 20 rfl hS ?_
      refine Rest.tk 3 21 rfl hS ?_ (hy := by intro w' hSw; obtain ⟨a0, a1, a2⟩ := HE.out w' hSw; go_simp; try with_reducible rfl)
      refine Rest.tk 4 22 rfl hS ?_
      refine Rest.tk 5 23 rfl hS ?_
      refine Rest.tk 6 24 rfl hS ?_ (hy := by intro w' hSw; obtain ⟨a0, a1, a2⟩ := HE.out w' hSw; go_simp; try with_reducible rfl)
      refine Rest.tk 8 26 rfl hS ?_
      refine Rest.tk 9 27 rfl hS ?_ (hy := by intro w' hSw; obtain ⟨a0, a1, a2⟩ := HE.out w' hSw; go_simp; try with_reducible rfl)
      refine Rest.om 7 25 rfl fun K hK => ?_
      go_simp
      go_at_call 12
      refine (HCP.out w1 hS).mono ?_
      rintro e w2 ⟨u2, rfl, hb2, hu2⟩
      have hS2 := hS.trans (hb2.mono hS.size)
      obtain ⟨A2, c2, rfl⟩ := hu2.form
      have hu3 : WordsF (Nw wr w2) w2 (.slice A2 m c2) (L k).n (L k).f := by
        rw [HMM.out]
        exact hu2.mono fun b hb => ⟨by have := hb.1; have := hS.size; have := HBV.out.size; omega, hb.2⟩
      have HU2 := Lib.hid hu3
      have hbr2 := HBV.out.trans (hS2.mono HBV.out.size)
      have hm2 := HM.out.step hbr2 hu3 hlt (by omega)
      rw [HTR.out] at hm2
      have HM2 := Lib.hid hm2
      have HBR2 := Lib.hid hbr2
      have hcx : ∃ cs, w2.heap[w.heap.size]? = some (.cells cs 26 (0, 0)) ∧ cs.size = N * 2 := by
        obtain ⟨cs, h1, h2, _⟩ := HM.out
        exact ⟨cs, (hbr2.block w.heap.size (by omega)).trans h1, h2⟩
      obtain ⟨cs, hcs, hcz⟩ := hcx
      obtain ⟨x0, z0⟩ : ∃ x, w2.cell? ⟨w.heap.size, k * 2, none⟩ = some x := by rw [cell_of_row w2 _ _ _ _ _ hcs]; exact ⟨_, Array.getElem?_eq_getElem (by omega)⟩
      obtain ⟨x1, z1⟩ : ∃ x, w2.cell? ⟨w.heap.size, k * 2 + 1, none⟩ = some x := by rw [cell_of_row w2 _ _ _ _ _ hcs]; exact ⟨_, Array.getElem?_eq_getElem (by omega)⟩
      have f0 := frozen_of_row w2 w.heap.size (k * 2) _ _ hcs
      have f1 := frozen_of_row w2 w.heap.size (k * 2 + 1) _ _ hcs
      clear hcs hcz hm2 hu3 hu2 hbr2 hb2
      go_wp2_with fail
      refine hK.out _ _ (.inr hS2) ?_
      clear hK K hS
      try simp only [List.setIfInBounds_toArray, List.set]
      refine Rest.tk 10 28 rfl hS2 ?_
      refine Rest.tk 11 29 rfl hS2 ?_
      refine Rest.on 12 rfl fun K hK => ?_
      go_simp
      refine hK.out _ _ (.inl rfl) ?_
      clear hK K z0 z1 f0 f1
      refine Rest.done (by kernel_rfl) ?_ _
      go_wp2
      go_roundw
      case rel =>
        refine ⟨k + 1, by omega, by go_num, Lib.hid ?_, Lib.hid ?_, HM2⟩
        · exact (HB.out.trans (HBR2.out.mono HB.out.size)).setCell (by simp) _ |>.setCell (by simp) _
        · rw [heap_setCell_other _ _ _ _ (by simp), heap_setCell_other _ _ _ _ (by simp)]
          exact (HBR2.out.block _ hpl).trans HX.out
      case measure => simp [intOf]; omega
    · obtain rfl : N = k := by omega
      go_wp2
      go_ret
      have hx := HX.out
      obtain ⟨cs, h1, h2, h3⟩ := HM.out
      have hxl := (Array.getElem?_eq_some_iff.1 hx).1
      refine ⟨⟨w.heap.size + 1, w.heap.size, .slice (some ⟨w.heap.size, 0, none⟩) N N, .slice none 0 0, N, L, 0, fun _ => ⟨0, 0, fun _ => 0⟩⟩, fun b => w.heap.size + 2 ≤ b ∧ b < wr.heap.size, rfl, ⟨hx, by simp, (fun b hb => by cases hb), fun b hb hp => ?_, fun b hb => ?_, ⟨_, N, rfl, Nat.le_refl _, cs, h1, fun _ => ⟨0, rfl, fun j hj => by simp only [Nat.zero_add]; exact h3 j hj⟩⟩, ⟨[], World.ownsRow_nil _ _ _ _, rfl, fun j hj => absurd hj (Nat.not_lt_zero _)⟩⟩, rfl, rfl, rfl, fun b hb => ?_, HB.out⟩
      · rcases hp with hp | hp | hp
        · have e : b = w.heap.size + 1 := hp
          have := hb.1; omega
        · have e : b = w.heap.size := hp
          have := hb.1; omega
        · cases hp
      · rcases hb with (hb | hb | hb) | hb
        · have e : b = w.heap.size + 1 := hb
          omega
        · have e : b = w.heap.size := hb
          omega
        · cases hb
        · exact hb.2
      · rcases hb with hb | (hb | hb | hb)
        · exact ⟨by have := hb.1; omega, hb.2⟩
        · have e : b = w.heap.size + 1 := hb
          exact ⟨by omega, by omega⟩
        · have e : b = w.heap.size := hb
          exact ⟨by omega, by omega⟩
        · cases hb
end Go.Proofs.Ytlgfappnlnhddaa
