/-
  Contract of Calls.
-/
import Derived.Test.YtlgfappnlnhddaaHe
namespace Go.Proofs.Ytlgfappnlnhddaa
open Go.RowKit
variable {w w' : World}

def zeroCal (n : Nat) : Array Value := madeCells (Value.agg #[.int .i64 0, .slice none 0 0]).cells (n * 2)
theorem zeroCal_size (n : Nat) : (zeroCal n).size = n * 2 := by simp [zeroCal, madeCells]
theorem run_make_cal (n : Nat) (hn : n ≤ 1000) (w : World) : (Instr.makeSlice 41 (.int .i64 (n : Int)) (.int .i64 (n : Int))).run Try.prog w = .ok (.slice (some ⟨w.heap.size, 0, none⟩) n n) (w.alloc (.cells (zeroCal n) 44)) := by
  obtain ⟨i0, hi, hz0, hz1, hz2⟩ := info_parts Try.infoCall
  have h := run_make (P := Try.prog) w 41 44 i0 _ Try.underlying41 hi hz0 .i64 .i64 n n (by omega) (by omega) (by rw [hz2]; omega) (by omega)
  rw [hz1, Int.toNat_natCast] at h
  exact h
/-- The calls that a slice holds. -/
def CalsF (K : Nat → Prop) (w : World) (v : Value) (k : Nat) (C : Nat → Cal) : Prop :=
  ∃ A c, v = .slice A k c ∧ (0 < k → ∃ g, A = some ⟨g, 0, none⟩ ∧ ∀ j, j < k → w.cell? ⟨g, j * 2, none⟩ = some (.int .i64 (C j).idx) ∧ ∃ u, w.cell? ⟨g, j * 2 + 1, none⟩ = some u ∧ WordsF K w u (C j).n (C j).f)
def CalsPost (k : Nat) (C : Nat → Cal) (w : World) (e : Ending) (w' : World) : Prop := ∃ v, e = .returned v ∧ CalsF (Nw w w') w' v k C ∧ Below w.heap.size w w'
/-- The first i calls of the row are made. -/
def MadeC (B N : Nat) (C : Nat → Cal) (i : Nat) (w : World) : Prop :=
  ∃ cs, w.heap[B]? = some (.cells cs 44 (0, 0)) ∧ cs.size = N * 2 ∧ ∀ j, j < i → cs[j * 2]? = some (.int .i64 (C j).idx) ∧ ∃ u, cs[j * 2 + 1]? = some u ∧ WordsF (fun b => B + 1 ≤ b ∧ b < w.heap.size) w u (C j).n (C j).f
theorem MadeC.step {B N i : Nat} {C : Nat → Cal} {u : Value} {w1 : World} (h : MadeC B N C i w) (hb : Below w.heap.size w w1) (hu : WordsF (Nw w w1) w1 u (C i).n (C i).f) (hi : i < N) (hB : B + 1 ≤ w.heap.size) : MadeC B N C (i + 1) ((w1.setCell ⟨B, i * 2, none⟩ (.int .i64 (C i).idx)).setCell ⟨B, i * 2 + 1, none⟩ u) := by
  obtain ⟨cs, h1, h2, h3⟩ := h
  have h4 := (hb.block B (by omega)).trans h1
  have h5 := heap_setCell_same w1 B (i * 2) _ _ (.int .i64 (C i).idx) h4
  have h6 := heap_setCell_same _ B (i * 2 + 1) _ _ u h5
  have hk : Keeps (fun b => B + 1 ≤ b) w1 ((w1.setCell ⟨B, i * 2, none⟩ (.int .i64 (C i).idx)).setCell ⟨B, i * 2 + 1, none⟩ u) := (Keeps.setCell w1 (p := ⟨B, i * 2, none⟩) (by simp) _).trans (Keeps.setCell _ (p := ⟨B, i * 2 + 1, none⟩) (by simp) _)
  have hs : ((w1.setCell ⟨B, i * 2, none⟩ (.int .i64 (C i).idx)).setCell ⟨B, i * 2 + 1, none⟩ u).heap.size = w1.heap.size := by simp
  refine ⟨_, h6, by simp [h2], fun j hj => ?_⟩
  by_cases e : j = i
  · subst e
    refine ⟨?_, u, ?_, ?_⟩
    · rw [Array.getElem?_setIfInBounds_ne (by omega), Array.getElem?_setIfInBounds_self_of_lt (by omega)]
    · rw [Array.getElem?_setIfInBounds_self_of_lt (by simp [h2]; omega)]
    · exact (hu.mono (K' := fun b => B + 1 ≤ b ∧ b < w1.heap.size) fun b hb => ⟨by have := hb.1; omega, hb.2⟩).keep (hk.mono fun b hb => hb.1) fun b hb => ⟨hb.1, by rw [hs]; exact hb.2⟩
  · obtain ⟨k3, u', k1, k2⟩ := h3 j (by omega)
    refine ⟨?_, u', ?_, ?_⟩
    · rw [Array.getElem?_setIfInBounds_ne (by omega), Array.getElem?_setIfInBounds_ne (by omega)]; exact k3
    · rw [Array.getElem?_setIfInBounds_ne (by omega), Array.getElem?_setIfInBounds_ne (by omega)]; exact k1
    · exact (k2.keep (K' := fun b => B + 1 ≤ b ∧ b < w1.heap.size) (.below hb fun b hb => hb.2) fun b hb' => ⟨hb'.1, Nat.lt_of_lt_of_le hb'.2 hb.size⟩).keep (hk.mono fun b hb => hb.1) fun b hb => ⟨hb.1, by rw [hs]; exact hb.2⟩
set_option maxRecDepth 100000 in
set_option maxHeartbeats 1000000 in
theorem calls_any {D : Nat → Prop} {h : Ho} (hh : HostAt D h w) (hk : h.k ≤ 1000) : Calls Try.prog 11 #[.pointer (some ⟨h.p, 0, none⟩)] w (CalsPost h.k h.C w) := by
  obtain ⟨Ac, cc, hcv⟩ := hh.cform
  obtain ⟨xs, hown, hcal⟩ := hh.calls
  have p1 := hh.c1
  rw [hcv] at p1
  have hpl := World.block_lt_of_cell? w _ p1
  obtain ⟨p, hp⟩ : ∃ p, h.p = p := ⟨_, rfl⟩
  obtain ⟨n, hn⟩ : ∃ n, h.k = n := ⟨_, rfl⟩
  obtain ⟨C, hC⟩ : ∃ C, h.C = C := ⟨_, rfl⟩
  rw [hcv] at hown
  rw [hp] at p1 hpl ⊢
  rw [hn] at p1 hown hcal hk ⊢
  rw [hC] at hcal ⊢
  have hmk := run_make_cal n hk w
  have HX : Hid (0 < n → ∃ g, Ac = some ⟨g, 0, none⟩ ∧ g < w.heap.size ∧ ∀ j, j < n → w.cell? ⟨g, j * 2, none⟩ = some (.int .i64 (C j).idx) ∧ ∃ u, w.cell? ⟨g, j * 2 + 1, none⟩ = some u ∧ WordsF (fun b => b < w.heap.size) w u (C j).n (C j).f) := Lib.hid fun h0 => by
    rcases hown.2 with ⟨h9, h8⟩ | ⟨g, cap, cur, h9, _, h10, _⟩
    · omega
    · simp only [Value.slice.injEq] at h9
      obtain ⟨rfl, -, rfl⟩ := h9
      refine ⟨g, rfl, (Array.getElem?_eq_some_iff.1 h10).1, fun j hj => ?_⟩
      obtain ⟨h1, u, h2, h3⟩ := hcal.2 j hj
      have e1 := hown.cells (g := g) rfl (j * 2) _ h1
      have e2 := hown.cells (g := g) rfl (j * 2 + 1) _ h2
      rw [add_lit0] at e1 e2
      exact ⟨e1, u, e2, h3.mono fun b hb => hh.lt b (.inr hb)⟩
  clear hh hcv hown hcal hp hn hC
  go_enter Try.func11, Try.ntmps11
  go_wp2_with fail
  have HB0 : Hid (Below w.heap.size w (w.alloc (.cells (zeroCal n) 44))) := Lib.hid ((Below.refl _ _).alloc (Nat.le_refl _) _)
  have HM0 : Hid (MadeC w.heap.size n C 0 (w.alloc (.cells (zeroCal n) 44))) := Lib.hid ⟨_, heap_alloc_new w _, zeroCal_size n, fun j hj => by omega⟩
  have HS0 : Hid (w.heap.size < (w.alloc (.cells (zeroCal n) 44)).heap.size) := Lib.hid (by simp)
  go_loopw [17] (fun i wr => ∃ k : Nat, k ≤ n ∧ i = .int .i64 (k : Int) ∧ Hid (Below w.heap.size w wr) ∧ Hid (w.heap.size < wr.heap.size) ∧ Hid (MadeC w.heap.size n C k wr)) (fun i _ => n - (intOf i).toNat)
  case atStart => exact ⟨0, Nat.zero_le _, rfl, HB0, HS0, HM0⟩
  case round =>
    clear HB0 HM0 HS0
    obtain ⟨k, hk, rfl, HB, HSZ, HM⟩ := hrel
    by_cases hlt : k < n
    · obtain ⟨g, rfl, hgl, hat⟩ := HX.out (by omega)
      obtain ⟨c1, u, c2, hu⟩ := hat k hlt
      have huw := hu.keep (K' := fun b => b < w.heap.size) (.below HB.out fun _ h => h) fun _ h => h
      obtain ⟨Au, cu, rfl⟩ := hu.form
      replace c1 := (HB.out.cell (p := ⟨g, k * 2, none⟩) hgl).trans c1
      replace c2 := (HB.out.cell (p := ⟨g, k * 2 + 1, none⟩) hgl).trans c2
      obtain ⟨m, hm⟩ : ∃ m, (C k).n = m := ⟨_, rfl⟩
      obtain ⟨z, hz⟩ : ∃ z, (C k).idx = z := ⟨_, rfl⟩
      rw [hm] at c2 huw
      rw [hz] at c1
      have HU := Lib.hid huw
      have HMM := Lib.hid hm
      have HTR := Lib.hid hz
      clear huw hm hz hu hat
      go_wp2_with fail
      obtain ⟨wv, hwv⟩ : ∃ wv, wv = wr.alloc (.cells #[.int .i64 z, .slice Au m cu] 44) := ⟨_, rfl⟩
      have hbv : Below wr.heap.size wr wv := by rw [hwv]; exact (Below.refl _ _).alloc (Nat.le_refl _) _
      have hv0 : wv.cell? ⟨wr.heap.size, 0, none⟩ = some (.int .i64 z) := by rw [hwv, World.cell?_alloc_new]; rfl
      have hv1 : wv.cell? ⟨wr.heap.size, 1, none⟩ = some (.slice Au m cu) := by rw [hwv, World.cell?_alloc_new]; rfl
      have hvl := World.block_lt_of_cell? wv _ hv0
      have HE : Hid (∀ w', Below wv.heap.size wv w' → w'.cell? ⟨wr.heap.size, 0, none⟩ = some (.int .i64 z) ∧ w'.cell? ⟨wr.heap.size, 1, none⟩ = some (.slice Au m cu)) :=
        Lib.hid fun w' hb => ⟨(hb.cell (p := ⟨wr.heap.size, 0, none⟩) hvl).trans hv0, (hb.cell (p := ⟨wr.heap.size, 1, none⟩) hvl).trans hv1⟩
      have HBV := Lib.hid hbv
      have HCP := Lib.hid fun (w' : World) (hb : Below wv.heap.size wv w') => copy_any ((HU.out.keep (K' := fun b => b < w.heap.size) (.below hbv fun b hb => Nat.lt_of_lt_of_le hb HB.out.size) fun _ h => h).keep (K' := fun b => b < w.heap.size) (.below hb fun b hb => Nat.lt_of_lt_of_le (Nat.lt_of_lt_of_le hb HB.out.size) hbv.size) fun _ h => h) fun b hb' => Nat.lt_of_lt_of_le (Nat.lt_of_lt_of_le (Nat.lt_of_lt_of_le hb' HB.out.size) hbv.size) hb.size
      rw [← hwv]
      clear hwv hbv hv0 hv1 hvl c1 c2
      refine Rest.start (S := fun wz => Below wv.heap.size wv wz) (X := 9) (by kernel_rfl) ?_
      show Rest _ _ _ _ _ _ 10 #[false, false, false, false, false, false, false, false, false, false] _ _
      have hS : Below wv.heap.size wv wv.drew := (Below.refl _ _).drew
      generalize wv.drew = w1 at hS ⊢
      refine Rest.tk 0 22 rfl hS ?_
      refine Rest.tk 1 23 rfl hS ?_
      refine Rest.tk 2 24 rfl hS ?_
      refine Rest.tk 3 25 rfl hS ?_ (hy := by intro w' hSw; obtain ⟨a1, a2⟩ := HE.out w' hSw; go_simp; try with_reducible rfl)
      refine Rest.tk 4 26 rfl hS ?_
      refine Rest.tk 5 27 rfl hS ?_ (hy := by intro w' hSw; obtain ⟨a1, a2⟩ := HE.out w' hSw; go_simp; try with_reducible rfl)
      refine Rest.om 6 28 rfl fun K hK => ?_
      go_simp
      go_at_call 12
      refine (HCP.out w1 hS).mono ?_
      rintro e w2 ⟨u2, rfl, hb2, hu2⟩
      have hS2 := hS.trans (hb2.mono hS.size)
      obtain ⟨A2, c2, rfl⟩ := hu2.form
      have hu3 : WordsF (Nw wr w2) w2 (.slice A2 m c2) (C k).n (C k).f := by
        rw [HMM.out]
        exact hu2.mono fun b hb => ⟨by have := hb.1; have := hS.size; have := HBV.out.size; omega, hb.2⟩
      have hbr2 := HBV.out.trans (hS2.mono HBV.out.size)
      have hm2 := HM.out.step hbr2 hu3 hlt HSZ.out
      rw [HTR.out] at hm2
      have HM2 := Lib.hid hm2
      have HBR2 := Lib.hid hbr2
      have hcx : ∃ cs, w2.heap[w.heap.size]? = some (.cells cs 44 (0, 0)) ∧ cs.size = n * 2 := by
        obtain ⟨cs, h1, h2, _⟩ := HM.out
        exact ⟨cs, (hbr2.block w.heap.size HSZ.out).trans h1, h2⟩
      obtain ⟨cs, hcs, hcz⟩ := hcx
      obtain ⟨x0, z0⟩ : ∃ x, w2.cell? ⟨w.heap.size, k * 2, none⟩ = some x := by rw [cell_of_row w2 _ _ _ _ _ hcs]; exact ⟨_, Array.getElem?_eq_getElem (by omega)⟩
      obtain ⟨x1, z1⟩ : ∃ x, w2.cell? ⟨w.heap.size, k * 2 + 1, none⟩ = some x := by rw [cell_of_row w2 _ _ _ _ _ hcs]; exact ⟨_, Array.getElem?_eq_getElem (by omega)⟩
      have f0 := frozen_of_row w2 w.heap.size (k * 2) _ _ hcs
      have f1 := frozen_of_row w2 w.heap.size (k * 2 + 1) _ _ hcs
      clear hcs hcz hm2 hu3 hu2 hbr2 hb2
      go_wp2_with fail
      refine hK.out _ _ (.inr hS2) ?_
      clear hK K hS
      try simp only [List.setIfInBounds_toArray, List.set]
      refine Rest.tk 7 29 rfl hS2 ?_
      refine Rest.tk 8 30 rfl hS2 ?_
      refine Rest.on 9 rfl fun K hK => ?_
      go_simp
      refine hK.out _ _ (.inl rfl) ?_
      clear hK K z0 z1 f0 f1
      refine Rest.done (by kernel_rfl) ?_ _
      go_wp2
      go_roundw
      case rel =>
        refine ⟨k + 1, by omega, by go_num, Lib.hid ?_, Lib.hid ?_, HM2⟩
        · exact (HB.out.trans (HBR2.out.mono HB.out.size)).setCell (by simp) _ |>.setCell (by simp) _
        · rw [World.size_setCell, World.size_setCell]
          exact Nat.lt_of_lt_of_le HSZ.out HBR2.out.size
      case measure => simp [intOf]; omega
    · obtain rfl : n = k := by omega
      go_wp2
      go_ret
      obtain ⟨cs, h1, h2, h3⟩ := HM.out
      refine ⟨_, rfl, ⟨_, _, rfl, fun _ => ⟨w.heap.size, rfl, fun j hj => ?_⟩⟩, HB.out⟩
      obtain ⟨k1, u, k2, k3⟩ := h3 j hj
      refine ⟨by rw [cell_of_row wr _ _ _ _ _ h1]; exact k1, u, by rw [cell_of_row wr _ _ _ _ _ h1]; exact k2, k3.mono fun b hb => ⟨by have := hb.1; omega, hb.2⟩⟩
end Go.Proofs.Ytlgfappnlnhddaa
