/- A part of the proof. -/
import Derived.Test.YteohmkceapblkaaDoorJ33
namespace Go.Proofs.YteohmkceapblkaaDoor
section
open Go.RowKit
def m00 : Mdl := ⟨[], [], [], [], [], [], [], []⟩
def v00 : Mv := ⟨.slice none 0 0, .slice none 0 0, .slice none 0 0, .slice none 0 0, .slice none 0 0, .slice none 0 0, .slice none 0 0, .slice none 0 0⟩
theorem cellsK_nil (K : Nat → Prop) (w : World) (size : Nat) (f : Nat → Nat → Value → Prop) : CellsK K w (.slice none 0 0) 0 size f := ⟨none, 0, rfl, Nat.le_refl _, Nat.zero_le _, fun _ => rfl, fun h => absurd h (Nat.lt_irrefl _)⟩
theorem at00 (K : Nat → Prop) (w : World) : ModAt K w v00 m00 := ⟨cellsK_nil _ _ _ _, cellsK_nil _ _ _ _, cellsK_nil _ _ _ _, cellsK_nil _ _ _ _, cellsK_nil _ _ _ _, cellsK_nil _ _ _ _, cellsK_nil _ _ _ _, cellsK_nil _ _ _ _⟩
def Two6 (w : World) (g : Nat) : Prop := w.cell? ⟨g, 0, none⟩ = some (.string ⟨#[97]⟩) ∧ w.cell? ⟨g, 1, none⟩ = some (.int .i64 0) ∧ w.cell? ⟨g, 2, none⟩ = some (.int .i64 0) ∧ w.cell? ⟨g, 3, none⟩ = some (.string ⟨#[97]⟩) ∧ w.cell? ⟨g, 4, none⟩ = some (.int .i64 0) ∧ w.cell? ⟨g, 5, none⟩ = some (.int .i64 0)
theorem Two6.below {w w' : World} {g : Nat} (h : Two6 w g) (hb : Below w.heap.size w w') : Two6 w' g := by
  have hg := World.block_lt_of_cell? _ _ h.1
  have hc : ∀ i, w'.cell? ⟨g, i, none⟩ = w.cell? ⟨g, i, none⟩ := fun i => hb.cell (p := ⟨g, i, none⟩) hg
  unfold Two6
  simp only [hc]
  exact h
end
section
open Go.RowKit
def cArr (a o : Int) : Array Value := #[.int .i64 a, .int .i64 0, .int .i64 0, .int .u64 0, .slice none 0 0, .int .i64 o, .int .i64 0, .int .i64 0, .int .u64 0, .slice none 0 0, .int .i64 26, .int .i64 0, .int .i64 0, .int .u64 0, .slice none 0 0, .int .i64 11, .int .i64 0, .int .i64 0, .int .u64 0, .slice none 0 0]
structure Dm (w : World) (gt gc gf : Nat) (a o : Int) : Prop where
  t : w.heap[gt]? = some (.cells #[.slice none 0 0, .slice none 0 0] 26 (0, 0))
  c : w.heap[gc]? = some (.cells (cArr a o) 30 (0, 0))
  f : w.heap[gf]? = some (.cells #[.int .i64 0, .slice none 0 0, .slice (some ⟨gc, 0, none⟩) 4 4] 33 (0, 0))
def vDead (gt gf : Nat) : Mv := ⟨.slice (some ⟨gt, 0, none⟩) 1 1, .slice none 0 0, .slice (some ⟨gf, 0, none⟩) 1 1, .slice none 0 0, .slice none 0 0, .slice none 0 0, .slice none 0 0, .slice none 0 0⟩
theorem heap_lt {w : World} {g : Nat} {o : Obj} (h : w.heap[g]? = some o) : g < w.heap.size := (Array.getElem?_eq_some_iff.1 h).1
theorem Dm.below {w w' : World} {gt gc gf : Nat} {a o : Int} (h : Dm w gt gc gf a o) (hb : Below w.heap.size w w') : Dm w' gt gc gf a o :=
  ⟨(hb.block _ (heap_lt h.t)).trans h.t, (hb.block _ (heap_lt h.c)).trans h.c, (hb.block _ (heap_lt h.f)).trans h.f⟩
theorem Dm.new (w : World) (a o : Int) : Dm (((w.alloc (.cells #[.slice none 0 0, .slice none 0 0] 26)).alloc (.cells (cArr a o) 30)).alloc (.cells #[.int .i64 0, .slice none 0 0, .slice (some ⟨w.heap.size + 1, 0, none⟩) 4 4] 33)) w.heap.size (w.heap.size + 1) (w.heap.size + 2) a o := by
  have h1 := heap_new w (.cells #[.slice none 0 0, .slice none 0 0] 26)
  have b1 := below_new (Below.refl (w.alloc (.cells #[.slice none 0 0, .slice none 0 0] 26)).heap.size (w.alloc (.cells #[.slice none 0 0, .slice none 0 0] 26))) (.cells (cArr a o) 30)
  have h2 := heap_new (w.alloc (.cells #[.slice none 0 0, .slice none 0 0] 26)) (.cells (cArr a o) 30)
  have b2 := below_new (Below.refl ((w.alloc (.cells #[.slice none 0 0, .slice none 0 0] 26)).alloc (.cells (cArr a o) 30)).heap.size ((w.alloc (.cells #[.slice none 0 0, .slice none 0 0] 26)).alloc (.cells (cArr a o) 30))) (.cells #[.int .i64 0, .slice none 0 0, .slice (some ⟨w.heap.size + 1, 0, none⟩) 4 4] 33)
  have h3 := heap_new ((w.alloc (.cells #[.slice none 0 0, .slice none 0 0] 26)).alloc (.cells (cArr a o) 30)) (.cells #[.int .i64 0, .slice none 0 0, .slice (some ⟨w.heap.size + 1, 0, none⟩) 4 4] 33)
  rw [alloc_size] at h2
  rw [alloc_size, alloc_size] at h3
  exact ⟨(b2.block _ (heap_lt ((b1.block _ (heap_lt h1)).trans h1))).trans ((b1.block _ (heap_lt h1)).trans h1), (b2.block _ (heap_lt h2)).trans h2, h3⟩
theorem Dm.at_ {w : World} {gt gc gf : Nat} {a o : Int} (h : Dm w gt gc gf a o) : ModAt (fun k => k < w.heap.size) w (vDead gt gf) (mDead a o) := by
  have ht := fun j => cl_of h.t j
  have hc := fun j => cl_of h.c j
  have hf := fun j => cl_of h.f j
  refine ⟨?_, cellsK_nil _ _ _ _, ?_, cellsK_nil _ _ _ _, cellsK_nil _ _ _ _, cellsK_nil _ _ _ _, cellsK_nil _ _ _ _, cellsK_nil _ _ _ _⟩
  · refine ⟨_, 1, rfl, Nat.le_refl _, by unfold maxLen; omega, (fun h => by cases h), fun _ => ⟨gt, 0, rfl, heap_lt h.t, fun j i hj hi => ?_⟩⟩
    have hj2 : j < 1 := hj
    rcases (show j = 0 ∧ (i = 0 ∨ i = 1) by omega) with ⟨rfl, rfl | rfl⟩
    · exact ⟨_, ht 0, IntsK.nil _ _⟩
    · exact ⟨_, ht 1, IntsK.nil _ _⟩
  · refine ⟨_, 1, rfl, Nat.le_refl _, by unfold maxLen; omega, (fun h => by cases h), fun _ => ⟨gf, 0, rfl, heap_lt h.f, fun j i hj hi => ?_⟩⟩
    have hj2 : j < 1 := hj
    rcases (show j = 0 ∧ (i = 0 ∨ i = 1 ∨ i = 2) by omega) with ⟨rfl, rfl | rfl | rfl⟩
    · exact ⟨_, hf 0, rfl⟩
    · exact ⟨_, hf 1, IntsK.nil _ _⟩
    · refine ⟨_, hf 2, ?_⟩
      refine ⟨_, 4, rfl, Nat.le_refl _, by unfold maxLen; omega, (fun h => by cases h), fun _ => ⟨gc, 0, rfl, heap_lt h.c, fun j i hj hi => ?_⟩⟩
      have hj4 : j < 4 := hj
      have wz : wordZ 0 := ⟨by omega, by omega⟩
      have fz : fitN 0 := by unfold fitN; omega
      rcases (show (j = 0 ∨ j = 1 ∨ j = 2 ∨ j = 3) ∧ (i = 0 ∨ i = 1 ∨ i = 2 ∨ i = 3 ∨ i = 4) by omega) with ⟨rfl | rfl | rfl | rfl, rfl | rfl | rfl | rfl | rfl⟩
      · exact ⟨_, hc 0, rfl⟩
      · exact ⟨_, hc 1, rfl⟩
      · exact ⟨_, hc 2, rfl⟩
      · exact ⟨_, hc 3, rfl, wz⟩
      · exact ⟨_, hc 4, IntsK.nil _ _, fz⟩
      · exact ⟨_, hc 5, rfl⟩
      · exact ⟨_, hc 6, rfl⟩
      · exact ⟨_, hc 7, rfl⟩
      · exact ⟨_, hc 8, rfl, wz⟩
      · exact ⟨_, hc 9, IntsK.nil _ _, fz⟩
      · exact ⟨_, hc 10, rfl⟩
      · exact ⟨_, hc 11, rfl⟩
      · exact ⟨_, hc 12, rfl⟩
      · exact ⟨_, hc 13, rfl, wz⟩
      · exact ⟨_, hc 14, IntsK.nil _ _, fz⟩
      · exact ⟨_, hc 15, rfl⟩
      · exact ⟨_, hc 16, rfl⟩
      · exact ⟨_, hc 17, rfl⟩
      · exact ⟨_, hc 18, rfl, wz⟩
      · exact ⟨_, hc 19, IntsK.nil _ _, fz⟩
theorem simple_nums {o : Int} (h : 37 ≤ o ∧ o ≤ 255 ∧ o ≠ 63 ∧ o ≠ 64) : simpleI (insL o) := by
  refine .inl ⟨?_, ?_, ?_⟩
  · show restE o
    unfold restE; omega
  · show restF o
    unfold restF; omega
  · show restG o
    unfold restG; omega
theorem simple_dead {a o : Int} (ha : a = 0 ∨ a = 1 ∨ a = 65) (ho : 69 ≤ o ∧ o ≤ 196) : ∀ f ∈ (mDead a o).funs, ∀ i ∈ f.code, simpleI i := by
  intro f hf i hi
  have hf : f ∈ [(⟨0, [], [insL a, insL o, insL 26, insL 11]⟩ : Fnc)] := hf
  rw [List.mem_singleton] at hf
  subst hf
  have hi : i ∈ [insL a, insL o, insL 26, insL 11] := hi
  simp only [List.mem_cons, List.not_mem_nil, or_false] at hi
  rcases hi with rfl | rfl | rfl | rfl
  · rcases ha with rfl | rfl | rfl
    · exact .inr (.inl rfl)
    · refine .inl ⟨?_, ?_, ?_⟩
      · show restE 1
        unfold restE; omega
      · show restF 1
        unfold restF; omega
      · show restG 1
        unfold restG; omega
    · exact simple_nums (by omega)
  · exact simple_nums (by omega)
  · exact .inr (.inr (.inr rfl))
  · exact .inr (.inr (.inl rfl))
theorem few_dead (a o : Int) : Few (mDead a o) := by unfold Few mDead; simp
theorem short_dead (a o : Int) : Short (mDead a o) := by
  unfold Short mDead
  refine ⟨by simp, by simp, by simp, fun t ht => ?_, fun f hf => ?_⟩
  · rw [List.mem_singleton] at ht; subst ht; exact ⟨by simp, by simp⟩
  · rw [List.mem_singleton] at hf; subst hf; simp
theorem types_dead (a o : Int) : ∀ t ∈ (mDead a o).types, t.1.length ≤ 8 ∧ t.2.length ≤ 8 := fun t ht => by
  have ht : t ∈ [(([] : List Int), ([] : List Int))] := ht
  rw [List.mem_singleton] at ht; subst ht; exact ⟨by simp, by simp⟩
theorem func_dead {w : World} {gt gc gf : Nat} {a o : Int} (h : Dm w gt gc gf a o) (ha : a = 0 ∨ a = 1 ∨ a = 65) (ho : 69 ≤ o ∧ o ≤ 196) (prof : Int) (r : Int × Int) (hr : funcC (mDead a o) 0 prof = r) :
    Calls Tryd.prog 6 #[.agg (vDead gt gf).cells, .int .i64 0, .int .i64 prof] w (FuncPost r w) := by
  have h1 := func_ok steps_simple w _ _ h.at_ (short_dead a o) (types_dead a o) 0 (by show 0 < 1; omega) ([], []) rfl prof (by show 4 ≤ 65536; omega) (simple_dead ha ho _ (by show _ ∈ [_]; exact List.mem_singleton.2 rfl))
  rw [← hr]
  exact h1
theorem module_dead {w : World} {gt gc gf : Nat} {a o : Int} (h : Dm w gt gc gf a o) (ht : Tab w) (ha : a = 0 ∨ a = 1 ∨ a = 65) (ho : 69 ≤ o ∧ o ≤ 196) (prof z : Int) (hr : moduleC (mDead a o) prof = z) :
    Calls Tryd.prog 7 #[.agg (vDead gt gf).cells, .int .i64 prof] w (ModlPost z w) := by
  have h1 := module_ok steps_simple w ht _ _ h.at_ (few_dead a o) prof (simple_dead ha ho)
  rw [← hr]
  exact h1
theorem module_none (w : World) (ht : Tab w) : Calls Tryd.prog 7 #[.agg v00.cells, .int .i64 1] w (ModlPost 0 w) := by
  have h1 := module_ok steps_simple w ht v00 m00 (at00 _ _) (by unfold Few m00; simp) 1 (fun f hf => by cases hf)
  rw [show moduleC m00 1 = 0 from dead_known.2.2.2] at h1
  exact h1
end
section
open Go.RowKit
theorem Dm.set0 {w : World} {gt gc gf : Nat} {a o : Int} (h : Dm w gt gc gf a o) (h1 : gt ≠ gc) (h2 : gf ≠ gc) : Dm (((((w.setCell ⟨gc, 0, none⟩ (.int .i64 0)).setCell ⟨gc, 1, none⟩ (.int .i64 0)).setCell ⟨gc, 2, none⟩ (.int .i64 0)).setCell ⟨gc, 3, none⟩ (.int .u64 0)).setCell ⟨gc, 4, none⟩ (.slice none 0 0)) gt gc gf 0 o := by
  have hk := keeps5 w gc (.int .i64 0) (.int .i64 0) (.int .i64 0) (.int .u64 0) (.slice none 0 0)
  refine ⟨(hk.block gt h1).trans h.t, ?_, (hk.block gf h2).trans h.f⟩
  have s1 := heap_setCell_at w gc 0 _ _ (.int .i64 0) h.c
  have s2 := heap_setCell_at _ gc 1 _ _ (.int .i64 0) s1
  have s3 := heap_setCell_at _ gc 2 _ _ (.int .i64 0) s2
  have s4 := heap_setCell_at _ gc 3 _ _ (.int .u64 0) s3
  have s5 := heap_setCell_at _ gc 4 _ _ (.slice none 0 0) s4
  exact s5
set_option maxRecDepth 100000 in
set_option maxHeartbeats 4000000 in
theorem known10_any (w : World) (ht : Tab w) : Calls Tryd.prog 8 #[] w (BoolPost true w) := by
  have ho : (69 : Int) ≤ 106 ∧ (106 : Int) ≤ 196 := ⟨by decide, by decide⟩
  obtain ⟨W3, hW3⟩ : ∃ W3, W3 = ((w.alloc (.cells #[.slice none 0 0, .slice none 0 0] 26)).alloc (.cells #[.int .i64 65, .int .i64 0, .int .i64 0, .int .u64 0, .slice none 0 0, .int .i64 106, .int .i64 0, .int .i64 0, .int .u64 0, .slice none 0 0, .int .i64 26, .int .i64 0, .int .i64 0, .int .u64 0, .slice none 0 0, .int .i64 11, .int .i64 0, .int .i64 0, .int .u64 0, .slice none 0 0] 30)).alloc (.cells #[.int .i64 0, .slice none 0 0, .slice (some ⟨w.heap.size + 1, 0, none⟩) 4 4] 33) := ⟨_, rfl⟩
  have hdm : Dm W3 w.heap.size (w.heap.size + 1) (w.heap.size + 2) 65 106 := by rw [hW3]; exact Dm.new w 65 106
  have hzm : W3.heap.size = w.heap.size + 3 := by rw [hW3]; simp
  have hbm3 : Below w.heap.size w W3 := by rw [hW3]; exact below_new (below_new (below_new (Below.refl _ _) _) _) _
  obtain ⟨W, hW⟩ : ∃ W4, W4 = W3.alloc (.cells #[.slice (some ⟨w.heap.size, 0, none⟩) 1 1, .slice none 0 0, .slice (some ⟨w.heap.size + 2, 0, none⟩) 1 1, .slice none 0 0, .slice none 0 0, .slice none 0 0, .slice none 0 0, .slice none 0 0] 42) := ⟨_, rfl⟩
  have HXm : Hid (W = ((((w.alloc (.cells #[.slice none 0 0, .slice none 0 0] 26)).alloc (.cells #[.int .i64 65, .int .i64 0, .int .i64 0, .int .u64 0, .slice none 0 0, .int .i64 106, .int .i64 0, .int .i64 0, .int .u64 0, .slice none 0 0, .int .i64 26, .int .i64 0, .int .i64 0, .int .u64 0, .slice none 0 0, .int .i64 11, .int .i64 0, .int .i64 0, .int .u64 0, .slice none 0 0] 30)).alloc (.cells #[.int .i64 0, .slice none 0 0, .slice (some ⟨w.heap.size + 1, 0, none⟩) 4 4] 33)).alloc (.cells #[.slice (some ⟨w.heap.size, 0, none⟩) 1 1, .slice none 0 0, .slice (some ⟨w.heap.size + 2, 0, none⟩) 1 1, .slice none 0 0, .slice none 0 0, .slice none 0 0, .slice none 0 0, .slice none 0 0] 42))) := Lib.hid (by rw [hW, hW3])
  have HBm : Hid (Below w.heap.size w W) := Lib.hid (by rw [hW]; exact below_new hbm3 _)
  have HDm : Hid (∀ wz, Below W.heap.size W wz → Dm wz w.heap.size (w.heap.size + 1) (w.heap.size + 2) 65 106) := Lib.hid fun wz hz => (hdm.below (by rw [hW]; exact below_new (Below.refl _ _) _)).below hz
  have HQm : Hid (∀ wz, Below W.heap.size W wz → Box8 wz (w.heap.size + 3) (.slice (some ⟨w.heap.size, 0, none⟩) 1 1) (.slice none 0 0) (.slice (some ⟨w.heap.size + 2, 0, none⟩) 1 1) (.slice none 0 0) (.slice none 0 0) (.slice none 0 0) (.slice none 0 0) (.slice none 0 0)) := Lib.hid fun wz hz => by rw [← hzm]; rw [hW] at hz; exact box8_new W3 _ _ _ _ _ _ _ _ hz
  clear hW hdm hbm3 hzm hW3
  have HF := Lib.hid (fun wz (hb : Below W.heap.size W wz) => func_dead (HDm.out wz hb) (.inr (.inr rfl)) ho 2 (1, 14) dead_known.1)
  have HM0 := Lib.hid (fun wz (hb : Below w.heap.size w wz) => module_none wz (ht.below hb))
  have HM1 := Lib.hid (fun wz gt gc gf (hb : Below w.heap.size w wz) (hd : Dm wz gt gc gf 0 106) => module_dead hd (ht.below hb) (.inl rfl) ho 1 0 dead_known.2.1)
  have HM3 := Lib.hid (fun wz gt gc gf (hb : Below w.heap.size w wz) (hd : Dm wz gt gc gf 0 106) => module_dead hd (ht.below hb) (.inl rfl) ho 3 1 dead_known.2.2.1)
  unfold v00 at HM0
  unfold vDead at HF HM1 HM3
  unfold FuncPost at HF
  unfold ModlPost at HM0 HM1 HM3
  simp only [Mv.cells] at HF HM0 HM1 HM3
  clear ht ho
  go_enter Tryd.func8, Tryd.ntmps8
  go_upto_region 2 with (fail)
  rw [← HXm.out]
  obtain ⟨b0, b1, b2, b3, b4, b5, b6, b7⟩ := HQm.out W (Below.refl _ _)
  go_upto_region 3 with (first | (go_at_call 6; refine (HF.out W (Below.refl _ _)).mono ?_; rintro e w1 ⟨rfl, hb1⟩))
  clear b0 b1 b2 b3 b4 b5 b6 b7
  obtain ⟨b0, b1, b2, b3, b4, b5, b6, b7⟩ := HQm.out w1 hb1
  have hd1 := HDm.out w1 hb1
  have HQ1 := Lib.hid (HQm.out w1 hb1)
  have f2 := cl_of hd1.f 2
  simp only [List.getElem?_toArray, List.getElem?_cons_zero, List.getElem?_cons_succ] at f2
  have z0 := fz_of hd1.c 0
  have z1 := fz_of hd1.c 1
  have z2 := fz_of hd1.c 2
  have z3 := fz_of hd1.c 3
  have z4 := fz_of hd1.c 4
  have g0 := cl_of hd1.c 0
  have g1 := cl_of hd1.c 1
  have g2 := cl_of hd1.c 2
  have g3 := cl_of hd1.c 3
  have g4 := cl_of hd1.c 4
  unfold cArr at g0 g1 g2 g3 g4
  simp only [List.getElem?_toArray, List.getElem?_cons_zero, List.getElem?_cons_succ] at g0 g1 g2 g3 g4
  obtain ⟨W5, hW5⟩ : ∃ W5, W5 = (((((w1.setCell ⟨w.heap.size + 1, 0, none⟩ (.int .i64 0)).setCell ⟨w.heap.size + 1, 1, none⟩ (.int .i64 0)).setCell ⟨w.heap.size + 1, 2, none⟩ (.int .i64 0)).setCell ⟨w.heap.size + 1, 3, none⟩ (.int .u64 0)).setCell ⟨w.heap.size + 1, 4, none⟩ (.slice none 0 0)) := ⟨_, rfl⟩
  have hd5 : Dm W5 w.heap.size (w.heap.size + 1) (w.heap.size + 2) 0 106 := by rw [hW5]; exact hd1.set0 (by omega) (by omega)
  have hk5 := keeps5 w1 (w.heap.size + 1) (.int .i64 0) (.int .i64 0) (.int .i64 0) (.int .u64 0) (.slice none 0 0)
  rw [← hW5] at hk5
  have hb5 : Below w.heap.size w W5 := (HBm.out.trans (hb1.mono HBm.out.size)).trans (hk5.to_below fun k hk => by omega)
  have hq5 : Box8 W5 (w.heap.size + 3) (.slice (some ⟨w.heap.size, 0, none⟩) 1 1) (.slice none 0 0) (.slice (some ⟨w.heap.size + 2, 0, none⟩) 1 1) (.slice none 0 0) (.slice none 0 0) (.slice none 0 0) (.slice none 0 0) (.slice none 0 0) := by
    have hc : ∀ i, W5.cell? ⟨w.heap.size + 3, i, none⟩ = w1.cell? ⟨w.heap.size + 3, i, none⟩ := fun i => hk5.cell (p := ⟨w.heap.size + 3, i, none⟩) (by show w.heap.size + 3 ≠ w.heap.size + 1; omega)
    have h := HQ1.out
    unfold Box8 at h ⊢
    simp only [hc]
    exact h
  have HB5 := Lib.hid hb5
  have HW5 := Lib.hid hW5
  have HD5 := Lib.hid (fun wz (hb : Below W5.heap.size W5 wz) => hd5.below hb)
  have HQ5 : Hid (∀ wz, Below W5.heap.size W5 wz → Box8 wz (w.heap.size + 3) (.slice (some ⟨w.heap.size, 0, none⟩) 1 1) (.slice none 0 0) (.slice (some ⟨w.heap.size + 2, 0, none⟩) 1 1) (.slice none 0 0) (.slice none 0 0) (.slice none 0 0) (.slice none 0 0) (.slice none 0 0)) := Lib.hid fun wz hz => hq5.below (World.block_lt_of_cell? _ _ hq5.1) hz
  clear hd1 hb1 hW5 hd5 hk5 hb5 hq5
  go_upto_region 4 with (fail)
  rw [← HW5.out]
  clear b0 b1 b2 b3 b4 b5 b6 b7 f2 z0 z1 z2 z3 z4 g0 g1 g2 g3 g4
  go_wp2_with (first | (go_at_call 7; (with_reducible refine (HM0.out _ HB5.out).mono ?_); rintro e w6 ⟨rfl, hb6⟩; have HB6 := Lib.hid hb6; obtain ⟨b0, b1, b2, b3, b4, b5, b6, b7⟩ := HQ5.out w6 hb6; clear hb6) | (go_at_call 7; (with_reducible refine (HM1.out _ _ _ _ (below_then HB5.out HB6.out) (HD5.out _ HB6.out)).mono ?_); rintro e w7 ⟨rfl, hb7⟩; have HB7 := Lib.hid (below_then HB6.out hb7); obtain ⟨b0, b1, b2, b3, b4, b5, b6, b7⟩ := HQ5.out w7 HB7.out; clear hb7) | (go_at_call 7; (with_reducible refine (HM3.out _ _ _ _ (below_then HB5.out HB7.out) (HD5.out _ HB7.out)).mono ?_); rintro e w8 ⟨rfl, hb8⟩; have HB8 := Lib.hid (below_then HB7.out hb8); clear hb8))
  go_ret
  exact ⟨rfl, below_then HB5.out HB8.out⟩
end
section
open Go.RowKit
def RowNew (w w' : World) (v : Value) (xs : List Int) : Prop := RowOf w' v xs ∧ ∀ g, v.ownBlock = some g → w.heap.size ≤ g
theorem RowNew.below {w w1 w' : World} {v : Value} {xs : List Int} (h : RowNew w w1 v xs) (hb : Below w1.heap.size w1 w') : RowOf w' v xs := RowOf.below h.1 hb
theorem RowNew.slice {w w' : World} {v : Value} {xs : List Int} (h : RowNew w w' v xs) : ∃ (ao : Option Addr) (n c : Nat), v = .slice ao n c := RowOf.slice h.1
def RNumPost (op : Int) (w : World) (e : Ending) (w' : World) : Prop :=
  ∃ p q : Value, e = .returned (.tuple #[p, q, .bool (numB op)]) ∧ RowNew w w' p (paramsB op) ∧ RowNew w w' q (resultsB op) ∧ Below w.heap.size w w'
theorem rnum_end (op : Int) (n : Nat) (hn : 0 < n) (hm : n ≤ 2) (a b : Int) (w : World) (h : numB op = true) (hs : sigB op = (n, a, b)) :
    RNumPost op w (.returned (.tuple #[.slice (some ⟨w.heap.size, 0, none⟩) n n, .slice (some ⟨w.heap.size + 1, 0, none⟩) 1 1, .bool true]))
      ((w.alloc (.cells ((List.replicate n a).map (Value.int .i64)).toArray 3)).alloc (.cells #[.int .i64 b] 3)) := by
  have h1 : paramsB op = List.replicate n a := by unfold paramsB; rw [h, hs]; rfl
  have h2 : resultsB op = [b] := by unfold resultsB; rw [h, hs]; rfl
  refine ⟨_, _, by rw [h], ?_, ?_, ((Below.refl _ _).alloc (Nat.le_refl _) _).alloc (by simp) _⟩
  · rw [h1]
    refine ⟨.inr ⟨w.heap.size, n, by simp, by simp; omega, by simpa using hn, by simp; omega, fun j hj => ?_⟩, fun g hg => by obtain rfl := Option.some.inj hg; exact Nat.le_refl _⟩
    rw [World.cell?_alloc_lt _ _ _ (by simp)]
    exact new_cells w 3 (List.replicate n a) j hj
  · rw [h2]
    refine ⟨.inr ⟨w.heap.size + 1, 1, rfl, by simp, by simp, by simp, fun j hj => ?_⟩, fun g hg => by obtain rfl := Option.some.inj hg; exact Nat.le_succ _⟩
    have nc := new_cells (w.alloc (.cells ((List.replicate n a).map (Value.int .i64)).toArray 3)) 3 [b] j hj
    rw [show (w.alloc (.cells ((List.replicate n a).map (Value.int .i64)).toArray 3)).heap.size = w.heap.size + 1 by simp] at nc
    exact nc
theorem rnum_end1 (op a b : Int) (w : World) (h : numB op = true) (hs : sigB op = (1, a, b)) :
    RNumPost op w (.returned (.tuple #[.slice (some ⟨w.heap.size, 0, none⟩) 1 1, .slice (some ⟨w.heap.size + 1, 0, none⟩) 1 1, .bool true]))
      ((w.alloc (.cells #[.int .i64 a] 3)).alloc (.cells #[.int .i64 b] 3)) := rnum_end op 1 (by omega) (by omega) a b w h hs
theorem rnum_end2 (op a b : Int) (w : World) (h : numB op = true) (hs : sigB op = (2, a, b)) :
    RNumPost op w (.returned (.tuple #[.slice (some ⟨w.heap.size, 0, none⟩) 2 2, .slice (some ⟨w.heap.size + 1, 0, none⟩) 1 1, .bool true]))
      ((w.alloc (.cells #[.int .i64 a, .int .i64 a] 3)).alloc (.cells #[.int .i64 b] 3)) := rnum_end op 2 (by omega) (by omega) a b w h hs
set_option maxRecDepth 100000 in
theorem rnum_no (op : Int) (h : numB op = false) (w : World) : Calls Tryd.prog 4 #[.int .i64 op] w (RNumPost op w) := by
  have h1 : paramsB op = [] := by unfold paramsB; rw [h]; rfl
  have h2 : resultsB op = [] := by unfold resultsB; rw [h]; rfl
  have e : isB op = false ∧ isF op = false := by simpa [numB] using h
  have C := fun w => ri_any op w
  have D := fun w => rif_any op w
  rw [e.1] at C
  rw [e.2] at D
  have HC := Lib.hid C
  have HD := Lib.hid D
  have HH := Lib.hid h
  have H1 := Lib.hid h1
  have H2 := Lib.hid h2
  clear C D h h1 h2 e
  go_enter Tryd.func4, Tryd.ntmps4
  go_wp2_with (first | (go_at_call 9; refine (HC.out _).mono ?_; rintro e w' ⟨rfl, rfl⟩) | (go_at_call 10; refine (HD.out _).mono ?_; rintro e w' ⟨rfl, rfl⟩))
  go_ret3
  exact ⟨_, _, by rw [HH.out]; rfl, ⟨.inl ⟨rfl, H1.out⟩, fun g h => by cases h⟩, ⟨.inl ⟨rfl, H2.out⟩, fun g h => by cases h⟩, Below.refl _ _⟩
end
end Go.Proofs.YteohmkceapblkaaDoor
