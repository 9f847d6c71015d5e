/- A part of the proof. -/
import Derived.Test.YteohmkceapblkaaDoorJ30
import Derived.Test.YteohmkceapblkaaDoorJ31
import Derived.Test.YteohmkceapblkaaDoorJ32
namespace Go.Proofs.YteohmkceapblkaaDoor
open Go.RowKit
theorem right_parts {m : Mdl} (h : rightB m = 0) : fitsB m = true ∧ partsB m = true := by
  unfold rightB at h
  cases h1 : fitsB m with
  | false => rw [h1] at h; cases h
  | true =>
    cases h2 : partsB m with
    | false => rw [h1, h2] at h; cases h
    | true => exact ⟨rfl, rfl⟩
theorem kindsB_len {l : List Int} {n : Nat} (h : kindsB l (n : Int) = true) : l.length ≤ n := by
  unfold kindsB at h
  rw [Bool.and_eq_true] at h
  have := of_decide_eq_true h.1
  omega
theorem right_types {m : Mdl} (h : rightB m = 0) : ∀ t ∈ m.types, t.1.length ≤ 8 ∧ t.2.length ≤ 8 := fun t ht => by
  have h1 := (right_parts h).2
  unfold partsB at h1
  simp only [Bool.and_eq_true] at h1
  have h2 := List.all_eq_true.1 h1.1.1.1.1.1.1.1 t ht
  unfold typB at h2
  rw [Bool.and_eq_true] at h2
  exact ⟨kindsB_len h2.1, kindsB_len h2.2⟩
theorem right_funs {m : Mdl} (h : rightB m = 0) : ∀ f ∈ m.funs, f.loc.length ≤ 256 ∧ f.code.length ≤ 65536 := fun f hf => by
  have h1 := (right_parts h).2
  unfold partsB at h1
  simp only [Bool.and_eq_true] at h1
  have h2 := List.all_eq_true.1 h1.1.1.1.1.1.2 f hf
  unfold fncB codeB at h2
  simp only [Bool.and_eq_true] at h2
  exact ⟨kindsB_len h2.1.2, of_decide_eq_true h2.2.1⟩
theorem right_short {m : Mdl} (h : rightB m = 0) : Short m := by
  have h1 := (right_parts h).1
  unfold fitsB at h1
  simp only [Bool.and_eq_true, decide_eq_true_eq] at h1
  refine ⟨by omega, by omega, by omega, fun t ht => ?_, fun f hf => ?_⟩
  · have := right_types h t ht; omega
  · have := (right_funs h f hf).1; omega
def ModlPost (z : Int) (w : World) (e : Ending) (w' : World) : Prop := e = .returned (.int .i64 z) ∧ Below w.heap.size w w'
set_option maxRecDepth 100000 in
set_option maxHeartbeats 8000000 in
theorem module_ok {good : Ins → Prop} (HS : StepsOk good) (w : World) (htab : Tab w) (v : Mv) (m : Mdl) (h : ModAt (fun k => k < w.heap.size) w v m) (hw : Few m) (prof : Int) (hgd : ∀ f ∈ m.funs, ∀ i ∈ f.code, good i) :
    Calls Tryd.prog 7 #[.agg v.cells, .int .i64 prof] w (ModlPost (moduleC m prof) w) := by
  have HR := Lib.hid (fun wz (hb : Below w.heap.size w wz) => right_mod wz (htab.below hb) v m (h.keep (Keeps.below hb fun _ hk => hk) fun _ hk => Nat.lt_of_lt_of_le hk hb.size) hw)
  have HMA := Lib.hid (fun wz (hb : Below w.heap.size w wz) (hr : rightB m = 0) => matched_any wz v.m2 m.funs ((h.keep (Keeps.below hb fun _ hk => hk) fun _ hk => Nat.lt_of_lt_of_le hk hb.size).funs) (fun f hf => Nat.le_trans (right_funs hr f hf).2 (by decide)))
  have HT := Lib.hid (fun wz (hb : Below w.heap.size w wz) => ctypesExist_any wz v m (h.keep (Keeps.below hb fun _ hk => hk) fun _ hk => Nat.lt_of_lt_of_le hk hb.size))
  have HE := Lib.hid (fun wz (hb : Below w.heap.size w wz) (hr : rightB m = 0) => cexportsExist_any wz v m (h.keep (Keeps.below hb fun _ hk => hk) fun _ hk => Nat.lt_of_lt_of_le hk hb.size) (right_short hr))
  have HD := Lib.hid (fun wz (hb : Below w.heap.size w wz) => cmemsExist_any wz v m (h.keep (Keeps.below hb fun _ hk => hk) fun _ hk => Nat.lt_of_lt_of_le hk hb.size))
  have HP := Lib.hid (fun wz (hb : Below w.heap.size w wz) (he : m.exps.all (expIn m) = true) => cplain_any wz v m (h.keep (Keeps.below hb fun _ hk => hk) fun _ hk => Nat.lt_of_lt_of_le hk hb.size) he)
  have HFS := Lib.hid (fun wz (hb : Below w.heap.size w wz) (hr : rightB m = 0) (htc : typesC m = true) => funcs_ok HS wz v m (h.keep (Keeps.below hb fun _ hk => hk) fun _ hk => Nat.lt_of_lt_of_le hk hb.size) (right_short hr) (right_types hr) htc prof (fun f hf => ⟨(right_funs hr f hf).2, hgd f hf⟩))
  unfold RightPost BoolPost at *
  clear htab hw hgd
  obtain ⟨A0, c0, A1, c1, A2, c2, A3, c3, A4, c4, A5, c5, A6, c6, A7, c7, rfl⟩ := mod_slices h
  simp only [Mv.cells] at HR HMA HT HE HD HP HFS ⊢
  clear h
  obtain ⟨n0, hn0⟩ : ∃ n, m.types.length = n := ⟨_, rfl⟩
  obtain ⟨n1, hn1⟩ : ∃ n, m.imps.length = n := ⟨_, rfl⟩
  obtain ⟨n2, hn2⟩ : ∃ n, m.funs.length = n := ⟨_, rfl⟩
  obtain ⟨n3, hn3⟩ : ∃ n, m.mems.length = n := ⟨_, rfl⟩
  obtain ⟨n4, hn4⟩ : ∃ n, m.globs.length = n := ⟨_, rfl⟩
  obtain ⟨n5, hn5⟩ : ∃ n, m.exps.length = n := ⟨_, rfl⟩
  obtain ⟨n6, hn6⟩ : ∃ n, m.datas.length = n := ⟨_, rfl⟩
  obtain ⟨n7, hn7⟩ : ∃ n, m.cus.length = n := ⟨_, rfl⟩
  have HN2 := Lib.hid hn2
  have HN3 := Lib.hid hn3
  rw [hn0, hn1, hn2, hn3, hn4, hn5, hn6, hn7] at HR HT HE HD HP HFS ⊢
  rw [hn2] at HMA
  obtain ⟨W, hW⟩ : ∃ W, W = w.alloc (.cells #[.slice A0 n0 c0, .slice A1 n1 c1, .slice A2 n2 c2, .slice A3 n3 c3, .slice A4 n4 c4, .slice A5 n5 c5, .slice A6 n6 c6, .slice A7 n7 c7] 42) := ⟨_, rfl⟩
  have hbw : Below w.heap.size w W := hW ▸ (Below.refl _ _).alloc (Nat.le_refl _) _
  have HBW := Lib.hid hbw
  have HB8 : Hid (∀ wz, Below W.heap.size W wz → Box8 wz w.heap.size (.slice A0 n0 c0) (.slice A1 n1 c1) (.slice A2 n2 c2) (.slice A3 n3 c3) (.slice A4 n4 c4) (.slice A5 n5 c5) (.slice A6 n6 c6) (.slice A7 n7 c7)) := Lib.hid fun wz hz => by rw [hW] at hz; exact box8_new w _ _ _ _ _ _ _ _ hz
  have HW := Lib.hid hW
  obtain ⟨b0, b1, b2, b3, b4, b5, b6, b7⟩ := HB8.out W (Below.refl _ _)
  clear hbw hW hn0 hn1 hn2 hn3 hn4 hn5 hn6 hn7
  obtain ⟨z, hV⟩ : ∃ z, moduleC m prof = z := ⟨_, rfl⟩
  have HV0 := Lib.hid hV
  unfold moduleC at hV
  rw [HN3.out] at hV
  rw [HV0.out]
  clear HV0
  by_cases hp : prof ≠ 1 ∧ prof ≠ 2
  · rw [if_pos hp] at hV
    have HV := Lib.hid hV.symm
    have p1 : (prof != 1) = true := by simpa using hp.1
    have p2 : (prof != 2) = true := by simpa using hp.2
    have p3 : (prof == 1) = false := by simpa using hp.1
    have p4 : (prof == 2) = false := by simpa using hp.2
    clear hp
    clear hV HR HMA HT HE HD HP HFS
    go_enter Tryd.func7, Tryd.ntmps7
    go_upto_region 1 with (fail)
    rw [← HW.out]
    go_wp2
    go_ret
    exact ⟨ret_i64 (by rw [HV.out]), HBW.out⟩
  rw [if_neg hp] at hV
  have hpp : (prof = 1 ∨ prof = 2) := by omega
  clear hp
  by_cases hr : rightB m = 0
  case' neg =>
    rw [if_pos hr] at hV
    have HV := Lib.hid hV.symm
    generalize rightB m = rz at *
    have r1 : (rz != 0) = true := by simpa using hr
    clear hr
    rcases hpp with rfl | rfl
    · skip
      clear hV HMA HT HE HD HP HFS
      go_enter Tryd.func7, Tryd.ntmps7
      go_upto_region 1 with (fail)
      rw [← HW.out]
      go_wp2_with (go_at_call 14; refine (HR.out _ (below_then HBW.out (Below.refl _ _))).mono ?_; rintro e wr ⟨rfl, hb⟩; have HBr := Lib.hid (below_then (Below.refl _ _) hb); obtain ⟨b0, b1, b2, b3, b4, b5, b6, b7⟩ := HB8.out wr HBr.out; clear hb)
      go_ret
      exact ⟨ret_i64 (by rw [HV.out]), below_then HBW.out HBr.out⟩
    · skip
      clear hV HMA HT HE HD HP HFS
      go_enter Tryd.func7, Tryd.ntmps7
      go_upto_region 1 with (fail)
      rw [← HW.out]
      go_wp2_with (go_at_call 14; refine (HR.out _ (below_then HBW.out (Below.refl _ _))).mono ?_; rintro e wr ⟨rfl, hb⟩; have HBr := Lib.hid (below_then (Below.refl _ _) hb); obtain ⟨b0, b1, b2, b3, b4, b5, b6, b7⟩ := HB8.out wr HBr.out; clear hb)
      go_ret
      exact ⟨ret_i64 (by rw [HV.out]), below_then HBW.out HBr.out⟩
  rw [if_neg (by rw [hr]; decide)] at hV
  have HMA := Lib.hid (fun wz hb => HMA.out wz hb hr)
  have HE := Lib.hid (fun wz hb => HE.out wz hb hr)
  have HFS := Lib.hid (fun wz hb => HFS.out wz hb hr)
  rw [hr] at HR
  clear hr
  by_cases hm : firstC matC m.funs = 0
  case' neg =>
    rw [if_pos hm] at hV
    have HV := Lib.hid hV.symm
    generalize firstC matC m.funs = mz at *
    have r1 : (mz != 0) = true := by simpa using hm
    clear hm
    rcases hpp with rfl | rfl
    · skip
      clear hV HT HE HD HP HFS
      go_enter Tryd.func7, Tryd.ntmps7
      go_upto_region 1 with (fail)
      rw [← HW.out]
      go_wp2_with (first | (go_at_call 14; refine (HR.out _ (below_then HBW.out (Below.refl _ _))).mono ?_; rintro e wr ⟨rfl, hb⟩; have HBr := Lib.hid (below_then (Below.refl _ _) hb); obtain ⟨b0, b1, b2, b3, b4, b5, b6, b7⟩ := HB8.out wr HBr.out; clear hb) | (go_at_call 15; refine (HMA.out _ (below_then HBW.out HBr.out)).mono ?_; rintro e wm ⟨rfl, hb⟩; have HBm := Lib.hid (below_then HBr.out hb); obtain ⟨b0, b1, b2, b3, b4, b5, b6, b7⟩ := HB8.out wm HBm.out; clear hb))
      go_ret
      exact ⟨ret_i64 (by rw [HV.out]), below_then HBW.out HBm.out⟩
    · skip
      clear hV HT HE HD HP HFS
      go_enter Tryd.func7, Tryd.ntmps7
      go_upto_region 1 with (fail)
      rw [← HW.out]
      go_wp2_with (first | (go_at_call 14; refine (HR.out _ (below_then HBW.out (Below.refl _ _))).mono ?_; rintro e wr ⟨rfl, hb⟩; have HBr := Lib.hid (below_then (Below.refl _ _) hb); obtain ⟨b0, b1, b2, b3, b4, b5, b6, b7⟩ := HB8.out wr HBr.out; clear hb) | (go_at_call 15; refine (HMA.out _ (below_then HBW.out HBr.out)).mono ?_; rintro e wm ⟨rfl, hb⟩; have HBm := Lib.hid (below_then HBr.out hb); obtain ⟨b0, b1, b2, b3, b4, b5, b6, b7⟩ := HB8.out wm HBm.out; clear hb))
      go_ret
      exact ⟨ret_i64 (by rw [HV.out]), below_then HBW.out HBm.out⟩
  rw [if_neg (by rw [hm]; decide)] at hV
  rw [hm] at HMA
  clear hm
  cases ht0 : typesC m with
  | false =>
    rw [if_pos (by rw [ht0, Bool.false_and, Bool.false_and])] at hV
    have HV := Lib.hid hV.symm
    rw [ht0] at HT
    rcases hpp with rfl | rfl
    · skip
      clear hV HE HD HP HFS
      go_enter Tryd.func7, Tryd.ntmps7
      go_upto_region 1 with (fail)
      rw [← HW.out]
      go_wp2_with (first | (go_at_call 14; refine (HR.out _ (below_then HBW.out (Below.refl _ _))).mono ?_; rintro e wr ⟨rfl, hb⟩; have HBr := Lib.hid (below_then (Below.refl _ _) hb); obtain ⟨b0, b1, b2, b3, b4, b5, b6, b7⟩ := HB8.out wr HBr.out; clear hb) | (go_at_call 15; refine (HMA.out _ (below_then HBW.out HBr.out)).mono ?_; rintro e wm ⟨rfl, hb⟩; have HBm := Lib.hid (below_then HBr.out hb); obtain ⟨b0, b1, b2, b3, b4, b5, b6, b7⟩ := HB8.out wm HBm.out; clear hb) | (go_at_call 16; refine (HT.out _ (below_then HBW.out HBm.out)).mono ?_; rintro e wt ⟨rfl, hb⟩; have HBt := Lib.hid (below_then HBm.out hb); obtain ⟨b0, b1, b2, b3, b4, b5, b6, b7⟩ := HB8.out wt HBt.out; clear hb))
      go_ret
      exact ⟨ret_i64 (by rw [HV.out]), below_then HBW.out HBt.out⟩
    · skip
      clear hV HE HD HP HFS
      go_enter Tryd.func7, Tryd.ntmps7
      go_upto_region 1 with (fail)
      rw [← HW.out]
      go_wp2_with (first | (go_at_call 14; refine (HR.out _ (below_then HBW.out (Below.refl _ _))).mono ?_; rintro e wr ⟨rfl, hb⟩; have HBr := Lib.hid (below_then (Below.refl _ _) hb); obtain ⟨b0, b1, b2, b3, b4, b5, b6, b7⟩ := HB8.out wr HBr.out; clear hb) | (go_at_call 15; refine (HMA.out _ (below_then HBW.out HBr.out)).mono ?_; rintro e wm ⟨rfl, hb⟩; have HBm := Lib.hid (below_then HBr.out hb); obtain ⟨b0, b1, b2, b3, b4, b5, b6, b7⟩ := HB8.out wm HBm.out; clear hb) | (go_at_call 16; refine (HT.out _ (below_then HBW.out HBm.out)).mono ?_; rintro e wt ⟨rfl, hb⟩; have HBt := Lib.hid (below_then HBm.out hb); obtain ⟨b0, b1, b2, b3, b4, b5, b6, b7⟩ := HB8.out wt HBt.out; clear hb))
      go_ret
      exact ⟨ret_i64 (by rw [HV.out]), below_then HBW.out HBt.out⟩
  | true =>
    cases ht1 : m.exps.all (expIn m) with
    | false =>
      rw [if_pos (by rw [ht1, Bool.and_false, Bool.false_and])] at hV
      have HV := Lib.hid hV.symm
      rw [ht1] at HE
      rw [ht0] at HT
      rcases hpp with rfl | rfl
      · skip
        clear hV HD HP HFS
        go_enter Tryd.func7, Tryd.ntmps7
        go_upto_region 1 with (fail)
        rw [← HW.out]
        go_wp2_with (first | (go_at_call 14; refine (HR.out _ (below_then HBW.out (Below.refl _ _))).mono ?_; rintro e wr ⟨rfl, hb⟩; have HBr := Lib.hid (below_then (Below.refl _ _) hb); obtain ⟨b0, b1, b2, b3, b4, b5, b6, b7⟩ := HB8.out wr HBr.out; clear hb) | (go_at_call 15; refine (HMA.out _ (below_then HBW.out HBr.out)).mono ?_; rintro e wm ⟨rfl, hb⟩; have HBm := Lib.hid (below_then HBr.out hb); obtain ⟨b0, b1, b2, b3, b4, b5, b6, b7⟩ := HB8.out wm HBm.out; clear hb) | (go_at_call 16; refine (HT.out _ (below_then HBW.out HBm.out)).mono ?_; rintro e wt ⟨rfl, hb⟩; have HBt := Lib.hid (below_then HBm.out hb); obtain ⟨b0, b1, b2, b3, b4, b5, b6, b7⟩ := HB8.out wt HBt.out; clear hb) | (go_at_call 17; refine (HE.out _ (below_then HBW.out HBt.out)).mono ?_; rintro e we ⟨rfl, hb⟩; have HBe := Lib.hid (below_then HBt.out hb); obtain ⟨b0, b1, b2, b3, b4, b5, b6, b7⟩ := HB8.out we HBe.out; clear hb))
        go_ret
        exact ⟨ret_i64 (by rw [HV.out]), below_then HBW.out HBe.out⟩
      · skip
        clear hV HD HP HFS
        go_enter Tryd.func7, Tryd.ntmps7
        go_upto_region 1 with (fail)
        rw [← HW.out]
        go_wp2_with (first | (go_at_call 14; refine (HR.out _ (below_then HBW.out (Below.refl _ _))).mono ?_; rintro e wr ⟨rfl, hb⟩; have HBr := Lib.hid (below_then (Below.refl _ _) hb); obtain ⟨b0, b1, b2, b3, b4, b5, b6, b7⟩ := HB8.out wr HBr.out; clear hb) | (go_at_call 15; refine (HMA.out _ (below_then HBW.out HBr.out)).mono ?_; rintro e wm ⟨rfl, hb⟩; have HBm := Lib.hid (below_then HBr.out hb); obtain ⟨b0, b1, b2, b3, b4, b5, b6, b7⟩ := HB8.out wm HBm.out; clear hb) | (go_at_call 16; refine (HT.out _ (below_then HBW.out HBm.out)).mono ?_; rintro e wt ⟨rfl, hb⟩; have HBt := Lib.hid (below_then HBm.out hb); obtain ⟨b0, b1, b2, b3, b4, b5, b6, b7⟩ := HB8.out wt HBt.out; clear hb) | (go_at_call 17; refine (HE.out _ (below_then HBW.out HBt.out)).mono ?_; rintro e we ⟨rfl, hb⟩; have HBe := Lib.hid (below_then HBt.out hb); obtain ⟨b0, b1, b2, b3, b4, b5, b6, b7⟩ := HB8.out we HBe.out; clear hb))
        go_ret
        exact ⟨ret_i64 (by rw [HV.out]), below_then HBW.out HBe.out⟩
    | true =>
      cases ht2 : m.datas.all (datIn n3) with
      | false =>
        rw [if_pos (by rw [ht2, Bool.and_false])] at hV
        have HV := Lib.hid hV.symm
        rw [ht2] at HD
        rw [ht0] at HT
        rw [ht1] at HE
        rcases hpp with rfl | rfl
        · skip
          clear hV HP HFS
          go_enter Tryd.func7, Tryd.ntmps7
          go_upto_region 1 with (fail)
          rw [← HW.out]
          go_wp2_with (first | (go_at_call 14; refine (HR.out _ (below_then HBW.out (Below.refl _ _))).mono ?_; rintro e wr ⟨rfl, hb⟩; have HBr := Lib.hid (below_then (Below.refl _ _) hb); obtain ⟨b0, b1, b2, b3, b4, b5, b6, b7⟩ := HB8.out wr HBr.out; clear hb) | (go_at_call 15; refine (HMA.out _ (below_then HBW.out HBr.out)).mono ?_; rintro e wm ⟨rfl, hb⟩; have HBm := Lib.hid (below_then HBr.out hb); obtain ⟨b0, b1, b2, b3, b4, b5, b6, b7⟩ := HB8.out wm HBm.out; clear hb) | (go_at_call 16; refine (HT.out _ (below_then HBW.out HBm.out)).mono ?_; rintro e wt ⟨rfl, hb⟩; have HBt := Lib.hid (below_then HBm.out hb); obtain ⟨b0, b1, b2, b3, b4, b5, b6, b7⟩ := HB8.out wt HBt.out; clear hb) | (go_at_call 17; refine (HE.out _ (below_then HBW.out HBt.out)).mono ?_; rintro e we ⟨rfl, hb⟩; have HBe := Lib.hid (below_then HBt.out hb); obtain ⟨b0, b1, b2, b3, b4, b5, b6, b7⟩ := HB8.out we HBe.out; clear hb) | (go_at_call 18; refine (HD.out _ (below_then HBW.out HBe.out)).mono ?_; rintro e wd ⟨rfl, hb⟩; have HBd := Lib.hid (below_then HBe.out hb); obtain ⟨b0, b1, b2, b3, b4, b5, b6, b7⟩ := HB8.out wd HBd.out; clear hb))
          go_ret
          exact ⟨ret_i64 (by rw [HV.out]), below_then HBW.out HBd.out⟩
        · skip
          clear hV HP HFS
          go_enter Tryd.func7, Tryd.ntmps7
          go_upto_region 1 with (fail)
          rw [← HW.out]
          go_wp2_with (first | (go_at_call 14; refine (HR.out _ (below_then HBW.out (Below.refl _ _))).mono ?_; rintro e wr ⟨rfl, hb⟩; have HBr := Lib.hid (below_then (Below.refl _ _) hb); obtain ⟨b0, b1, b2, b3, b4, b5, b6, b7⟩ := HB8.out wr HBr.out; clear hb) | (go_at_call 15; refine (HMA.out _ (below_then HBW.out HBr.out)).mono ?_; rintro e wm ⟨rfl, hb⟩; have HBm := Lib.hid (below_then HBr.out hb); obtain ⟨b0, b1, b2, b3, b4, b5, b6, b7⟩ := HB8.out wm HBm.out; clear hb) | (go_at_call 16; refine (HT.out _ (below_then HBW.out HBm.out)).mono ?_; rintro e wt ⟨rfl, hb⟩; have HBt := Lib.hid (below_then HBm.out hb); obtain ⟨b0, b1, b2, b3, b4, b5, b6, b7⟩ := HB8.out wt HBt.out; clear hb) | (go_at_call 17; refine (HE.out _ (below_then HBW.out HBt.out)).mono ?_; rintro e we ⟨rfl, hb⟩; have HBe := Lib.hid (below_then HBt.out hb); obtain ⟨b0, b1, b2, b3, b4, b5, b6, b7⟩ := HB8.out we HBe.out; clear hb) | (go_at_call 18; refine (HD.out _ (below_then HBW.out HBe.out)).mono ?_; rintro e wd ⟨rfl, hb⟩; have HBd := Lib.hid (below_then HBe.out hb); obtain ⟨b0, b1, b2, b3, b4, b5, b6, b7⟩ := HB8.out wd HBd.out; clear hb))
          go_ret
          exact ⟨ret_i64 (by rw [HV.out]), below_then HBW.out HBd.out⟩
      | true =>
        rw [if_neg (by rw [ht0, ht1, ht2]; decide)] at hV
        have HP := Lib.hid (fun wz hb => HP.out wz hb ht1)
        have HFS := Lib.hid (fun wz hb => HFS.out wz hb ht0)
        rw [ht0] at HT
        rw [ht1] at HE
        rw [ht2] at HD
        clear ht0 ht1 ht2
        rcases hpp with rfl | rfl
        · cases hpl : plainC m with
          | false =>
            rw [if_pos ⟨rfl, hpl⟩] at hV
            have HV := Lib.hid hV.symm
            rw [hpl] at HP
            clear hV HFS hpl
            go_enter Tryd.func7, Tryd.ntmps7
            go_upto_region 1 with (fail)
            rw [← HW.out]
            go_wp2_with (first | (go_at_call 14; refine (HR.out _ (below_then HBW.out (Below.refl _ _))).mono ?_; rintro e wr ⟨rfl, hb⟩; have HBr := Lib.hid (below_then (Below.refl _ _) hb); obtain ⟨b0, b1, b2, b3, b4, b5, b6, b7⟩ := HB8.out wr HBr.out; clear hb) | (go_at_call 15; refine (HMA.out _ (below_then HBW.out HBr.out)).mono ?_; rintro e wm ⟨rfl, hb⟩; have HBm := Lib.hid (below_then HBr.out hb); obtain ⟨b0, b1, b2, b3, b4, b5, b6, b7⟩ := HB8.out wm HBm.out; clear hb) | (go_at_call 16; refine (HT.out _ (below_then HBW.out HBm.out)).mono ?_; rintro e wt ⟨rfl, hb⟩; have HBt := Lib.hid (below_then HBm.out hb); obtain ⟨b0, b1, b2, b3, b4, b5, b6, b7⟩ := HB8.out wt HBt.out; clear hb) | (go_at_call 17; refine (HE.out _ (below_then HBW.out HBt.out)).mono ?_; rintro e we ⟨rfl, hb⟩; have HBe := Lib.hid (below_then HBt.out hb); obtain ⟨b0, b1, b2, b3, b4, b5, b6, b7⟩ := HB8.out we HBe.out; clear hb) | (go_at_call 18; refine (HD.out _ (below_then HBW.out HBe.out)).mono ?_; rintro e wd ⟨rfl, hb⟩; have HBd := Lib.hid (below_then HBe.out hb); obtain ⟨b0, b1, b2, b3, b4, b5, b6, b7⟩ := HB8.out wd HBd.out; clear hb) | (go_at_call 19; refine (HP.out _ (below_then HBW.out HBd.out)).mono ?_; rintro e wp ⟨rfl, hb⟩; have HBp := Lib.hid (below_then HBd.out hb); obtain ⟨b0, b1, b2, b3, b4, b5, b6, b7⟩ := HB8.out wp HBp.out; clear hb))
            go_ret
            exact ⟨ret_i64 (by rw [HV.out]), below_then HBW.out HBp.out⟩
          | true =>
            rw [if_neg (fun hx => by rw [hpl] at hx; cases hx.2)] at hV
            rw [hpl] at HP
            have HV := Lib.hid hV.symm
            generalize funcsC m 1 = fz at *
            clear hV hpl
            go_enter Tryd.func7, Tryd.ntmps7
            go_upto_region 1 with (fail)
            rw [← HW.out]
            go_wp2_with (first | (go_at_call 14; refine (HR.out _ (below_then HBW.out (Below.refl _ _))).mono ?_; rintro e wr ⟨rfl, hb⟩; have HBr := Lib.hid (below_then (Below.refl _ _) hb); obtain ⟨b0, b1, b2, b3, b4, b5, b6, b7⟩ := HB8.out wr HBr.out; clear hb) | (go_at_call 15; refine (HMA.out _ (below_then HBW.out HBr.out)).mono ?_; rintro e wm ⟨rfl, hb⟩; have HBm := Lib.hid (below_then HBr.out hb); obtain ⟨b0, b1, b2, b3, b4, b5, b6, b7⟩ := HB8.out wm HBm.out; clear hb) | (go_at_call 16; refine (HT.out _ (below_then HBW.out HBm.out)).mono ?_; rintro e wt ⟨rfl, hb⟩; have HBt := Lib.hid (below_then HBm.out hb); obtain ⟨b0, b1, b2, b3, b4, b5, b6, b7⟩ := HB8.out wt HBt.out; clear hb) | (go_at_call 17; refine (HE.out _ (below_then HBW.out HBt.out)).mono ?_; rintro e we ⟨rfl, hb⟩; have HBe := Lib.hid (below_then HBt.out hb); obtain ⟨b0, b1, b2, b3, b4, b5, b6, b7⟩ := HB8.out we HBe.out; clear hb) | (go_at_call 18; refine (HD.out _ (below_then HBW.out HBe.out)).mono ?_; rintro e wd ⟨rfl, hb⟩; have HBd := Lib.hid (below_then HBe.out hb); obtain ⟨b0, b1, b2, b3, b4, b5, b6, b7⟩ := HB8.out wd HBd.out; clear hb) | (go_at_call 19; refine (HP.out _ (below_then HBW.out HBd.out)).mono ?_; rintro e wp ⟨rfl, hb⟩; have HBp := Lib.hid (below_then HBd.out hb); obtain ⟨b0, b1, b2, b3, b4, b5, b6, b7⟩ := HB8.out wp HBp.out; clear hb) | (go_at_call 20; refine (HFS.out _ (below_then HBW.out HBp.out)).mono ?_; rintro e wf ⟨rfl, hb⟩; have HBf := Lib.hid (below_then HBp.out hb); obtain ⟨b0, b1, b2, b3, b4, b5, b6, b7⟩ := HB8.out wf HBf.out; clear hb))
            go_ret
            exact ⟨ret_i64 (by rw [HV.out]), below_then HBW.out HBf.out⟩
        · rw [if_neg (fun hx => absurd hx.1 (by decide))] at hV
          have HV := Lib.hid hV.symm
          generalize funcsC m 2 = fz at *
          clear hV HP
          go_enter Tryd.func7, Tryd.ntmps7
          go_upto_region 1 with (fail)
          rw [← HW.out]
          go_wp2_with (first | (go_at_call 14; refine (HR.out _ (below_then HBW.out (Below.refl _ _))).mono ?_; rintro e wr ⟨rfl, hb⟩; have HBr := Lib.hid (below_then (Below.refl _ _) hb); obtain ⟨b0, b1, b2, b3, b4, b5, b6, b7⟩ := HB8.out wr HBr.out; clear hb) | (go_at_call 15; refine (HMA.out _ (below_then HBW.out HBr.out)).mono ?_; rintro e wm ⟨rfl, hb⟩; have HBm := Lib.hid (below_then HBr.out hb); obtain ⟨b0, b1, b2, b3, b4, b5, b6, b7⟩ := HB8.out wm HBm.out; clear hb) | (go_at_call 16; refine (HT.out _ (below_then HBW.out HBm.out)).mono ?_; rintro e wt ⟨rfl, hb⟩; have HBt := Lib.hid (below_then HBm.out hb); obtain ⟨b0, b1, b2, b3, b4, b5, b6, b7⟩ := HB8.out wt HBt.out; clear hb) | (go_at_call 17; refine (HE.out _ (below_then HBW.out HBt.out)).mono ?_; rintro e we ⟨rfl, hb⟩; have HBe := Lib.hid (below_then HBt.out hb); obtain ⟨b0, b1, b2, b3, b4, b5, b6, b7⟩ := HB8.out we HBe.out; clear hb) | (go_at_call 18; refine (HD.out _ (below_then HBW.out HBe.out)).mono ?_; rintro e wd ⟨rfl, hb⟩; have HBd := Lib.hid (below_then HBe.out hb); obtain ⟨b0, b1, b2, b3, b4, b5, b6, b7⟩ := HB8.out wd HBd.out; clear hb) | (go_at_call 20; refine (HFS.out _ (below_then HBW.out HBd.out)).mono ?_; rintro e wf ⟨rfl, hb⟩; have HBf := Lib.hid (below_then HBd.out hb); obtain ⟨b0, b1, b2, b3, b4, b5, b6, b7⟩ := HB8.out wf HBf.out; clear hb))
          go_ret
          exact ⟨ret_i64 (by rw [HV.out]), below_then HBW.out HBf.out⟩
end Go.Proofs.YteohmkceapblkaaDoor
