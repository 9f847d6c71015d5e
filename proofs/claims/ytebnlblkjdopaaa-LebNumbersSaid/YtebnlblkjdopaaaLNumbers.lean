/-
  LebNumbers: the walk.
-/
import Derived.Test.YtebnlblkjdopaaaLkn
import Derived.Test.YtebnlblkjdopaaaLreads
import Derived.Test.YtebnlblkjdopaaaLblk
import Derived.Deep.RegionHeld3
import Derived.Deep.CutRange
namespace Go.Proofs.Ytebnlblkjdopaaa
open Go.RowKit
set_option linter.unusedSimpArgs false

/-- Bytes that were written read so in each later world. -/
abbrev SaysOn (v : Value) (l : List Nat) (w1 : World) : Prop := ∀ w : World, Below w1.heap.size w1 w → Says v l w
theorem says_on {w1 : World} {g o : Nat} {l : List Nat} (h : Bytes w1 (some ⟨g, o, none⟩) l) (n c : Nat) (hn : l.length = n) : SaysOn (.slice (some ⟨g, o, none⟩) n c) l w1 :=
  fun _ hb => bytes_says (h.below hb) n c hn
theorem wrap64_bounds (a : Int) : -9223372036854775808 ≤ wrap64 a ∧ wrap64 a ≤ 9223372036854775807 := by unfold wrap64; omega

/-- Within a region that draws its order the condition on the world may be made stronger. -/
theorem wpAnyH_turn {P : Program} {ops : Array Oper} {Q : Exit → Act → World → Prop} {md : Region.Mode} {S S' : World → Prop} (himp : ∀ w, S' w → S w) :
    ∀ {fuel : Nat} {listed : Array Bool} {a : Act} {w : World}, wpAnyH P md ops Q S' fuel listed a w → wpAnyH P md ops Q S fuel listed a w
  | 0, _, _, _, h => h
  | _ + 1, _, _, _, h => ⟨h.1, fun i hi => wpOp_mono (fun _ _ h' => ⟨himp _ h'.1, wpAnyH_turn himp h'.2⟩) (h.2 i hi)⟩

set_option maxRecDepth 100000 in
set_option maxHeartbeats 8000000 in
theorem numbers_any (w : World) : Calls Try.prog 3 #[] w (BoolPost true w) := by
  go_enter Try.func3, Try.ntmps3
  go_wp2
  go_loopw [1, 2, 3] (fun a _ _ wr => ∃ k : Nat, k ≤ 64 ∧ a = .int .u64 (k : Int) ∧ Below w.heap.size w wr) (fun a _ _ _ => 64 - (intOf a).toNat)
  case atStart => exact ⟨0, Nat.zero_le _, rfl, Below.refl _ _⟩
  case round =>
    obtain ⟨k, hk, rfl, hnx⟩ := hrel
    by_cases hlt : k < 64
    · have hd0 : decide ((k : Int) < 64) = true := by simp; omega
      go_wp2
      go_loopw [2, 3] (fun a _ wr => ∃ j : Nat, j ≤ 5 ∧ a = .int .i64 (-2 + (j : Int)) ∧ Below w.heap.size w wr) (fun a _ _ => (3 - intOf a).toNat)
      case atStart => exact ⟨0, by omega, rfl, hnx⟩
      case round =>
        obtain ⟨wo, rfl⟩ : ∃ wo : World, wo = wr := ⟨_, rfl⟩
        obtain ⟨j, hj, rfl, hnx⟩ := hrel
        by_cases hl2 : j < 5
        · have hd : decide (-2 + (j : Int) < 3) = true := by simp; omega
          go_upto_region 8 with fail
          have hb := wrap64_bounds (wrap64 (2 ^ k) + (-2 + (j : Int)))
          generalize wrap64 (wrap64 (2 ^ k) + (-2 + (j : Int))) = N at hb ⊢
          obtain ⟨X, hX⟩ : ∃ X : Nat, IntKind.u64.wrap N = (X : Int) := ⟨(IntKind.u64.wrap N).toNat, by rw [IntKind.wrap_u64]; omega⟩
          have hX2 : X < 18446744073709551616 := by have h := hX; rw [IntKind.wrap_u64] at h; omega
          obtain ⟨Y, hY⟩ : ∃ Y : Int, wrap64 (-N) = Y := ⟨_, rfl⟩
          have hYb := wrap64_bounds (-N)
          rw [hY] at hYb
          have hY' : IntKind.i64.wrap (-N) = Y := by rw [← hY, IntKind.wrap_i64]; unfold wrap64; omega
          have CU := fun w => u_is X hX2 w
          have CV := fun w => ru_is X hX2 w
          have CS := fun w => s_is N hb.1 hb.2 w
          have CT := fun w => rs_is N hb.1 hb.2 w
          have CY := fun w => s_is Y hYb.1 hYb.2 w
          have CZ := fun w => rs_is Y hYb.1 hYb.2 w
          generalize encU X = lu at CU CV
          generalize encS N = ls at CS CT
          generalize encS Y = ly at CY CZ
          have HU := Lib.hid CU
          have HV := Lib.hid CV
          have HS := Lib.hid CS
          have HT := Lib.hid CT
          have HY := Lib.hid CY
          have HZ := Lib.hid CZ
          clear CU CV CS CT CY CZ hX2 hb hYb
          go_cut [49] from 13 to 49 (fun s wx => s = .bool false ∧ Below w.heap.size w wx)
          case first =>
            replace hnx := hnx.drew
            refine wp_region_held_drew (S := fun _ => True) (by kernel_rfl) trivial (fun _ => ?_)
            generalize wo.drew = w0 at hnx ⊢
            show wpAnyH _ _ _ _ _ 29 #[false, false, false, false, false, false, false, false, false, false, false, false, false, false, false, false, false, false, false, false, false, false, false, false, false, false, false, false, false] _ _
            refine wpAnyH_turn (S' := fun w' => Below w0.heap.size w0 w') (fun _ _ => trivial) ?_
            have hS : (fun w' => Below w0.heap.size w0 w') w0 := Below.refl _ _
            refine wpAnyH_take (i := 0) (oi := ⟨some 21, _, _, _, _, _⟩) (v := ?_) rfl (by kernel_rfl) (by kernel_rfl) (by kernel_rfl) (fun _ _ _ h => h) (Or.inl ⟨by rfl, ?_⟩) hS ?_
            rotate_left
            · intro w' hSw; go_simp; try with_reducible rfl
            try simp only [Act.put, List.setIfInBounds_toArray, List.set]
            refine wpAnyH_take (i := 1) (oi := ⟨some 22, _, _, _, _, _⟩) (v := ?_) rfl (by kernel_rfl) (by kernel_rfl) (by kernel_rfl) (fun _ _ _ h => h) (Or.inl ⟨by rfl, ?_⟩) hS ?_
            rotate_left
            · intro w' hSw; go_simp; try with_reducible rfl
            try simp only [Act.put, List.setIfInBounds_toArray, List.set]
            refine wpAnyH_take (i := 4) (oi := ⟨some 25, _, _, _, _, _⟩) (v := ?_) rfl (by kernel_rfl) (by kernel_rfl) (by kernel_rfl) (fun _ _ _ h => h) (Or.inl ⟨by rfl, ?_⟩) hS ?_
            rotate_left
            · intro w' hSw; go_simp; try with_reducible rfl
            try simp only [Act.put, List.setIfInBounds_toArray, List.set]
            refine wpAnyH_take (i := 5) (oi := ⟨some 26, _, _, _, _, _⟩) (v := ?_) rfl (by kernel_rfl) (by kernel_rfl) (by kernel_rfl) (fun _ _ _ h => h) (Or.inl ⟨by rfl, ?_⟩) hS ?_
            rotate_left
            · intro w' hSw; go_simp; try with_reducible rfl
            try simp only [Act.put, List.setIfInBounds_toArray, List.set]
            refine wpAnyH_ready (rs := [2]) (by kernel_rfl) (by simp) ?_
            refine AllReadyH.cons (o := ⟨some 23, _, _, _, _, _⟩) rfl (fun K hK => ?_) AllReadyH.nil
            go_simp
            refine (HU.out _).mono ?_
            rintro e w1 ⟨g1, cap1, rfl, _, _, hby, _, _, hb⟩
            have hs1 := says_on hby _ cap1 rfl
            clear hby
            go_wp2_with fail
            refine hK.out _ _ hb (fun _ => ?_)
            clear hK K
            refine wpAnyH_turn (S' := fun w' => Below w1.heap.size w1 w') (fun w' h => below_then hb h) ?_
            have hS : (fun w' => Below w1.heap.size w1 w') w1 := Below.refl _ _
            replace hnx := hnx.trans (hb.mono hnx.size)
            clear hb
            try simp only [Act.put, List.setIfInBounds_toArray, List.set]
            refine wpAnyH_take (i := 3) (oi := ⟨some 24, _, _, _, _, _⟩) (v := ?_) rfl (by kernel_rfl) (by kernel_rfl) (by kernel_rfl) (fun _ _ _ h => h) (Or.inl ⟨by rfl, ?_⟩) hS ?_
            rotate_left
            · intro w' hSw; have hx := hs1 w' hSw; go_simp; try with_reducible rfl
            try simp only [Act.put, List.setIfInBounds_toArray, List.set]
            clear hs1
            refine wpAnyH_ready (rs := [6]) (by kernel_rfl) (by simp) ?_
            refine AllReadyH.cons (o := ⟨some 27, _, _, _, _, _⟩) rfl (fun K hK => ?_) AllReadyH.nil
            go_simp
            refine (HV.out _).mono ?_
            rintro e w2 ⟨g2, cap2, rfl, _, _, hby, _, _, hb⟩
            have hs2 := says_on hby _ cap2 rfl
            clear hby
            go_wp2_with fail
            refine hK.out _ _ hb (fun _ => ?_)
            clear hK K
            refine wpAnyH_turn (S' := fun w' => Below w2.heap.size w2 w') (fun w' h => below_then hb h) ?_
            have hS : (fun w' => Below w2.heap.size w2 w') w2 := Below.refl _ _
            replace hnx := hnx.trans (hb.mono hnx.size)
            clear hb
            try simp only [Act.put, List.setIfInBounds_toArray, List.set]
            refine wpAnyH_take (i := 7) (oi := ⟨some 28, _, _, _, _, _⟩) (v := ?_) rfl (by kernel_rfl) (by kernel_rfl) (by kernel_rfl) (fun _ _ _ h => h) (Or.inl ⟨by rfl, ?_⟩) hS ?_
            rotate_left
            · intro w' hSw; have hx := hs2 w' hSw; go_simp; try with_reducible rfl
            try simp only [Act.put, List.setIfInBounds_toArray, List.set]
            clear hs2
            refine wpAnyH_take (i := 8) (oi := ⟨some 29, _, _, _, _, _⟩) (v := ?_) rfl (by kernel_rfl) (by kernel_rfl) (by kernel_rfl) (fun _ _ _ h => h) (Or.inl ⟨by rfl, ?_⟩) hS ?_
            rotate_left
            · intro w' hSw; go_simp; try with_reducible rfl
            try simp only [Act.put, List.setIfInBounds_toArray, List.set]
            refine wpAnyH_take (i := 9) (oi := ⟨some 30, _, _, _, _, _⟩) (v := ?_) rfl (by kernel_rfl) (by kernel_rfl) (by kernel_rfl) (fun _ _ _ h => h) (Or.inl ⟨by rfl, ?_⟩) hS ?_
            rotate_left
            · intro w' hSw; go_simp; try with_reducible rfl
            try simp only [Act.put, List.setIfInBounds_toArray, List.set]
            refine wpAnyH_take (i := 10) (oi := ⟨some 31, _, _, _, _, _⟩) (v := ?_) rfl (by kernel_rfl) (by kernel_rfl) (by kernel_rfl) (fun _ _ _ h => h) (Or.inl ⟨by rfl, ?_⟩) hS ?_
            rotate_left
            · intro w' hSw; go_simp; try with_reducible rfl
            try simp only [Act.put, List.setIfInBounds_toArray, List.set]
            refine wpAnyH_take (i := 13) (oi := ⟨some 34, _, _, _, _, _⟩) (v := ?_) rfl (by kernel_rfl) (by kernel_rfl) (by kernel_rfl) (fun _ _ _ h => h) (Or.inl ⟨by rfl, ?_⟩) hS ?_
            rotate_left
            · intro w' hSw; go_simp; try with_reducible rfl
            try simp only [Act.put, List.setIfInBounds_toArray, List.set]
            refine wpAnyH_ready (rs := [11]) (by kernel_rfl) (by simp) ?_
            refine AllReadyH.cons (o := ⟨some 32, _, _, _, _, _⟩) rfl (fun K hK => ?_) AllReadyH.nil
            go_simp
            refine (HS.out _).mono ?_
            rintro e w3 ⟨g3, cap3, rfl, _, _, hby, _, _, hb⟩
            have hs3 := says_on hby _ cap3 rfl
            clear hby
            go_wp2_with fail
            refine hK.out _ _ hb (fun _ => ?_)
            clear hK K
            refine wpAnyH_turn (S' := fun w' => Below w3.heap.size w3 w') (fun w' h => below_then hb h) ?_
            have hS : (fun w' => Below w3.heap.size w3 w') w3 := Below.refl _ _
            replace hnx := hnx.trans (hb.mono hnx.size)
            clear hb
            try simp only [Act.put, List.setIfInBounds_toArray, List.set]
            refine wpAnyH_take (i := 12) (oi := ⟨some 33, _, _, _, _, _⟩) (v := ?_) rfl (by kernel_rfl) (by kernel_rfl) (by kernel_rfl) (fun _ _ _ h => h) (Or.inl ⟨by rfl, ?_⟩) hS ?_
            rotate_left
            · intro w' hSw; have hx := hs3 w' hSw; go_simp; try with_reducible rfl
            try simp only [Act.put, List.setIfInBounds_toArray, List.set]
            clear hs3
            refine wpAnyH_ready (rs := [14]) (by kernel_rfl) (by simp) ?_
            refine AllReadyH.cons (o := ⟨some 35, _, _, _, _, _⟩) rfl (fun K hK => ?_) AllReadyH.nil
            go_simp
            refine (HT.out _).mono ?_
            rintro e w4 ⟨g4, cap4, rfl, _, _, hby, _, _, hb⟩
            have hs4 := says_on hby _ cap4 rfl
            clear hby
            go_wp2_with fail
            refine hK.out _ _ hb (fun _ => ?_)
            clear hK K
            refine wpAnyH_turn (S' := fun w' => Below w4.heap.size w4 w') (fun w' h => below_then hb h) ?_
            have hS : (fun w' => Below w4.heap.size w4 w') w4 := Below.refl _ _
            replace hnx := hnx.trans (hb.mono hnx.size)
            clear hb
            try simp only [Act.put, List.setIfInBounds_toArray, List.set]
            refine wpAnyH_take (i := 15) (oi := ⟨some 36, _, _, _, _, _⟩) (v := ?_) rfl (by kernel_rfl) (by kernel_rfl) (by kernel_rfl) (fun _ _ _ h => h) (Or.inl ⟨by rfl, ?_⟩) hS ?_
            rotate_left
            · intro w' hSw; have hx := hs4 w' hSw; go_simp; try with_reducible rfl
            try simp only [Act.put, List.setIfInBounds_toArray, List.set]
            clear hs4
            refine wpAnyH_take (i := 16) (oi := ⟨some 37, _, _, _, _, _⟩) (v := ?_) rfl (by kernel_rfl) (by kernel_rfl) (by kernel_rfl) (fun _ _ _ h => h) (Or.inl ⟨by rfl, ?_⟩) hS ?_
            rotate_left
            · intro w' hSw; go_simp; try with_reducible rfl
            try simp only [Act.put, List.setIfInBounds_toArray, List.set]
            refine wpAnyH_take (i := 17) (oi := ⟨some 38, _, _, _, _, _⟩) (v := ?_) rfl (by kernel_rfl) (by kernel_rfl) (by kernel_rfl) (fun _ _ _ h => h) (Or.inl ⟨by rfl, ?_⟩) hS ?_
            rotate_left
            · intro w' hSw; go_simp; try with_reducible rfl
            try simp only [Act.put, List.setIfInBounds_toArray, List.set]
            refine wpAnyH_take (i := 18) (oi := ⟨some 39, _, _, _, _, _⟩) (v := ?_) rfl (by kernel_rfl) (by kernel_rfl) (by kernel_rfl) (fun _ _ _ h => h) (Or.inl ⟨by rfl, ?_⟩) hS ?_
            rotate_left
            · intro w' hSw; go_simp; try with_reducible rfl
            try simp only [Act.put, List.setIfInBounds_toArray, List.set]
            refine wpAnyH_take (i := 19) (oi := ⟨some 40, _, _, _, _, _⟩) (v := ?_) rfl (by kernel_rfl) (by kernel_rfl) (by kernel_rfl) (fun _ _ _ h => h) (Or.inl ⟨by rfl, ?_⟩) hS ?_
            rotate_left
            · intro w' hSw; go_simp; try with_reducible rfl
            try simp only [Act.put, List.setIfInBounds_toArray, List.set]
            refine wpAnyH_take (i := 20) (oi := ⟨some 41, _, _, _, _, _⟩) (v := ?_) rfl (by kernel_rfl) (by kernel_rfl) (by kernel_rfl) (fun _ _ _ h => h) (Or.inl ⟨by rfl, ?_⟩) hS ?_
            rotate_left
            · intro w' hSw; go_simp; try with_reducible rfl
            try simp only [Act.put, List.setIfInBounds_toArray, List.set]
            refine wpAnyH_take (i := 23) (oi := ⟨some 44, _, _, _, _, _⟩) (v := ?_) rfl (by kernel_rfl) (by kernel_rfl) (by kernel_rfl) (fun _ _ _ h => h) (Or.inl ⟨by rfl, ?_⟩) hS ?_
            rotate_left
            · intro w' hSw; go_simp; try with_reducible rfl
            try simp only [Act.put, List.setIfInBounds_toArray, List.set]
            refine wpAnyH_take (i := 24) (oi := ⟨some 45, _, _, _, _, _⟩) (v := ?_) rfl (by kernel_rfl) (by kernel_rfl) (by kernel_rfl) (fun _ _ _ h => h) (Or.inl ⟨by rfl, ?_⟩) hS ?_
            rotate_left
            · intro w' hSw; go_simp; try with_reducible rfl
            try simp only [Act.put, List.setIfInBounds_toArray, List.set]
            refine wpAnyH_ready (rs := [21]) (by kernel_rfl) (by simp) ?_
            refine AllReadyH.cons (o := ⟨some 42, _, _, _, _, _⟩) rfl (fun K hK => ?_) AllReadyH.nil
            go_simp
            refine (HY.out _).mono ?_
            rintro e w5 ⟨g5, cap5, rfl, _, _, hby, _, _, hb⟩
            have hs5 := says_on hby _ cap5 rfl
            clear hby
            go_wp2_with fail
            refine hK.out _ _ hb (fun _ => ?_)
            clear hK K
            refine wpAnyH_turn (S' := fun w' => Below w5.heap.size w5 w') (fun w' h => below_then hb h) ?_
            have hS : (fun w' => Below w5.heap.size w5 w') w5 := Below.refl _ _
            replace hnx := hnx.trans (hb.mono hnx.size)
            clear hb
            try simp only [Act.put, List.setIfInBounds_toArray, List.set]
            refine wpAnyH_take (i := 22) (oi := ⟨some 43, _, _, _, _, _⟩) (v := ?_) rfl (by kernel_rfl) (by kernel_rfl) (by kernel_rfl) (fun _ _ _ h => h) (Or.inl ⟨by rfl, ?_⟩) hS ?_
            rotate_left
            · intro w' hSw; have hx := hs5 w' hSw; go_simp; try with_reducible rfl
            try simp only [Act.put, List.setIfInBounds_toArray, List.set]
            clear hs5
            refine wpAnyH_ready (rs := [25]) (by kernel_rfl) (by simp) ?_
            refine AllReadyH.cons (o := ⟨some 46, _, _, _, _, _⟩) rfl (fun K hK => ?_) AllReadyH.nil
            go_simp
            refine (HZ.out _).mono ?_
            rintro e w6 ⟨g6, cap6, rfl, _, _, hby, _, _, hb⟩
            have hs6 := says_on hby _ cap6 rfl
            clear hby
            go_wp2_with fail
            refine hK.out _ _ hb (fun _ => ?_)
            clear hK K
            refine wpAnyH_turn (S' := fun w' => Below w6.heap.size w6 w') (fun w' h => below_then hb h) ?_
            have hS : (fun w' => Below w6.heap.size w6 w') w6 := Below.refl _ _
            replace hnx := hnx.trans (hb.mono hnx.size)
            clear hb
            try simp only [Act.put, List.setIfInBounds_toArray, List.set]
            refine wpAnyH_take (i := 26) (oi := ⟨some 47, _, _, _, _, _⟩) (v := ?_) rfl (by kernel_rfl) (by kernel_rfl) (by kernel_rfl) (fun _ _ _ h => h) (Or.inl ⟨by rfl, ?_⟩) hS ?_
            rotate_left
            · intro w' hSw; have hx := hs6 w' hSw; go_simp; try with_reducible rfl
            try simp only [Act.put, List.setIfInBounds_toArray, List.set]
            clear hs6
            refine wpAnyH_take (i := 27) (oi := ⟨some 48, _, _, _, _, _⟩) (v := ?_) rfl (by kernel_rfl) (by kernel_rfl) (by kernel_rfl) (fun _ _ _ h => h) (Or.inl ⟨by rfl, ?_⟩) hS ?_
            rotate_left
            · intro w' hSw; go_simp; try with_reducible rfl
            try simp only [Act.put, List.setIfInBounds_toArray, List.set]
            refine wpAnyH_take (i := 28) (oi := ⟨some 49, _, _, _, _, _⟩) (v := ?_) rfl (by kernel_rfl) (by kernel_rfl) (by kernel_rfl) (fun _ _ _ h => h) (Or.inl ⟨by rfl, ?_⟩) hS ?_
            rotate_left
            · intro w' hSw; go_simp; try with_reducible rfl
            try simp only [Act.put, List.setIfInBounds_toArray, List.set]
            refine wpAnyH_done (by kernel_rfl) ?_ _
            go_wp2_with fail
            go_meet
            exact ⟨rfl, hnx⟩
          case rest =>
            obtain ⟨rfl, hnx2⟩ := hcut
            clear hnx HU HV HS HT HY HZ hX hY hY'
            go_wp2
            go_roundw
            case rel => exact ⟨j + 1, by omega, by go_num, hnx2⟩
            case measure => simp [intOf]; omega
        · have hd : decide (-2 + (j : Int) < 3) = false := by simp; omega
          go_wp2
          go_roundw
          case rel => exact ⟨k + 1, by omega, by go_num, hnx⟩
          case measure => simp [intOf]; omega
    · have hmk := fun (n : Nat) (hn : n ≤ 1000000) W => run_make_bytes n hn W
      have HMK := Lib.hid hmk
      clear hmk
      have hd0 : decide ((k : Int) < 64) = false := by simp; omega
      clear hlt hk
      go_wp2
      go_loopw [4, 5, 6, 7, 8] (fun a _ _ _ _ wr => ∃ j : Nat, j ≤ 68 ∧ a = .int .i64 (-1 + (j : Int)) ∧ Below w.heap.size w wr) (fun a _ _ _ _ _ => (67 - intOf a).toNat)
      case atStart => exact ⟨0, Nat.zero_le _, rfl, hnx⟩
      case round =>
        clear hnx hd0
        obtain ⟨wo, rfl⟩ : ∃ wo : World, wo = wr := ⟨_, rfl⟩
        obtain ⟨jb, hjb, rfl, hnx⟩ := hrel
        by_cases hlt : jb < 68
        · have hd1 : decide (-1 + (jb : Int) < 67) = true := by simp; omega
          go_wp2
          go_loopw [5, 6, 7, 8] (fun a _ _ _ wr => ∃ n : Nat, 1 ≤ n ∧ n ≤ 12 ∧ a = .int .i64 (n : Int) ∧ Below w.heap.size w wr) (fun a _ _ _ _ => (12 - intOf a).toNat)
          case atStart => exact ⟨1, by omega, by omega, rfl, hnx⟩
          case round =>
            clear hnx
            obtain ⟨wp, rfl⟩ : ∃ wp : World, wp = wr := ⟨_, rfl⟩
            obtain ⟨n, hn1, hn2, rfl, hnx⟩ := hrel
            by_cases hlt : n < 12
            · have hd2 : decide ((n : Int) < 12) = true := by simp; omega
              have hmk := HMK.out n (by omega)
              have hh := held_made w wp n hnx
              go_wp2
              clear hmk
              have hlen : (List.replicate n 0).length = n := List.length_replicate
              generalize wp.alloc (.cells (Array.replicate n (byt 0)) 5) = wq at hh ⊢
              generalize wp.heap.size = B at hh ⊢
              generalize List.replicate n 0 = l at hh hlen
              clear hnx
              go_loopw [7, 8] (fun a _ wr => ∃ (t : Nat) (l : List Nat), t ≤ 256 ∧ a = .int .i64 (t : Int) ∧ Hid (l.length = n) ∧ HeldB w B l wr) (fun a _ _ => 256 - (intOf a).toNat)
              case atStart => exact ⟨0, l, by omega, rfl, Lib.hid hlen, hh⟩
              case round =>
                clear hh hlen
                obtain ⟨wr1, rfl⟩ : ∃ wr1 : World, wr1 = wr := ⟨_, rfl⟩
                obtain ⟨t, l, ht, rfl, hl, hh⟩ := hrel
                by_cases hlt3 : t < 256
                · obtain ⟨x, hx⟩ : ∃ x : Nat, (128 + (t : Int)) % 256 = (x : Int) := ⟨((128 + (t : Int)) % 256).toNat, by omega⟩
                  have hx2 : x < 256 := by omega
                  have HX2 := Lib.hid hx2
                  have HT3 := Lib.hid hlt3
                  have hd3 : decide ((t : Int) < 256) = true := by simp; omega
                  clear hx2
                  go_wp2
                  go_loopw [8, 66] (fun _ a wr => ∃ (i : Nat) (l : List Nat), i ≤ n ∧ a = .int .i64 (i : Int) ∧ Hid (l.length = n) ∧ HeldB w B l wr) (fun _ a _ => n - (intOf a).toNat)
                  case atStart => exact ⟨0, l, by omega, rfl, hl, hh⟩
                  case round =>
                    clear hh hl
                    obtain ⟨wr2, rfl⟩ : ∃ wr2 : World, wr2 = wr := ⟨_, rfl⟩
                    obtain ⟨i, l, hi, rfl, hl, hh⟩ := hrel
                    by_cases hlt4 : i < n
                    · have hc := hh.cell i (by rw [hl.out]; exact hlt4)
                      have hf := hh.frozen i
                      have hh2 := hh.set i x HX2.out
                      clear hh
                      go_wp2
                      go_roundw
                      case rel => exact ⟨i + 1, l.set i x, by omega, by go_num, Lib.hid (by rw [List.length_set]; exact hl.out), hh2⟩
                      case measure => simp [intOf]; omega
                    · obtain ⟨q, hq⟩ : ∃ q : Nat, (n : Int) - 1 = (q : Int) := ⟨n - 1, by omega⟩
                      have hq2 : q < n := by omega
                      have hc := hh.cell q (by rw [hl.out]; exact hq2)
                      have hf := hh.frozen q
                      have hh2 := hh.set q t HT3.out
                      have hl2 : (l.set q t).length = n := by rw [List.length_set]; exact hl.out
                      clear hh hl
                      have ht0 : (0 : Int) ≤ (t : Int) := Int.natCast_nonneg _
                      by_cases h16 : t % 16 = 0
                      · have hd4 : ((t : Int) % 16 == 0) = true := by simp; omega
                        go_wp2_with (go_at_call 11; refine (reads_any _ n n _ hl2 (Nat.le_refl _) (by omega) _ _ _ hh2.bytes).mono ?_; rintro e w' ⟨rfl, hb⟩; replace hh2 := hh2.next hb; clear hb)
                        go_roundw
                        case rel => exact ⟨t + 1, l.set q t, by omega, by go_num, Lib.hid hl2, hh2⟩
                        case measure => simp [intOf]; omega
                      · have hd4 : ((t : Int) % 16 == 0) = false := by simp; omega
                        go_wp2_with (go_at_call 11; refine (reads_any _ n n _ hl2 (Nat.le_refl _) (by omega) _ _ _ hh2.bytes).mono ?_; rintro e w' ⟨rfl, hb⟩; replace hh2 := hh2.next hb; clear hb)
                        go_roundw
                        case rel => exact ⟨t + 1, l.set q t, by omega, by go_num, Lib.hid hl2, hh2⟩
                        case measure => simp [intOf]; omega
                · have hd3 : decide ((t : Int) < 256) = false := by simp; omega
                  have hnx := hh.acc
                  go_wp2
                  go_roundw
                  case rel => exact ⟨n + 1, by omega, by omega, by go_num, hnx⟩
                  case measure => simp [intOf]; omega
            · have hd2 : decide ((n : Int) < 12) = false := by simp; omega
              go_wp2
              go_roundw
              case rel => exact ⟨jb + 1, by omega, by go_num, hnx⟩
              case measure => simp [intOf]; omega
        · have hd1 : decide (-1 + (jb : Int) < 67) = false := by simp; omega
          go_wp2_with (go_at_call 12; refine (known_any _).mono ?_; rintro e w' ⟨rfl, hb⟩; replace hnx := below_then hnx hb; clear hb)
          go_ret
          exact ⟨rfl, hnx⟩
end Go.Proofs.Ytebnlblkjdopaaa
