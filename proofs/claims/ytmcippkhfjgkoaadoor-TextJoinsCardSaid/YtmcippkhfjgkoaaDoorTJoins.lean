/-
  TextJoins: the walk. Written by wip/tools/gen_tjoins.py.
-/
import Derived.Test.YtmcippkhfjgkoaaDoorTjoin
import Derived.Deep.RegionHeld3
import Derived.Deep.CutRange
import Derived.Deep.CutBlock
namespace Go.Proofs.YtmcippkhfjgkoaaDoor
open Go.RowKit
set_option linter.unusedSimpArgs false

set_option maxRecDepth 100000 in
set_option maxHeartbeats 8000000 in
theorem joins_any (s0 s1 : ByteArray) (h0 : s0.size ≤ 9223372036854775807) (h1 : s1.size ≤ 9223372036854775807) (p : Int) (c : Nat) (hc : c < 256) (w : World) (ht : Tab w) :
    Calls Tryd.prog 6 #[.string s0, .string s1, .int .i64 p, .int .u8 (c : Int)] w (BoolPost true w) := by
  have HT := Lib.hid ht
  have hcv0 := fun w => conv_any w s0
  have hcv1 := fun w => conv_any w s1
  clear ht
  go_enter Tryd.func6, Tryd.ntmps6
  go_upto_if 22 with fail
  have f1 := (bytes_conv w s0).below (below_bytes (Lib.bytesWorld w 5 s0) 5 s1)
  have f2 := bytes_conv (Lib.bytesWorld w 5 s0) s1
  have f3 : Below w.heap.size w (Lib.bytesWorld (Lib.bytesWorld w 5 s0) 5 s1) := below_then (below_bytes _ _ _) (below_bytes _ _ _)
  have f4 : w.heap.size < (Lib.bytesWorld w 5 s0).heap.size := by rw [Lib.bytesWorld_size]; omega
  have f5 : (Lib.bytesWorld w 5 s0).heap.size < (Lib.bytesWorld (Lib.bytesWorld w 5 s0) 5 s1).heap.size := by rw [Lib.bytesWorld_size (Lib.bytesWorld w 5 s0)]; omega
  have f6 := grownCap_ge w s0.size 0 5
  have f7 := grownCap_ge (Lib.bytesWorld w 5 s0) s1.size 0 5
  clear hcv0 hcv1
  generalize grownCap w s0.size 0 5 = cx at f6 ⊢
  generalize grownCap (Lib.bytesWorld w 5 s0) s1.size 0 5 = cy at f7 ⊢
  generalize Lib.bytesWorld (Lib.bytesWorld w 5 s0) 5 s1 = W at f1 f2 f3 f5 ⊢
  generalize (Lib.bytesWorld w 5 s0).heap.size = gy at f2 f4 f5 ⊢
  have F1 := Lib.hid f1
  have F2 := Lib.hid f2
  have F3 := Lib.hid f3
  clear f1 f2 f3
  go_cut [9] from 23 to 24 (fun v wx => ∃ (l : List Nat) (k : Nat), v = .slice (some ⟨w.heap.size, 0, none⟩) k cx ∧ k ≤ 40 ∧ k ≤ cx ∧ Hid (l.length = k) ∧ Hid (Bytes W (some ⟨w.heap.size, 0, none⟩) l) ∧ wx = W)
  case first =>
    by_cases h40 : s0.size ≤ 40
    · have hd : decide ((40 : Int) < (s0.size : Int)) = false := by simp; omega
      go_wp2
      go_meet
      exact ⟨nums s0, s0.size, rfl, h40, f6, Lib.hid (nums_length s0), F1, rfl⟩
    · have hd : decide ((40 : Int) < (s0.size : Int)) = true := by simp; omega
      have hc0 : ¬ cx = 0 := by omega
      go_wp2
      go_meet
      have hp := F1.out.part 0 40 (by rw [nums_length]; omega) (some ⟨w.heap.size, 0, none⟩) (fun g' o' _ he => by rw [he]; rfl)
      rw [List.drop_zero] at hp
      exact ⟨(nums s0).take 40, 40, rfl, by omega, by omega, Lib.hid (by rw [List.length_take, nums_length]; omega), Lib.hid hp, rfl⟩
  case rest =>
    obtain ⟨lx, kx, rfl, hk40, hkc, HLX, HBX, rfl⟩ := hcut
    clear F1 f6 h0
    go_upto_if 27 with fail
    go_cut [10] from 28 to 29 (fun v wx => ∃ (l : List Nat) (k : Nat), v = .slice (some ⟨gy, 0, none⟩) k cy ∧ k ≤ 40 ∧ k ≤ cy ∧ Hid (l.length = k) ∧ Hid (Bytes wc (some ⟨gy, 0, none⟩) l) ∧ wx = wc)
    case first =>
      by_cases h40 : s1.size ≤ 40
      · have hd : decide ((40 : Int) < (s1.size : Int)) = false := by simp; omega
        go_wp2
        go_meet
        exact ⟨nums s1, s1.size, rfl, h40, f7, Lib.hid (nums_length s1), F2, rfl⟩
      · have hd : decide ((40 : Int) < (s1.size : Int)) = true := by simp; omega
        have hc0 : ¬ cy = 0 := by omega
        go_wp2
        go_meet
        have hp := F2.out.part 0 40 (by rw [nums_length]; omega) (some ⟨gy, 0, none⟩) (fun g' o' _ he => by rw [he]; rfl)
        rw [List.drop_zero] at hp
        exact ⟨(nums s1).take 40, 40, rfl, by omega, by omega, Lib.hid (by rw [List.length_take, nums_length]; omega), Lib.hid hp, rfl⟩
    case rest =>
      obtain ⟨ly, ky, rfl, hky40, hkyc, HLY, HBY, rfl⟩ := hcut
      clear F2 f7 h1
      have hnx := F3.out
      clear F3
      have CX := fun W ht hb => count_any (some ⟨w.heap.size, 0, none⟩) kx cx lx HLX.out hkc (by omega) W ht hb
      have CY := fun W ht hb => count_any (some ⟨gy, 0, none⟩) ky cy ly HLY.out hkyc (by omega) W ht hb
      have RX := fun W ht hb => right_any (some ⟨w.heap.size, 0, none⟩) kx cx lx HLX.out hkc (by omega) W ht hb
      have RY := fun W ht hb => right_any (some ⟨gy, 0, none⟩) ky cy ly HLY.out hkyc (by omega) W ht hb
      have wayx := cntI_ways lx
      have wayy := cntI_ways ly
      unfold CntPost at CX CY
      generalize cntI lx = zx at CX RX wayx
      generalize cntI ly = zy at CY RY wayy
      have HCX := Lib.hid CX
      have HCY := Lib.hid CY
      have HRX := Lib.hid RX
      have HRY := Lib.hid RY
      have HWX := Lib.hid wayx
      have HWY := Lib.hid wayy
      clear CX CY RX RY wayx wayy
      go_wp2_with fail
      go_at_call 12
      refine (HCX.out _ (HT.out.below hnx) HBX.out).mono ?_
      rintro e w1 ⟨rfl, hb⟩
      replace hnx := below_then hnx hb
      replace HBX := Lib.hid (HBX.out.below hb)
      replace HBY := Lib.hid (HBY.out.below hb)
      replace f5 := Nat.lt_of_lt_of_le f5 hb.size
      clear hb
      go_wp2_with fail
      go_at_call 12
      refine (HCY.out _ (HT.out.below hnx) HBY.out).mono ?_
      rintro e w2 ⟨rfl, hb⟩
      replace hnx := below_then hnx hb
      replace HBX := Lib.hid (HBX.out.below hb)
      replace HBY := Lib.hid (HBY.out.below hb)
      replace f5 := Nat.lt_of_lt_of_le f5 hb.size
      clear hb HCX HCY
      go_upto_region 8 with (first
        | (at_builtin; refine wpList_append_bytes rfl (.tmp 34) (.tmp 35) rfl w2.heap.size w2.heap.size 0 0 [] rfl (empty_own w2 _ (Nat.le_refl _)) (some ⟨w.heap.size, 0, none⟩) kx cx lx rfl HLX.out (HBX.out.below (below_alloc w2 _)) (by omega) (by simp) ?_; intro g1 cp1 w3 ha1; have ho1 := ha1.own; simp only [Nat.zero_add, List.nil_append] at ho1; have HBX3 := Lib.hid (ha1.farB (HBX.out.below (below_alloc w2 _)) (by omega)); have HBY3 := Lib.hid (ha1.farB (HBY.out.below (below_alloc w2 _)) (by omega)); have hnx3 := ha1.belowB (hnx.alloc hnx.size _) hnx.size; have hg1 := ha1.goes (Nat.le_refl _) (by simp); have HO1 := Lib.hid ho1; clear ho1 ha1)
        | (at_builtin; refine wpList_append_bytes rfl (.tmp 36) (.tmp 37) rfl w2.heap.size g1 kx cp1 lx rfl HO1.out (some ⟨gy, 0, none⟩) ky cy ly rfl HLY.out HBY3.out (by omega) hg1.2 ?_; intro g2 cp2 w4 ha2))
      have hall := ha2.newB HLX.out HLY.out HBX.out.1 HBY.out.1
      have HAX := Lib.hid (fun W ht hb => count_any (some ⟨g2, 0, none⟩) (kx + ky) cp2 (lx ++ ly) (by rw [List.length_append, HLX.out, HLY.out]) hall.2 (by omega) W ht hb)
      have HALL := Lib.hid hall.1
      have HBX4 := Lib.hid (ha2.farB HBX3.out (by omega))
      have HBY4 := Lib.hid (ha2.farB HBY3.out (by omega))
      have hnx4 := ha2.belowB hnx3 (by omega)
      have f8 : w.heap.size < w4.heap.size := by have := ha2.grown.size; omega
      clear ha2 hall HO1 HBX3 HBY3 hnx3 hg1 hnx HBX HBY f5
      go_cut [66] from 39 to 65 (fun v wx => v = .bool false ∧ Below w4.heap.size w4 wx)
      case first =>
        have hb4 : Below w4.heap.size w4 w4 := Below.refl _ _
        have HAP := Lib.hid (fun n m hx hy => cntI_append (x := lx) (y := ly) (n := n) (m := m) hx hy)
        rcases HWX.out with ⟨hx, rfl⟩ | ⟨n, hx, rfl, hn⟩
        · rcases HWY.out with ⟨hy, rfl⟩ | ⟨m, hy, rfl, hm⟩
          all_goals
            clear HWX HWY hx hy
            go_wp2_with fail
            go_at_call 13
            refine (HRX.out _ (HT.out.below (below_then hnx4 hb4)) (HBX4.out.below hb4)).mono ?_
            rintro e w5 ⟨rfl, hb⟩
            replace hb4 := below_then hb4 hb
            clear hb
            go_wp2_with fail
            go_at_call 13
            refine (HRY.out _ (HT.out.below (below_then hnx4 hb4)) (HBY4.out.below hb4)).mono ?_
            rintro e w6 ⟨rfl, hb⟩
            replace hb4 := below_then hb4 hb
            clear hb
            go_wp2_with fail
            go_meet
            exact ⟨rfl, hb4⟩
        · rcases HWY.out with ⟨hy, rfl⟩ | ⟨m, hy, rfl, hm⟩
          · clear HWX HWY hx hy
            go_wp2_with fail
            go_at_call 13
            refine (HRX.out _ (HT.out.below (below_then hnx4 hb4)) (HBX4.out.below hb4)).mono ?_
            rintro e w5 ⟨rfl, hb⟩
            replace hb4 := below_then hb4 hb
            clear hb
            go_wp2_with fail
            go_at_call 13
            refine (HRY.out _ (HT.out.below (below_then hnx4 hb4)) (HBY4.out.below hb4)).mono ?_
            rintro e w6 ⟨rfl, hb⟩
            replace hb4 := below_then hb4 hb
            clear hb
            go_wp2_with fail
            go_meet
            exact ⟨rfl, hb4⟩
          · have hap := HAP.out n m hx hy
            unfold CntPost at HAX
            rw [hap] at HAX
            have hn40 : n ≤ 40 := by have := HLX.out; omega
            have hm40 : m ≤ 40 := by have := HLY.out; omega
            clear HWX HWY hx hy hap
            go_wp2_with fail
            go_at_call 13
            refine (HRX.out _ (HT.out.below (below_then hnx4 hb4)) (HBX4.out.below hb4)).mono ?_
            rintro e w5 ⟨rfl, hb⟩
            replace hb4 := below_then hb4 hb
            clear hb
            go_wp2_with fail
            go_at_call 13
            refine (HRY.out _ (HT.out.below (below_then hnx4 hb4)) (HBY4.out.below hb4)).mono ?_
            rintro e w6 ⟨rfl, hb⟩
            replace hb4 := below_then hb4 hb
            clear hb
            go_wp2_with fail
            go_at_call 12
            refine (HAX.out _ (HT.out.below (below_then hnx4 hb4)) (HALL.out.below hb4)).mono ?_
            rintro e w7 ⟨rfl, hb⟩
            replace hb4 := below_then hb4 hb
            clear hb
            go_wp2_with fail
            go_meet
            exact ⟨rfl, hb4⟩
      case rest =>
        obtain ⟨rfl, hb4⟩ := hcut
        have hnx5 := below_then hnx4 hb4
        have HBX5 := Lib.hid (HBX4.out.below hb4)
        have f9 := Nat.lt_of_lt_of_le f8 hb4.size
        clear hnx4 HBX4 HBY4 HALL HAX hb4 f8 HRX HRY HWY
        rcases HWX.out with ⟨hx, rfl⟩ | ⟨n, hx, rfl, hn⟩
        · clear HWX hx
          go_wp2_with fail
          go_at_call 8
          refine (known_any _ (HT.out.below hnx5)).mono ?_
          rintro e w7 ⟨rfl, hb⟩
          replace hnx5 := below_then hnx5 hb
          clear hb
          go_wp2
          go_ret
          exact ⟨rfl, hnx5⟩
        · have dn : decide ((n : Int) < 0) = false := by simp
          have HCX := Lib.hid hx
          clear HWX hx
          go_wp2_with fail
          go_at_call 9
          refine (within0_any p kx (by omega) _).mono ?_
          rintro e w' ⟨⟨q, hq, rfl⟩, rfl⟩
          go_upto_region 13 with fail
          go_cut [15] from 74 to 86 (fun v wx => ∃ (lz : List Nat) (g3 kz cz : Nat), v = .slice (some ⟨g3, 0, none⟩) kz cz ∧ kz ≤ 1000 ∧ kz ≤ cz ∧ Hid (lz.length = kz) ∧ Hid (Bytes wx (some ⟨g3, 0, none⟩) lz) ∧ Hid (charsB lz = none) ∧ Below w.heap.size w wx)
          case first =>
            obtain ⟨y, hor, hy1, hy2⟩ := or128 c hc
            obtain ⟨AX, hsl, hpx⟩ := slice_from w.heap.size kx cx q hq hkc
            have HPX := Lib.hid hpx
            have HZ := Lib.hid (charsB_more HCX.out q y hy1)
            replace hnx5 := hnx5.drew
            have hbx : Bytes wc.drew (some ⟨w.heap.size, 0, none⟩) lx := HBX5.out
            replace f9 : w.heap.size < wc.drew.heap.size := f9
            clear hpx HBX5
            refine wp_region_held_drew (S := fun _ => True) (by kernel_rfl) trivial (fun _ => ?_)
            generalize wc.drew = W at hnx5 hbx f9 ⊢
            have hS : (fun _ : World => True) W := trivial
            have hqc : q ≤ cx := by omega
            show wpAnyH _ _ _ _ _ 14 #[false, false, false, false, false, false, false, false, false, false, false, false, false, false] _ _
            refine wpAnyH_take (i := 1) (oi := ⟨some 75, _, _, _, _, _⟩) (v := ?_) rfl (by kernel_rfl) (by kernel_rfl) (by kernel_rfl) (fun _ _ _ h => h) (Or.inl ⟨by rfl, ?_⟩) hS ?_
            rotate_left
            · intro w' hSw; go_simp; try with_reducible rfl
            try simp only [Act.put, List.setIfInBounds_toArray, List.set]
            refine wpAnyH_take (i := 2) (oi := ⟨some 76, _, _, _, _, _⟩) (v := ?_) rfl (by kernel_rfl) (by kernel_rfl) (by kernel_rfl) (fun _ _ _ h => h) (Or.inl ⟨by rfl, ?_⟩) hS ?_
            rotate_left
            · intro w' hSw; go_simp; try with_reducible rfl
            try simp only [Act.put, List.setIfInBounds_toArray, List.set]
            refine wpAnyH_take (i := 3) (oi := ⟨some 77, _, _, _, _, _⟩) (v := ?_) rfl (by kernel_rfl) (by kernel_rfl) (by kernel_rfl) (fun _ _ _ h => h) (Or.inl ⟨by rfl, ?_⟩) hS ?_
            rotate_left
            · intro w' hSw; go_simp; try with_reducible rfl
            try simp only [Act.put, List.setIfInBounds_toArray, List.set]
            refine wpAnyH_take (i := 5) (oi := ⟨some 79, _, _, _, _, _⟩) (v := ?_) rfl (by kernel_rfl) (by kernel_rfl) (by kernel_rfl) (fun _ _ _ h => h) (Or.inl ⟨by rfl, ?_⟩) hS ?_
            rotate_left
            · intro w' hSw; go_simp; try with_reducible rfl
            try simp only [Act.put, List.setIfInBounds_toArray, List.set]
            refine wpAnyH_take (i := 6) (oi := ⟨some 80, _, _, _, _, _⟩) (v := ?_) rfl (by kernel_rfl) (by kernel_rfl) (by kernel_rfl) (fun _ _ _ h => h) (Or.inl ⟨by rfl, ?_⟩) hS ?_
            rotate_left
            · intro w' hSw; go_simp; try with_reducible rfl
            try simp only [Act.put, List.setIfInBounds_toArray, List.set]
            refine wpAnyH_take (i := 9) (oi := ⟨some 83, _, _, _, _, _⟩) (v := ?_) rfl (by kernel_rfl) (by kernel_rfl) (by kernel_rfl) (fun _ _ _ h => h) (Or.inl ⟨by rfl, ?_⟩) hS ?_
            rotate_left
            · intro w' hSw; go_simp; try with_reducible rfl
            try simp only [Act.put, List.setIfInBounds_toArray, List.set]
            refine wpAnyH_take (i := 10) (oi := ⟨some 84, _, _, _, _, _⟩) (v := ?_) rfl (by kernel_rfl) (by kernel_rfl) (by kernel_rfl) (fun _ _ _ h => h) (Or.inl ⟨by rfl, ?_⟩) hS ?_
            rotate_left
            · intro w' hSw; go_simp; try with_reducible rfl
            try simp only [Act.put, List.setIfInBounds_toArray, List.set]
            refine wpAnyH_take (i := 11) (oi := ⟨some 85, _, _, _, _, _⟩) (v := ?_) rfl (by kernel_rfl) (by kernel_rfl) (by kernel_rfl) (fun _ _ _ h => h) (Or.inl ⟨by rfl, ?_⟩) hS ?_
            rotate_left
            · intro w' hSw; go_simp; try with_reducible rfl
            try simp only [Act.put, List.setIfInBounds_toArray, List.set]
            refine wpAnyH_ready (rs := [0, 7]) (by kernel_rfl) (by simp) ?_
            refine AllReadyH.cons (o := ⟨some 74, _, _, _, _, _⟩) rfl (fun K hK => ?_) (AllReadyH.cons (o := ⟨some 81, _, _, _, _, _⟩) rfl (fun K hK => ?_) AllReadyH.nil)
            · go_simp
              refine hK.out _ _ trivial (fun hS' => ?_)
              clear hK K
              clear hS
              have hS := hS'
              clear hS'
              try simp only [Act.put, List.setIfInBounds_toArray, List.set]
              have un := empty_own (W) W.heap.size (by simp <;> omega)
              replace hbx := hbx.below (below_alloc (W) (.cells #[] 5))
              replace hnx5 := below_then hnx5 (below_alloc (W) (.cells #[] 5))
              have hbs : W.heap.size ≤ ((W).alloc (.cells #[] 5)).heap.size := by simp <;> omega
              refine wpAnyH_ready (rs := [4, 7]) (by kernel_rfl) (by simp) ?_
              refine AllReadyH.cons (o := ⟨some 78, _, _, _, _, _⟩) rfl (fun K hK => ?_) (AllReadyH.cons (o := ⟨some 81, _, _, _, _, _⟩) rfl (fun K hK => ?_) AllReadyH.nil)
              · rw [if_pos (by rfl)]
                have hpt := hbx.part 0 q (by rw [HLX.out]; omega) (some ⟨w.heap.size, 0, none⟩) (fun g' o' _ he => by rw [he]; rfl)
                rw [List.drop_zero] at hpt
                refine wp_append_bytes (.tmp 74) (.tmp 77) (by rfl) W.heap.size _ 0 0 [] (by rfl) un (some ⟨w.heap.size, 0, none⟩) q cx (lx.take q) (by rfl) (by rw [List.length_take, HLX.out]; omega) hpt (by omega) hbs ?_
                intro g1 cp1 X1 ha
                have un := ha.own
                simp only [Nat.zero_add, List.nil_append] at un
                have hgo := ha.goes (by simp) hbs
                replace hnx5 := ha.belowB hnx5 (by omega)
                replace hbx := ha.farB hbx (by simp; omega)
                have hg1 := hgo.1
                replace hbs := hgo.2
                clear ha hpt hgo
                refine hK.out _ _ trivial (fun hS' => ?_)
                clear hK K
                clear hS
                have hS := hS'
                clear hS'
                try simp only [Act.put, List.setIfInBounds_toArray, List.set]
                try simp only [Nat.zero_add]
                refine wpAnyH_ready (rs := [7]) (by kernel_rfl) (by simp) ?_
                refine AllReadyH.cons (o := ⟨some 81, _, _, _, _, _⟩) rfl (fun K hK => ?_) AllReadyH.nil
                go_simp
                refine hK.out _ _ trivial (fun hS' => ?_)
                clear hK K
                clear hS
                have hS := hS'
                clear hS'
                try simp only [Act.put, List.setIfInBounds_toArray, List.set]
                have hcy := bytes_new X1 [y] (by intro x hx; simp only [List.mem_singleton] at hx; omega)
                replace hbx := hbx.below (below_alloc X1 (.cells #[.int .u8 (y : Int)] 5))
                replace hnx5 := below_then hnx5 (below_alloc X1 (.cells #[.int .u8 (y : Int)] 5))
                replace un := un.alloc (.cells #[.int .u8 (y : Int)] 5)
                replace hbs : W.heap.size ≤ (X1.alloc (.cells #[.int .u8 (y : Int)] 5)).heap.size := by simp; omega
                refine wpAnyH_ready (rs := [8]) (by kernel_rfl) (by simp) ?_
                refine AllReadyH.cons (o := ⟨some 82, _, _, _, _, _⟩) rfl (fun K hK => ?_) AllReadyH.nil
                rw [if_pos (by rfl)]
                refine wp_append_bytes (.tmp 78) (.tmp 81) (by rfl) W.heap.size g1 q cp1 (lx.take q) (by rfl) un (some ⟨X1.heap.size, 0, none⟩) 1 1 [y] (by rfl) rfl hcy (by omega) hbs ?_
                intro g2 cp2 X2 ha
                have un := ha.own
                have hgo := ha.goes hg1 hbs
                replace hnx5 := ha.belowB hnx5 (by omega)
                replace hbx := ha.farB hbx (by omega)
                have hg2 := hgo.1
                replace hbs := hgo.2
                clear ha hgo hcy
                refine hK.out _ _ trivial (fun hS' => ?_)
                clear hK K
                clear hS
                have hS := hS'
                clear hS'
                try simp only [Act.put, List.setIfInBounds_toArray, List.set]
                refine wpAnyH_ready (rs := [12]) (by kernel_rfl) (by simp) ?_
                refine AllReadyH.cons (o := ⟨some 86, _, _, _, _, _⟩) rfl (fun K hK => ?_) AllReadyH.nil
                rw [if_pos (by rfl)]
                have hpx := HPX.out _ lx HLX.out hbx
                refine wp_append_bytes (.tmp 82) (.tmp 85) (by rfl) W.heap.size g2 (q + 1) cp2 (lx.take q ++ [y]) (by rfl) un (some AX) (kx - q) (cx - q) (lx.drop q) (by rfl) (by rw [List.length_drop, HLX.out]) hpx (by omega) hbs ?_
                intro g3 cp3 X3 ha
                have hnz := ha.newB (by rw [List.length_append, List.length_take, HLX.out]; simp; omega) (by rw [List.length_drop, HLX.out]) (fun x hx => (List.mem_append.1 hx).elim (fun h => hbx.1 x (List.mem_of_mem_take h)) (fun h => by simp only [List.mem_singleton] at h; omega)) (fun x hx => hbx.1 x (List.mem_of_mem_drop hx))
                replace hnx5 := ha.belowB hnx5 (by omega)
                clear ha hpx
                refine hK.out _ _ trivial (fun hS' => ?_)
                clear hK K
                clear hS
                have hS := hS'
                clear hS'
                try simp only [Act.put, List.setIfInBounds_toArray, List.set]
                refine wpAnyH_take (i := 13) (oi := ⟨some 15, _, _, _, _, _⟩) (v := ?_) rfl (by kernel_rfl) (by kernel_rfl) (by kernel_rfl) (fun _ _ _ h => h) (Or.inl ⟨by rfl, ?_⟩) hS ?_
                rotate_left
                · intro w' hSw; go_simp; try with_reducible rfl
                try simp only [Act.put, List.setIfInBounds_toArray, List.set]
                refine wpAnyH_done (by kernel_rfl) ?_ _
                go_wp2_with fail
                go_meet
                exact ⟨lx.take q ++ [y] ++ lx.drop q, g3, q + 1 + (kx - q), cp3, rfl, by omega, hnz.2, Lib.hid (by rw [List.length_append, List.length_append, List.length_take, List.length_drop, HLX.out]; simp; omega), Lib.hid hnz.1, Lib.hid (by rw [List.append_assoc]; exact HZ.out), hnx5⟩
              · go_simp
                refine hK.out _ _ trivial (fun hS' => ?_)
                clear hK K
                clear hS
                have hS := hS'
                clear hS'
                try simp only [Act.put, List.setIfInBounds_toArray, List.set]
                have hcy := bytes_new (W.alloc (.cells #[] 5)) [y] (by intro x hx; simp only [List.mem_singleton] at hx; omega)
                rw [show (W.alloc (.cells #[] 5)).heap.size = W.heap.size + 1 by simp] at hcy
                replace hbx := hbx.below (below_alloc (W.alloc (.cells #[] 5)) (.cells #[.int .u8 (y : Int)] 5))
                replace hnx5 := below_then hnx5 (below_alloc (W.alloc (.cells #[] 5)) (.cells #[.int .u8 (y : Int)] 5))
                replace un := un.alloc (.cells #[.int .u8 (y : Int)] 5)
                replace hbs : W.heap.size ≤ ((W.alloc (.cells #[] 5)).alloc (.cells #[.int .u8 (y : Int)] 5)).heap.size := by simp; omega
                refine wpAnyH_ready (rs := [4]) (by kernel_rfl) (by simp) ?_
                refine AllReadyH.cons (o := ⟨some 78, _, _, _, _, _⟩) rfl (fun K hK => ?_) AllReadyH.nil
                rw [if_pos (by rfl)]
                have hpt := hbx.part 0 q (by rw [HLX.out]; omega) (some ⟨w.heap.size, 0, none⟩) (fun g' o' _ he => by rw [he]; rfl)
                rw [List.drop_zero] at hpt
                refine wp_append_bytes (.tmp 74) (.tmp 77) (by rfl) W.heap.size _ 0 0 [] (by rfl) un (some ⟨w.heap.size, 0, none⟩) q cx (lx.take q) (by rfl) (by rw [List.length_take, HLX.out]; omega) hpt (by omega) hbs ?_
                intro g1 cp1 X1 ha
                have un := ha.own
                simp only [Nat.zero_add, List.nil_append] at un
                have hgo := ha.goes (by simp) hbs
                replace hnx5 := ha.belowB hnx5 (by omega)
                replace hbx := ha.farB hbx (by simp; omega)
                replace hcy := ha.farB hcy (by simp)
                have hg1 := hgo.1
                replace hbs := hgo.2
                clear ha hpt hgo
                refine hK.out _ _ trivial (fun hS' => ?_)
                clear hK K
                clear hS
                have hS := hS'
                clear hS'
                try simp only [Act.put, List.setIfInBounds_toArray, List.set]
                try simp only [Nat.zero_add]
                refine wpAnyH_ready (rs := [8]) (by kernel_rfl) (by simp) ?_
                refine AllReadyH.cons (o := ⟨some 82, _, _, _, _, _⟩) rfl (fun K hK => ?_) AllReadyH.nil
                rw [if_pos (by rfl)]
                refine wp_append_bytes (.tmp 78) (.tmp 81) (by rfl) W.heap.size g1 q cp1 (lx.take q) (by rfl) un (some ⟨W.heap.size + 1, 0, none⟩) 1 1 [y] (by rfl) rfl hcy (by omega) hbs ?_
                intro g2 cp2 X2 ha
                have un := ha.own
                have hgo := ha.goes hg1 hbs
                replace hnx5 := ha.belowB hnx5 (by omega)
                replace hbx := ha.farB hbx (by omega)
                have hg2 := hgo.1
                replace hbs := hgo.2
                clear ha hgo hcy
                refine hK.out _ _ trivial (fun hS' => ?_)
                clear hK K
                clear hS
                have hS := hS'
                clear hS'
                try simp only [Act.put, List.setIfInBounds_toArray, List.set]
                refine wpAnyH_ready (rs := [12]) (by kernel_rfl) (by simp) ?_
                refine AllReadyH.cons (o := ⟨some 86, _, _, _, _, _⟩) rfl (fun K hK => ?_) AllReadyH.nil
                rw [if_pos (by rfl)]
                have hpx := HPX.out _ lx HLX.out hbx
                refine wp_append_bytes (.tmp 82) (.tmp 85) (by rfl) W.heap.size g2 (q + 1) cp2 (lx.take q ++ [y]) (by rfl) un (some AX) (kx - q) (cx - q) (lx.drop q) (by rfl) (by rw [List.length_drop, HLX.out]) hpx (by omega) hbs ?_
                intro g3 cp3 X3 ha
                have hnz := ha.newB (by rw [List.length_append, List.length_take, HLX.out]; simp; omega) (by rw [List.length_drop, HLX.out]) (fun x hx => (List.mem_append.1 hx).elim (fun h => hbx.1 x (List.mem_of_mem_take h)) (fun h => by simp only [List.mem_singleton] at h; omega)) (fun x hx => hbx.1 x (List.mem_of_mem_drop hx))
                replace hnx5 := ha.belowB hnx5 (by omega)
                clear ha hpx
                refine hK.out _ _ trivial (fun hS' => ?_)
                clear hK K
                clear hS
                have hS := hS'
                clear hS'
                try simp only [Act.put, List.setIfInBounds_toArray, List.set]
                refine wpAnyH_take (i := 13) (oi := ⟨some 15, _, _, _, _, _⟩) (v := ?_) rfl (by kernel_rfl) (by kernel_rfl) (by kernel_rfl) (fun _ _ _ h => h) (Or.inl ⟨by rfl, ?_⟩) hS ?_
                rotate_left
                · intro w' hSw; go_simp; try with_reducible rfl
                try simp only [Act.put, List.setIfInBounds_toArray, List.set]
                refine wpAnyH_done (by kernel_rfl) ?_ _
                go_wp2_with fail
                go_meet
                exact ⟨lx.take q ++ [y] ++ lx.drop q, g3, q + 1 + (kx - q), cp3, rfl, by omega, hnz.2, Lib.hid (by rw [List.length_append, List.length_append, List.length_take, List.length_drop, HLX.out]; simp; omega), Lib.hid hnz.1, Lib.hid (by rw [List.append_assoc]; exact HZ.out), hnx5⟩
            · go_simp
              refine hK.out _ _ trivial (fun hS' => ?_)
              clear hK K
              clear hS
              have hS := hS'
              clear hS'
              try simp only [Act.put, List.setIfInBounds_toArray, List.set]
              have hcy := bytes_new W [y] (by intro x hx; simp only [List.mem_singleton] at hx; omega)
              replace hbx := hbx.below (below_alloc W (.cells #[.int .u8 (y : Int)] 5))
              replace hnx5 := below_then hnx5 (below_alloc W (.cells #[.int .u8 (y : Int)] 5))
              refine wpAnyH_ready (rs := [0]) (by kernel_rfl) (by simp) ?_
              refine AllReadyH.cons (o := ⟨some 74, _, _, _, _, _⟩) rfl (fun K hK => ?_) AllReadyH.nil
              go_simp
              refine hK.out _ _ trivial (fun hS' => ?_)
              clear hK K
              clear hS
              have hS := hS'
              clear hS'
              try simp only [Act.put, List.setIfInBounds_toArray, List.set]
              have un := empty_own (W.alloc (.cells #[.int .u8 (y : Int)] 5)) W.heap.size (by simp <;> omega)
              replace hbx := hbx.below (below_alloc (W.alloc (.cells #[.int .u8 (y : Int)] 5)) (.cells #[] 5))
              replace hnx5 := below_then hnx5 (below_alloc (W.alloc (.cells #[.int .u8 (y : Int)] 5)) (.cells #[] 5))
              have hbs : W.heap.size ≤ ((W.alloc (.cells #[.int .u8 (y : Int)] 5)).alloc (.cells #[] 5)).heap.size := by simp <;> omega
              rw [show (W.alloc (.cells #[.int .u8 (y : Int)] 5)).heap.size = W.heap.size + 1 by simp] at un
              replace hcy := hcy.below (below_alloc (W.alloc (.cells #[.int .u8 (y : Int)] 5)) (.cells #[] 5))
              refine wpAnyH_ready (rs := [4]) (by kernel_rfl) (by simp) ?_
              refine AllReadyH.cons (o := ⟨some 78, _, _, _, _, _⟩) rfl (fun K hK => ?_) AllReadyH.nil
              rw [if_pos (by rfl)]
              have hpt := hbx.part 0 q (by rw [HLX.out]; omega) (some ⟨w.heap.size, 0, none⟩) (fun g' o' _ he => by rw [he]; rfl)
              rw [List.drop_zero] at hpt
              refine wp_append_bytes (.tmp 74) (.tmp 77) (by rfl) W.heap.size _ 0 0 [] (by rfl) un (some ⟨w.heap.size, 0, none⟩) q cx (lx.take q) (by rfl) (by rw [List.length_take, HLX.out]; omega) hpt (by omega) hbs ?_
              intro g1 cp1 X1 ha
              have un := ha.own
              simp only [Nat.zero_add, List.nil_append] at un
              have hgo := ha.goes (by simp) hbs
              replace hnx5 := ha.belowB hnx5 (by omega)
              replace hbx := ha.farB hbx (by simp; omega)
              replace hcy := ha.farB hcy (by simp)
              have hg1 := hgo.1
              replace hbs := hgo.2
              clear ha hpt hgo
              refine hK.out _ _ trivial (fun hS' => ?_)
              clear hK K
              clear hS
              have hS := hS'
              clear hS'
              try simp only [Act.put, List.setIfInBounds_toArray, List.set]
              try simp only [Nat.zero_add]
              refine wpAnyH_ready (rs := [8]) (by kernel_rfl) (by simp) ?_
              refine AllReadyH.cons (o := ⟨some 82, _, _, _, _, _⟩) rfl (fun K hK => ?_) AllReadyH.nil
              rw [if_pos (by rfl)]
              refine wp_append_bytes (.tmp 78) (.tmp 81) (by rfl) W.heap.size g1 q cp1 (lx.take q) (by rfl) un (some ⟨W.heap.size, 0, none⟩) 1 1 [y] (by rfl) rfl hcy (by omega) hbs ?_
              intro g2 cp2 X2 ha
              have un := ha.own
              have hgo := ha.goes hg1 hbs
              replace hnx5 := ha.belowB hnx5 (by omega)
              replace hbx := ha.farB hbx (by omega)
              have hg2 := hgo.1
              replace hbs := hgo.2
              clear ha hgo hcy
              refine hK.out _ _ trivial (fun hS' => ?_)
              clear hK K
              clear hS
              have hS := hS'
              clear hS'
              try simp only [Act.put, List.setIfInBounds_toArray, List.set]
              refine wpAnyH_ready (rs := [12]) (by kernel_rfl) (by simp) ?_
              refine AllReadyH.cons (o := ⟨some 86, _, _, _, _, _⟩) rfl (fun K hK => ?_) AllReadyH.nil
              rw [if_pos (by rfl)]
              have hpx := HPX.out _ lx HLX.out hbx
              refine wp_append_bytes (.tmp 82) (.tmp 85) (by rfl) W.heap.size g2 (q + 1) cp2 (lx.take q ++ [y]) (by rfl) un (some AX) (kx - q) (cx - q) (lx.drop q) (by rfl) (by rw [List.length_drop, HLX.out]) hpx (by omega) hbs ?_
              intro g3 cp3 X3 ha
              have hnz := ha.newB (by rw [List.length_append, List.length_take, HLX.out]; simp; omega) (by rw [List.length_drop, HLX.out]) (fun x hx => (List.mem_append.1 hx).elim (fun h => hbx.1 x (List.mem_of_mem_take h)) (fun h => by simp only [List.mem_singleton] at h; omega)) (fun x hx => hbx.1 x (List.mem_of_mem_drop hx))
              replace hnx5 := ha.belowB hnx5 (by omega)
              clear ha hpx
              refine hK.out _ _ trivial (fun hS' => ?_)
              clear hK K
              clear hS
              have hS := hS'
              clear hS'
              try simp only [Act.put, List.setIfInBounds_toArray, List.set]
              refine wpAnyH_take (i := 13) (oi := ⟨some 15, _, _, _, _, _⟩) (v := ?_) rfl (by kernel_rfl) (by kernel_rfl) (by kernel_rfl) (fun _ _ _ h => h) (Or.inl ⟨by rfl, ?_⟩) hS ?_
              rotate_left
              · intro w' hSw; go_simp; try with_reducible rfl
              try simp only [Act.put, List.setIfInBounds_toArray, List.set]
              refine wpAnyH_done (by kernel_rfl) ?_ _
              go_wp2_with fail
              go_meet
              exact ⟨lx.take q ++ [y] ++ lx.drop q, g3, q + 1 + (kx - q), cp3, rfl, by omega, hnz.2, Lib.hid (by rw [List.length_append, List.length_append, List.length_take, List.length_drop, HLX.out]; simp; omega), Lib.hid hnz.1, Lib.hid (by rw [List.append_assoc]; exact HZ.out), hnx5⟩
          case rest =>
            obtain ⟨lz, g3, kz, cz, rfl, hkz, hkzc, HLZ, HBZ, HNZ, hnx6⟩ := hcut
            have CZ := fun W ht hb => count_any (some ⟨g3, 0, none⟩) kz cz lz HLZ.out hkzc (by omega) W ht hb
            have RZ := fun W ht hb => right_any (some ⟨g3, 0, none⟩) kz cz lz HLZ.out hkzc (by omega) W ht hb
            unfold CntPost at CZ
            rw [cntI_none HNZ.out] at CZ RZ
            have HCZ := Lib.hid CZ
            have HRZ := Lib.hid RZ
            clear CZ RZ hnx5 HBX5 f9
            go_wp2_with fail
            go_at_call 13
            refine (HRZ.out _ (HT.out.below hnx6) HBZ.out).mono ?_
            rintro e w7 ⟨rfl, hb⟩
            replace hnx6 := below_then hnx6 hb
            replace HBZ := Lib.hid (HBZ.out.below hb)
            clear hb
            go_wp2_with fail
            go_at_call 12
            refine (HCZ.out _ (HT.out.below hnx6) HBZ.out).mono ?_
            rintro e w8 ⟨rfl, hb⟩
            replace hnx6 := below_then hnx6 hb
            clear hb
            go_wp2_with fail
            go_at_call 8
            refine (known_any _ (HT.out.below hnx6)).mono ?_
            rintro e w9 ⟨rfl, hb⟩
            replace hnx6 := below_then hnx6 hb
            clear hb
            go_wp2
            go_ret
            exact ⟨rfl, hnx6⟩
end Go.Proofs.YtmcippkhfjgkoaaDoor
