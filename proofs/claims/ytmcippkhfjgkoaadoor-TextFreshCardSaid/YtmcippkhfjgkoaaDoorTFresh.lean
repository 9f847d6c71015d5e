/-
  TextFresh: the walk.
-/
import Derived.Test.YtmcippkhfjgkoaaDoorTkn
import Derived.Test.YtmcippkhfjgkoaaDoorTlnum
import Derived.Test.YtmcippkhfjgkoaaDoorTheld
import Derived.Deep.CutRange
import Derived.Deep.CutBlock
namespace Go.Proofs.YtmcippkhfjgkoaaDoor
open Go.RowKit
set_option linter.unusedSimpArgs false

abbrev SmallAll (T : List ByteArray) : Prop := ∀ t ∈ T, t.size ≤ 9223372036854775807
theorem small_push {T : List ByteArray} {t : ByteArray} (h : SmallAll T) (ht : t.size ≤ 9223372036854775807) : SmallAll (T ++ [t]) := fun x hx => by
  rcases List.mem_append.1 hx with hx | hx
  · exact h x hx
  · simp only [List.mem_singleton] at hx; rw [hx]; exact ht
theorem small_getD {T : List ByteArray} (h : SmallAll T) (j : Nat) : (T.getD j ByteArray.empty).size ≤ 9223372036854775807 := by
  by_cases hj : j < T.length
  · have e : T.getD j ByteArray.empty = T[j] := by simp [List.getD, hj]
    rw [e]; exact h _ (List.getElem_mem hj)
  · have e : T.getD j ByteArray.empty = ByteArray.empty := by
      rw [List.getD_eq_getElem?_getD, List.getElem?_eq_none (by omega)]; rfl
    rw [e]; exact Nat.zero_le _

theorem hasS_succ {T : List ByteArray} {s : ByteArray} {t : Nat} (ht : t < T.length) : hasS (T.take (t + 1)) s = (hasS (T.take t) s || decide (nums (T.getD t ByteArray.empty) = nums s)) := by
  unfold hasS
  rw [take_one_more ht, List.map_append, Bool.eq_iff_iff]
  simp only [List.map_cons, List.map_nil, List.mem_append, List.mem_singleton, decide_eq_true_eq, Bool.or_eq_true]
  exact or_congr Iff.rfl eq_comm
theorem hasS_same {T : List ByteArray} {s t : ByteArray} (h : nums s = nums t) : hasS T s = hasS T t := by unfold hasS; rw [h]
theorem hasS_mem {T : List ByteArray} {s : ByteArray} (h : hasS T s = true) : nums s ∈ T.map nums := by unfold hasS at h; exact of_decide_eq_true h
theorem hasS_not {T : List ByteArray} {s : ByteArray} (h : hasS T s = false) : nums s ∉ T.map nums := by unfold hasS at h; exact of_decide_eq_false h

set_option maxRecDepth 100000 in
set_option maxHeartbeats 8000000 in
theorem fresh_law (A : Option Addr) (cap n : Nat) (T0 : List ByteArray) (hT : T0.length = n) (hn : n ≤ 9223372036854775807) (hsz : ∀ j, (T0.getD j ByteArray.empty).size ≤ 9223372036854775807) (s0 : ByteArray) (hs63 : s0.size ≤ 9223372036854775807) (k : Int) (w : World) (ht : Tab w) (hA : Names w A T0) :
    Calls Tryd.prog 5 #[.slice A n cap, .string s0, .int .i64 k] w (BoolPost true w) := by
  have HT0 := Lib.hid hT
  have HSZ := Lib.hid hsz
  have HTB := Lib.hid ht
  have HA := Lib.hid hA
  clear hT hsz ht hA
  go_enter Tryd.func5, Tryd.ntmps5
  go_upto_if 16 with fail
  go_cut [1] from 17 to 18 (fun v wx => ∃ s : ByteArray, v = .string s ∧ s.size ≤ 10 ∧ wx = w)
  case first =>
    by_cases h60 : s0.size ≤ 10
    · have hd : decide ((10 : Int) < (s0.size : Int)) = false := by simp; omega
      go_wp2
      go_meet
      exact ⟨s0, rfl, h60, rfl⟩
    · have hd : decide ((10 : Int) < (s0.size : Int)) = true := by simp; omega
      go_wp2
      go_meet
      exact ⟨s0.extract 0 10, rfl, by rw [ByteArray.size_extract]; omega, rfl⟩
  case rest =>
    obtain ⟨W, rfl, hs10, rfl⟩ := hcut
    obtain ⟨w0, rfl⟩ : ∃ w0 : World, w0 = wc := ⟨_, rfl⟩
    clear hs63
    go_upto_block 0 with fail
    go_cut [7] from 8 to 35 (fun v wx => ∃ (T : List ByteArray) (j : Nat), j ≤ 20 ∧ HeldT w0 v T j wx ∧ Hid (SmallAll T))
    case first =>
      have hh0 := HeldT.nil w0 w0 (Below.refl _ _)
      go_wp2_with fail
      go_loopw [7, 8] (fun v i wr => ∃ (T : List ByteArray) (j : Nat), j ≤ 20 ∧ j ≤ n ∧ i = .int .i64 (j : Int) ∧ HeldT w0 v T j wr ∧ Hid (SmallAll T)) (fun _ i _ => 20 - (intOf i).toNat)
      case atStart => exact ⟨[], 0, Nat.zero_le _, Nat.zero_le _, rfl, hh0, Lib.hid (fun t h => by cases h)⟩
      case round =>
        clear hh0
        obtain ⟨wo, rfl⟩ : ∃ wo : World, wo = wr := ⟨_, rfl⟩
        obtain ⟨T, j, hj20, hjn, rfl, hh, hsm⟩ := hrel
        by_cases h1 : j < n
        · have d1 : decide ((j : Int) < (n : Int)) = true := by simp; omega
          by_cases h2 : j < 20
          · have d2 : decide ((j : Int) < 20) = true := by simp; omega
            obtain ⟨g, o, rfl, _, hc⟩ := HA.out.below hh.acc (by rw [HT0.out]; omega)
            have c0 := hc j (by rw [HT0.out]; exact h1)
            have hsx := HSZ.out j
            generalize T0.getD j ByteArray.empty = x at c0 hsx
            have HSM := Lib.hid (small_push hsm.out hsx)
            clear hc hsm
            go_wp2_with (at_builtin; refine wpList_push rfl (.tmp 29) (.tmp 34) rfl w0 wo _ T j hh rfl x rfl (by omega) ?_; intro v' w1 hh')
            go_roundw
            case rel => exact ⟨T ++ [x], j + 1, by omega, by omega, by go_num, hh', HSM⟩
            case measure => simp [intOf]; omega
          · have d2 : decide ((j : Int) < 20) = false := by simp; omega
            go_wp2
            go_meet
            exact ⟨T, j, hj20, hh, hsm⟩
        · have d1 : decide ((j : Int) < (n : Int)) = false := by simp; omega
          go_wp2
          go_meet
          exact ⟨T, j, hj20, hh, hsm⟩
    case rest =>
      obtain ⟨T, j, hj20, hh, hsm⟩ := hcut
      clear HA HSZ HT0
      go_wp2_with fail
      go_loopw [7, 9] (fun v i wr => ∃ (T : List ByteArray) (i' j : Nat), i' ≤ 12 ∧ j ≤ 20 + i' ∧ i = .int .i64 (i' : Int) ∧ HeldT w0 v T j wr ∧ Hid (SmallAll T)) (fun _ i _ => 12 - (intOf i).toNat)
      case atStart => exact ⟨T, 0, j, Nat.zero_le _, by omega, rfl, hh, hsm⟩
      case round =>
        clear hh hsm hj20
        obtain ⟨wo, rfl⟩ : ∃ wo : World, wo = wr := ⟨_, rfl⟩
        obtain ⟨T, i, j, hi12, hj, rfl, hh, hsm⟩ := hrel
        go_wp2_with fail
        go_at_call 9
        refine (within0_any k 12 (by decide) _).mono ?_
        rintro e w' ⟨⟨q, hq, rfl⟩, rfl⟩
        by_cases hlt : i < q
        · have d1 : decide ((i : Int) < (q : Int)) = true := by simp; omega
          by_cases hi0 : i = 0
          · subst hi0
            have HSM := Lib.hid (small_push hsm.out (t := W) (by omega))
            clear hsm
            go_wp2_with (at_builtin; refine wpList_push rfl (.tmp 44) (.tmp 46) rfl _ wo _ T j hh rfl W rfl (by omega) ?_; intro v' w1 hh')
            go_roundw
            case rel => exact ⟨T ++ [W], 1, j + 1, by omega, by omega, rfl, hh', HSM⟩
            case measure => simp [intOf]
          · have d2 : ((i : Int) == 0) = false := by simp; omega
            have HN := Lib.hid (fun w => lnumber_any i (by omega) (by omega) w)
            go_wp2_with fail
            go_at_call 10
            refine (HN.out _).mono ?_
            rintro e w' ⟨⟨t, rfl, hts⟩, rfl⟩
            have hsz := dec_size hts
            have HSM := Lib.hid (small_push hsm.out (t := W ++ t) (by rw [show (W ++ t).size = W.size + t.size from ByteArray.size_append]; omega))
            clear hsm hts
            go_wp2_with (at_builtin; refine wpList_push rfl (.tmp 48) (.tmp 53) rfl _ wo _ T j hh rfl (W ++ t) rfl (by omega) ?_; intro v' w1 hh')
            go_roundw
            case rel => exact ⟨T ++ [W ++ t], i + 1, j + 1, by omega, by omega, by go_num, hh', HSM⟩
            case measure => simp [intOf]; omega
        · have d1 : decide ((i : Int) < (q : Int)) = false := by simp; omega
          obtain ⟨A', c', rfl, hjc, hN⟩ := hh.names
          have hacc := hh.acc
          have HL := Lib.hid hh.len
          have HN := Lib.hid hN
          clear hh hN hq
          go_wp2_with fail
          clear d1 hlt
          go_loopw [10] (fun i wr => ∃ i' : Nat, i' ≤ 40 ∧ i = .int .i64 (i' : Int) ∧ Below wo.heap.size wo wr ∧ Hid (∀ t, t < i' → nameB (nums W) t ∈ T.map nums)) (fun i _ => 40 - (intOf i).toNat)
          case atStart => exact ⟨0, Nat.zero_le _, rfl, Below.refl _ _, Lib.hid (fun t ht => by omega)⟩
          case round =>
            obtain ⟨wp, rfl⟩ : ∃ wp : World, wp = wr := ⟨_, rfl⟩
            obtain ⟨i2, hi40, rfl, hwp, hall⟩ := hrel
            have hfit := names_fit (nums W) i2 (T.map nums) (by omega) hall.out
            rw [List.length_map, HL.out] at hfit
            by_cases hlt : i2 < 40
            · have d3 : decide ((i2 : Int) < 40) = true := by simp; omega
              -- the third loop's round
              by_cases hi0 : i2 = 0
              · subst hi0
                have HNS : Hid (nums W = nameB (nums W) 0) := Lib.hid rfl
                go_wp2_with fail
                clear d3 hlt
                go_loop [12, 13] (fun b z => ∃ t' : Nat, t' ≤ j ∧ z = .int .i64 (t' : Int) ∧ b = .bool (hasS (T.take t') W)) (fun _ z => j - (intOf z).toNat)
                case atStart => exact ⟨0, Nat.zero_le _, rfl, rfl⟩
                case round =>
                  obtain ⟨t', htj, rfl, rfl⟩ := hrel
                  by_cases hlt : t' < j
                  · have d5 : decide ((t' : Int) < (j : Int)) = true := by simp; omega
                    obtain ⟨g, o, rfl, _, hc⟩ := HN.out.below hwp (by rw [HL.out]; omega)
                    have c0 := hc t' (by rw [HL.out]; exact hlt)
                    have hsu := hasS_succ (T := T) (s := W) (t := t') (by rw [HL.out]; exact hlt)
                    generalize T.getD t' ByteArray.empty = x at c0 hsu
                    rw [← nums_beq] at hsu
                    have HSU := Lib.hid hsu
                    clear hc hsu
                    cases hb : hasS (T.take t') W with
                    | true =>
                      rw [hb, Bool.true_or] at HSU
                      clear hb
                      go_wp2
                      go_round
                      case rel => exact ⟨t' + 1, by omega, by go_num, by rw [HSU.out]⟩
                      case measure => simp [intOf]; omega
                    | false =>
                      rw [hb, Bool.false_or] at HSU
                      clear hb
                      go_wp2
                      all_goals
                        go_round
                        case rel => exact ⟨t' + 1, by omega, by go_num, by rw [HSU.out]⟩
                        case measure => simp [intOf]; omega
                  · obtain rfl : t' = j := by omega
                    have d5 : decide ((t' : Int) < (t' : Int)) = false := by simp
                    have hall2 : T.take t' = T := List.take_of_length_le (by rw [HL.out]; exact Nat.le_refl _)
                    rw [hall2]
                    have hmem := hasS_mem (T := T) (s := W)
                    have hnot := hasS_not (T := T) (s := W)
                    cases hb : hasS T W with
                    | true =>
                      have HM := Lib.hid (hmem hb)
                      clear hb hmem hnot hall2
                      go_wp2
                      go_roundw
                      case rel =>
                        refine ⟨0 + 1, by omega, by go_num, hwp, Lib.hid (fun u hu => ?_)⟩
                        by_cases hui : u = 0
                        · subst hui; rw [← HNS.out]; exact HM.out
                        · exact hall.out u (by omega)
                      case measure => simp [intOf] <;> omega
                    | false =>
                      have HM := Lib.hid (hnot hb)
                      have HB := Lib.hid hb
                      clear hb hmem hnot hall2
                      have hsame : (W.toList == W.toList) = true := nums_is rfl
                      go_wp2_with fail
                      go_at_call 11
                      refine (fresh_free A' t' c' T HL.out (by omega) W _ (HN.out.below hwp) HB.out).mono ?_
                      rintro e w1 ⟨rfl, hb⟩
                      replace hwp := below_then hwp hb
                      clear hb
                      go_wp2_with fail
                      go_at_call 8
                      refine (known_any _ (HTB.out.below (hacc.trans (hwp.mono hacc.size)))).mono ?_
                      rintro e w2 ⟨rfl, hb⟩
                      replace hwp := below_then hwp hb
                      clear hb
                      go_wp2
                      go_ret
                      exact ⟨rfl, hacc.trans (hwp.mono hacc.size)⟩
              · have d4 : decide ((0 : Int) < (i2 : Int)) = true := by simp; omega
                have HN2 := Lib.hid (fun w => lnumber_any i2 (by omega) (by omega) w)
                go_wp2_with fail
                go_at_call 10
                refine (HN2.out _).mono ?_
                rintro e w' ⟨⟨t, rfl, hts⟩, rfl⟩
                have hsz := dec_size hts
                have hnm : nums (W ++ t) = nameB (nums W) i2 := by rw [nums_append, hts]; unfold nameB; rw [if_neg hi0]
                have HNS := Lib.hid hnm
                clear hnm hts d4
                go_wp2_with fail
                clear d3 hlt
                go_loop [12, 13] (fun b z => ∃ t' : Nat, t' ≤ j ∧ z = .int .i64 (t' : Int) ∧ b = .bool (hasS (T.take t') (W ++ t))) (fun _ z => j - (intOf z).toNat)
                case atStart => exact ⟨0, Nat.zero_le _, rfl, rfl⟩
                case round =>
                  obtain ⟨t', htj, rfl, rfl⟩ := hrel
                  by_cases hlt : t' < j
                  · have d5 : decide ((t' : Int) < (j : Int)) = true := by simp; omega
                    obtain ⟨g, o, rfl, _, hc⟩ := HN.out.below hwp (by rw [HL.out]; omega)
                    have c0 := hc t' (by rw [HL.out]; exact hlt)
                    have hsu := hasS_succ (T := T) (s := (W ++ t)) (t := t') (by rw [HL.out]; exact hlt)
                    generalize T.getD t' ByteArray.empty = x at c0 hsu
                    rw [← nums_beq] at hsu
                    have HSU := Lib.hid hsu
                    clear hc hsu
                    cases hb : hasS (T.take t') (W ++ t) with
                    | true =>
                      rw [hb, Bool.true_or] at HSU
                      clear hb
                      go_wp2
                      go_round
                      case rel => exact ⟨t' + 1, by omega, by go_num, by rw [HSU.out]⟩
                      case measure => simp [intOf]; omega
                    | false =>
                      rw [hb, Bool.false_or] at HSU
                      clear hb
                      go_wp2
                      all_goals
                        go_round
                        case rel => exact ⟨t' + 1, by omega, by go_num, by rw [HSU.out]⟩
                        case measure => simp [intOf]; omega
                  · obtain rfl : t' = j := by omega
                    have d5 : decide ((t' : Int) < (t' : Int)) = false := by simp
                    have hall2 : T.take t' = T := List.take_of_length_le (by rw [HL.out]; exact Nat.le_refl _)
                    rw [hall2]
                    have hmem := hasS_mem (T := T) (s := (W ++ t))
                    have hnot := hasS_not (T := T) (s := (W ++ t))
                    cases hb : hasS T (W ++ t) with
                    | true =>
                      have HM := Lib.hid (hmem hb)
                      clear hb hmem hnot hall2
                      go_wp2
                      go_roundw
                      case rel =>
                        refine ⟨i2 + 1, by omega, by go_num, hwp, Lib.hid (fun u hu => ?_)⟩
                        by_cases hui : u = i2
                        · subst hui; rw [← HNS.out]; exact HM.out
                        · exact hall.out u (by omega)
                      case measure => simp [intOf] <;> omega
                    | false =>
                      have HM := Lib.hid (hnot hb)
                      have HB := Lib.hid hb
                      clear hb hmem hnot hall2
                      have hin : hasS T W = true := decide_eq_true (hall.out 0 (by omega))
                      have hno : nums W ++ decB i2 ∉ T.map nums := by
                        have := HM.out; rw [HNS.out] at this; unfold nameB at this; rw [if_neg hi0] at this; exact this
                      have hyes : ∀ u, 1 ≤ u → u < i2 → nums W ++ decB u ∈ T.map nums := fun u h1 h2 => by
                        have := hall.out u h2; unfold nameB at this; rw [if_neg (by omega)] at this; exact this
                      have hfr := fun w hA => fresh_taken A' t' c' T HL.out (by omega) (small_getD hsm.out) W (by omega) i2 (by omega) (by omega) hno hyes w hA hin
                      have HFR := Lib.hid hfr
                      clear hin hno hyes hfr
                      go_wp2_with fail
                      go_at_call 11
                      refine (HFR.out _ (HN.out.below hwp)).mono ?_
                      rintro e w1 ⟨s1, rfl, hs1, hb⟩
                      replace hwp := below_then hwp hb
                      have hsame : (s1.toList == (W ++ t).toList) = true := nums_is (by rw [hs1, HNS.out]; unfold nameB; rw [if_neg hi0])
                      clear hb hs1
                      go_wp2_with fail
                      go_at_call 8
                      refine (known_any _ (HTB.out.below (hacc.trans (hwp.mono hacc.size)))).mono ?_
                      rintro e w2 ⟨rfl, hb⟩
                      replace hwp := below_then hwp hb
                      clear hb
                      go_wp2
                      go_ret
                      exact ⟨rfl, hacc.trans (hwp.mono hacc.size)⟩
            · exfalso; omega
end Go.Proofs.YtmcippkhfjgkoaaDoor
