/-
  Contract of the document's Signs. Written by wip/tools/gen_tref.py.
-/
import Derived.Test.YtmcippkhfjgkoaaDoorTcnt
namespace Go.Proofs.YtmcippkhfjgkoaaDoor
open Go.RowKit

theorem and31i (x : Nat) (h : x < 256) : Go.bits .and .i64 (x : Int) 31 = (x : Int) % 32 :=
  (by decide +kernel : ∀ k : Fin 256, Go.bits .and .i64 (k.val : Int) 31 = (k.val : Int) % 32) ⟨x, h⟩
theorem and15i (x : Nat) (h : x < 256) : Go.bits .and .i64 (x : Int) 15 = (x : Int) % 16 :=
  (by decide +kernel : ∀ k : Fin 256, Go.bits .and .i64 (k.val : Int) 15 = (k.val : Int) % 16) ⟨x, h⟩
theorem and7i (x : Nat) (h : x < 256) : Go.bits .and .i64 (x : Int) 7 = (x : Int) % 8 :=
  (by decide +kernel : ∀ k : Fin 256, Go.bits .and .i64 (k.val : Int) 7 = (k.val : Int) % 8) ⟨x, h⟩
theorem over_is (V : Nat) (b : Bool) (h : decide ((1114112 : Int) ≤ V) = b) : decide ((1114111 : Int) < V) = b := by
  rw [← h]; simp only [decide_eq_decide]; omega
/-- How the character at i goes on. -/
theorem at_drop {l : List Nat} {i n : Nat} (hl : l.length = n) (h : i < n) : l.drop i = l.getD i 0 :: l.drop (i + 1) := by
  have e : l.getD i 0 = l[i] := by simp [hl, h]
  rw [e, List.drop_eq_getElem_cons]
theorem hi_class (x : Nat) (hx : x < 256) (k : Nat) (hk : moreB x = k) (k0 : k ≠ 0) (t : List Nat) (hl : k ≤ t.length) :
    (∀ j, j < k → contB (t.getD j 0) = false → charB (x :: t) = 0) ∧ ((t.take k).all contB = true → charB (x :: t) = if badV k (accB (x % maskB k) (t.take k)) = true then 0 else k + 1) := by
  subst hk
  have hx1 : ¬ x < 128 := by
    intro h
    apply k0
    unfold moreB
    rw [if_neg (by omega), if_neg (by omega), if_neg (by omega)]
  refine ⟨fun j hj hcj => charB_none hx1 (.inr (.inr (.inl (all_take_no (by omega) hj hcj)))), fun ha => ?_⟩
  cases hbd : badV (moreB x) (accB (x % maskB (moreB x)) (t.take (moreB x))) with
  | true => rw [charB_none hx1 (.inr (.inr (.inr hbd)))]; rfl
  | false => rw [charB_good hx1 k0 (by omega) ha hbd]; rfl

set_option maxRecDepth 100000 in
set_option maxHeartbeats 8000000 in
theorem signs_any (A : Option Addr) (n cap : Nat) (l : List Nat) (hl : l.length = n) (hcap : n ≤ cap) (hn : n ≤ 1000000) (w : World) (hb : Bytes w A l) :
    Calls Tryd.prog 14 #[.slice A n cap] w (CntPost l w) := by
  have HL := Lib.hid hl
  have HB := Lib.hid hb
  clear hl hb
  go_enter Tryd.func14, Tryd.ntmps14
  go_wp2
  go_loopw [3, 4] (fun v s wr => ∃ m i nq : Nat, v = .int .i64 (m : Int) ∧ s = .int .i64 (i : Int) ∧ i ≤ n ∧ m ≤ i ∧ wr = w.drewN nq ∧ Hid (joinI m (charsB (l.drop i)) = cntI l)) (fun _ s _ => n - (intOf s).toNat)
  case atStart => exact ⟨0, 0, 0, rfl, rfl, Nat.zero_le _, Nat.le_refl _, rfl, Lib.hid rfl⟩
  case round =>
    obtain ⟨m, i, nq, rfl, rfl, hi, hmi, rfl, hj⟩ := hrel
    by_cases hlt : i < n
    · obtain ⟨g, o, rfl, _, hc⟩ := HB.out.2 (by rw [HL.out]; omega)
      have c0 := hc i (by rw [HL.out]; exact hlt)
      have hx := getD_lt (by decide) HB.out.1 i
      have hdr := at_drop HL.out hlt
      have hct : ∀ j, j < n - i - 1 → w.cell? ⟨g, o + (i + (j + 1)), none⟩ = some (.int .u8 ((l.drop (i + 1)).getD j 0 : Nat)) := fun j hj => by
        have h := hc (i + (j + 1)) (by rw [HL.out]; omega)
        have e : (l.drop (i + 1)).getD j 0 = l.getD (i + (j + 1)) 0 := by rw [List.getD_eq_getElem?_getD, List.getElem?_drop, ← List.getD_eq_getElem?_getD]; congr 1; omega
        rw [e, ← h]
      have hcb : ∀ j, (l.drop (i + 1)).getD j 0 < 256 := fun j => getD_lt (by decide) (fun y hy => HB.out.1 y (List.mem_of_mem_drop hy)) j
      have htl : (l.drop (i + 1)).length = n - i - 1 := by rw [List.length_drop, HL.out]; omega
      have hpos : 0 < (l.drop i).length := by rw [List.length_drop, HL.out]; omega
      have hbad := joinI_bad hpos
      have hstep := joinI_step hpos
      have hdd : ∀ c, (l.drop i).drop c = l.drop (i + c) := fun c => List.drop_drop
      rw [hdr] at hbad hstep
      have HDR := Lib.hid hdr
      generalize l.getD i 0 = x at c0 hx hbad hstep HDR
      generalize l.drop (i + 1) = t at hct hcb htl hbad hstep HDR
      have HBAD := Lib.hid hbad
      have HSTEP := Lib.hid hstep
      have HDD := Lib.hid hdd
      have HCT := Lib.hid hct
      have HCB := Lib.hid hcb
      have HTL := Lib.hid htl
      have HX := Lib.hid hx
      have hin : decide ((i : Int) < (n : Int)) = true := by simp; omega
      clear hc hdr hbad hstep hdd hct hcb htl hpos
      by_cases x1 : x < 128
      · have d1 : decide ((x : Int) < 128) = true := by simp; omega
        have HR := Lib.hid (charB_one (t := t) x1)
        have q1 : decide ((n : Int) ≤ (i : Int)) = false := by simp; omega
        have q2 : decide ((x : Int) < 0) = false := by simp
        have q3 : decide ((55296 : Int) ≤ (x : Int)) = false := by simp; omega
        have q4 : decide ((1114111 : Int) < (x : Int)) = false := by simp; omega
        clear x1
        go_wp2_with fail
        go_quiet (fail)
        go_wp2_with fail
        go_loop [7, 8] (fun v k => v = .int .i64 (x : Int) ∧ k = .int .i64 1) (fun _ k => (intOf k).toNat)
        case atStart => exact ⟨rfl, rfl⟩
        case round =>
          obtain ⟨rfl, rfl⟩ := hrel
          go_wp2
          go_roundw
          case rel => exact ⟨m + 1, i + 1, _, by go_num, by go_num, by omega, by omega, rfl, Lib.hid (by rw [← hj.out, HDR.out, HSTEP.out (by rw [HR.out]; decide) m, HR.out, ← HDR.out, HDD.out])⟩
          case measure => simp [intOf]; omega
      · have d1 : decide ((x : Int) < 128) = false := by simp; omega
        by_cases hout : x < 194 ∨ 245 ≤ x
        · have HR := Lib.hid (HBAD.out (charB_out (t := t) (by omega) hout hx) m)
          clear x1
          rcases hout with h1 | h1
          · have d2 : decide ((194 : Int) ≤ (x : Int)) = false := by simp; omega
            have d3 : decide ((224 : Int) ≤ (x : Int)) = false := by simp; omega
            have d4 : decide ((240 : Int) ≤ (x : Int)) = false := by simp; omega
            clear h1
            go_wp2_with fail
            go_quiet (fail)
            go_wp2_with fail
            go_ret
            exact ⟨ret_int (by rw [← hj.out, HDR.out, HR.out]), below_drewN (Below.refl _ _) _⟩
          · have d2 : decide ((194 : Int) ≤ (x : Int)) = true := by simp; omega
            have d3 : decide ((x : Int) < 224) = false := by simp; omega
            have d4 : decide ((224 : Int) ≤ (x : Int)) = true := by simp; omega
            have d5 : decide ((x : Int) < 240) = false := by simp; omega
            have d6 : decide ((240 : Int) ≤ (x : Int)) = true := by simp; omega
            have d7 : decide ((x : Int) < 245) = false := by simp; omega
            clear h1
            go_wp2_with fail
            go_quiet (fail)
            go_wp2_with fail
            go_ret
            exact ⟨ret_int (by rw [← hj.out, HDR.out, HR.out]), below_drewN (Below.refl _ _) _⟩
        · by_cases x2 : x < 224
          · have d2 : decide ((194 : Int) ≤ (x : Int)) = true := by simp; omega
            have d3 : decide ((x : Int) < 224) = true := by simp; omega
            have hmo : moreB x = 1 := by unfold moreB; rw [if_pos (by omega)]
            have han := and31i x hx
            by_cases hlen : n - i - 1 < 1
            · have HR := Lib.hid (HBAD.out (charB_none (x := x) (t := t) x1 (.inr (.inl (by rw [hmo, HTL.out]; exact hlen)))) m)
              have q1 : decide ((n : Int) ≤ (i : Int) + 1) = true := by simp; omega
              clear x1 hout hmo
              go_wp2_with fail
              go_quiet (fail)
              go_wp2_with fail
              go_ret
              exact ⟨ret_int (by rw [← hj.out, HDR.out, HR.out]), below_drewN (Below.refl _ _) _⟩
            · have q1 : decide ((n : Int) ≤ (i : Int) + 1) = false := by simp; omega
              obtain ⟨hno, hyes⟩ := hi_class x hx 1 hmo (by decide) t (by rw [HTL.out]; omega)
              have hsm := fun j hj => accB_small x 1 j t hj
              rw [show maskB 1 = 32 from rfl] at hyes hsm
              have HNO := Lib.hid hno
              have HYES := Lib.hid hyes
              have HSM := Lib.hid hsm
              clear hno hyes hsm x1 hout hmo
              go_wp2_with fail
              go_quiet (fail)
              go_wp2_with fail
              go_loop [7, 8] (fun v k => ∃ j : Nat, j ≤ 1 ∧ k = .int .i64 ((j : Int) + 1) ∧ v = .int .i64 ((accB (x % 32) (t.take j) : Nat) : Int) ∧ Hid ((t.take j).all contB = true)) (fun _ k => 1 + 1 - (intOf k).toNat)
              case atStart => exact ⟨0, Nat.zero_le _, rfl, by simp [accB], Lib.hid rfl⟩
              case round =>
                obtain ⟨j, hj2, rfl, rfl, hall⟩ := hrel
                have hV := HSM.out j (by omega)
                by_cases hlt2 : j < 1
                · have c1 := HCT.out j (by omega)
                  have hy := HCB.out j
                  have hac := accB_take t j (by have := HTL.out; omega) (x % 32)
                  have hat := all_take_succ (t := t) (j := j) (by have := HTL.out; omega) hall.out
                  have hno := HNO.out j hlt2
                  generalize t.getD j 0 = y at c1 hy hac hat hno
                  generalize accB (x % 32) (t.take j) = V at hac hV ⊢
                  have hor := or_six V y (by omega)
                  have h63 := and63 y hy
                  have hl2 : decide ((j : Int) + 1 ≤ 1) = true := by simp; omega
                  have hij : (i : Int) + ((j : Int) + 1) < (n : Int) := by omega
                  have hin2 : i + (j + 1) < n := by omega
                  cases hcb : contB y with
                  | true =>
                    have hd : ((y : Int) / 64 != 2) = false := cont_yes hcb
                    have hat := hat hcb
                    have HAC := Lib.hid hac
                    have HAT := Lib.hid hat
                    clear hac hat hcb hno
                    go_wp2
                    go_round
                    case rel => exact ⟨j + 1, by omega, by go_num, by rw [HAC.out]; go_num, HAT⟩
                    case measure => simp [intOf]; omega
                  | false =>
                    have hd : ((y : Int) / 64 != 2) = true := cont_no hcb
                    have HN := Lib.hid (HBAD.out (hno hcb) m)
                    clear hac hat hcb hno
                    go_wp2
                    go_ret
                    exact ⟨ret_int (by rw [← hj.out, HDR.out, HN.out]), below_drewN (Below.refl _ _) _⟩
                · obtain rfl : j = 1 := by omega
                  have hl2 : decide (((1 : Nat) : Int) + 1 ≤ 1) = false := by simp
                  have HR := Lib.hid (HYES.out hall.out)
                  clear hall
                  generalize accB (x % 32) (t.take 1) = V at HR hV ⊢
                  have hbw := bad_ways 1 V 128 rfl
                  clear hV
                  rcases hbw with ⟨hb, w1⟩ | ⟨hb, w1, w2, w3⟩ | ⟨hb, w1, w2, w3, w4⟩ | ⟨hb, w1, w2, w4⟩ | ⟨hb, w1, w2, w3, w4⟩
                  all_goals
                    rw [hb] at HR
                    clear hb
                    try have w5 := over_is V _ w4
                    go_wp2
                  · go_ret
                    exact ⟨ret_int (by rw [← hj.out, HDR.out, HBAD.out (by rw [HR.out]; rfl)]), below_drewN (Below.refl _ _) _⟩
                  · go_ret
                    exact ⟨ret_int (by rw [← hj.out, HDR.out, HBAD.out (by rw [HR.out]; rfl)]), below_drewN (Below.refl _ _) _⟩
                  · go_ret
                    exact ⟨ret_int (by rw [← hj.out, HDR.out, HBAD.out (by rw [HR.out]; rfl)]), below_drewN (Below.refl _ _) _⟩
                  all_goals
                    have HR2 : Hid (charB (x :: t) = 2) := Lib.hid HR.out
                    go_roundw
                    case rel => exact ⟨m + 1, i + 2, _, by go_num, by go_num, by omega, by omega, rfl, Lib.hid (by rw [← hj.out, HDR.out, HSTEP.out (by rw [HR2.out]; decide) m, HR2.out, ← HDR.out, HDD.out])⟩
                    case measure => simp [intOf]; omega
          · have d2 : decide ((194 : Int) ≤ (x : Int)) = true := by simp; omega
            have d3 : decide ((x : Int) < 224) = false := by simp; omega
            have d4 : decide ((224 : Int) ≤ (x : Int)) = true := by simp; omega
            by_cases x3 : x < 240
            · have d5 : decide ((x : Int) < 240) = true := by simp; omega
              have hmo : moreB x = 2 := by unfold moreB; rw [if_neg (by omega), if_pos (by omega)]
              have han := and15i x hx
              by_cases hlen : n - i - 1 < 2
              · have HR := Lib.hid (HBAD.out (charB_none (x := x) (t := t) x1 (.inr (.inl (by rw [hmo, HTL.out]; exact hlen)))) m)
                have q1 : decide ((n : Int) ≤ (i : Int) + 2) = true := by simp; omega
                clear x1 hout hmo
                go_wp2_with fail
                go_quiet (fail)
                go_wp2_with fail
                go_ret
                exact ⟨ret_int (by rw [← hj.out, HDR.out, HR.out]), below_drewN (Below.refl _ _) _⟩
              · have q1 : decide ((n : Int) ≤ (i : Int) + 2) = false := by simp; omega
                obtain ⟨hno, hyes⟩ := hi_class x hx 2 hmo (by decide) t (by rw [HTL.out]; omega)
                have hsm := fun j hj => accB_small x 2 j t hj
                rw [show maskB 2 = 16 from rfl] at hyes hsm
                have HNO := Lib.hid hno
                have HYES := Lib.hid hyes
                have HSM := Lib.hid hsm
                clear hno hyes hsm x1 hout hmo
                go_wp2_with fail
                go_quiet (fail)
                go_wp2_with fail
                go_loop [7, 8] (fun v k => ∃ j : Nat, j ≤ 2 ∧ k = .int .i64 ((j : Int) + 1) ∧ v = .int .i64 ((accB (x % 16) (t.take j) : Nat) : Int) ∧ Hid ((t.take j).all contB = true)) (fun _ k => 2 + 1 - (intOf k).toNat)
                case atStart => exact ⟨0, Nat.zero_le _, rfl, by simp [accB], Lib.hid rfl⟩
                case round =>
                  obtain ⟨j, hj2, rfl, rfl, hall⟩ := hrel
                  have hV := HSM.out j (by omega)
                  by_cases hlt2 : j < 2
                  · have c1 := HCT.out j (by omega)
                    have hy := HCB.out j
                    have hac := accB_take t j (by have := HTL.out; omega) (x % 16)
                    have hat := all_take_succ (t := t) (j := j) (by have := HTL.out; omega) hall.out
                    have hno := HNO.out j hlt2
                    generalize t.getD j 0 = y at c1 hy hac hat hno
                    generalize accB (x % 16) (t.take j) = V at hac hV ⊢
                    have hor := or_six V y (by omega)
                    have h63 := and63 y hy
                    have hl2 : decide ((j : Int) + 1 ≤ 2) = true := by simp; omega
                    have hij : (i : Int) + ((j : Int) + 1) < (n : Int) := by omega
                    have hin2 : i + (j + 1) < n := by omega
                    cases hcb : contB y with
                    | true =>
                      have hd : ((y : Int) / 64 != 2) = false := cont_yes hcb
                      have hat := hat hcb
                      have HAC := Lib.hid hac
                      have HAT := Lib.hid hat
                      clear hac hat hcb hno
                      go_wp2
                      go_round
                      case rel => exact ⟨j + 1, by omega, by go_num, by rw [HAC.out]; go_num, HAT⟩
                      case measure => simp [intOf]; omega
                    | false =>
                      have hd : ((y : Int) / 64 != 2) = true := cont_no hcb
                      have HN := Lib.hid (HBAD.out (hno hcb) m)
                      clear hac hat hcb hno
                      go_wp2
                      go_ret
                      exact ⟨ret_int (by rw [← hj.out, HDR.out, HN.out]), below_drewN (Below.refl _ _) _⟩
                  · obtain rfl : j = 2 := by omega
                    have hl2 : decide (((2 : Nat) : Int) + 1 ≤ 2) = false := by simp
                    have HR := Lib.hid (HYES.out hall.out)
                    clear hall
                    generalize accB (x % 16) (t.take 2) = V at HR hV ⊢
                    have hbw := bad_ways 2 V 2048 rfl
                    clear hV
                    rcases hbw with ⟨hb, w1⟩ | ⟨hb, w1, w2, w3⟩ | ⟨hb, w1, w2, w3, w4⟩ | ⟨hb, w1, w2, w4⟩ | ⟨hb, w1, w2, w3, w4⟩
                    all_goals
                      rw [hb] at HR
                      clear hb
                      try have w5 := over_is V _ w4
                      go_wp2
                    · go_ret
                      exact ⟨ret_int (by rw [← hj.out, HDR.out, HBAD.out (by rw [HR.out]; rfl)]), below_drewN (Below.refl _ _) _⟩
                    · go_ret
                      exact ⟨ret_int (by rw [← hj.out, HDR.out, HBAD.out (by rw [HR.out]; rfl)]), below_drewN (Below.refl _ _) _⟩
                    · go_ret
                      exact ⟨ret_int (by rw [← hj.out, HDR.out, HBAD.out (by rw [HR.out]; rfl)]), below_drewN (Below.refl _ _) _⟩
                    all_goals
                      have HR2 : Hid (charB (x :: t) = 3) := Lib.hid HR.out
                      go_roundw
                      case rel => exact ⟨m + 1, i + 3, _, by go_num, by go_num, by omega, by omega, rfl, Lib.hid (by rw [← hj.out, HDR.out, HSTEP.out (by rw [HR2.out]; decide) m, HR2.out, ← HDR.out, HDD.out])⟩
                      case measure => simp [intOf]; omega
            · have d5 : decide ((x : Int) < 240) = false := by simp; omega
              have d6 : decide ((240 : Int) ≤ (x : Int)) = true := by simp; omega
              have d7 : decide ((x : Int) < 245) = true := by simp; omega
              have hmo : moreB x = 3 := by unfold moreB; rw [if_neg (by omega), if_neg (by omega), if_pos (by omega)]
              have han := and7i x hx
              by_cases hlen : n - i - 1 < 3
              · have HR := Lib.hid (HBAD.out (charB_none (x := x) (t := t) x1 (.inr (.inl (by rw [hmo, HTL.out]; exact hlen)))) m)
                have q1 : decide ((n : Int) ≤ (i : Int) + 3) = true := by simp; omega
                clear x1 hout hmo
                go_wp2_with fail
                go_quiet (fail)
                go_wp2_with fail
                go_ret
                exact ⟨ret_int (by rw [← hj.out, HDR.out, HR.out]), below_drewN (Below.refl _ _) _⟩
              · have q1 : decide ((n : Int) ≤ (i : Int) + 3) = false := by simp; omega
                obtain ⟨hno, hyes⟩ := hi_class x hx 3 hmo (by decide) t (by rw [HTL.out]; omega)
                have hsm := fun j hj => accB_small x 3 j t hj
                rw [show maskB 3 = 8 from rfl] at hyes hsm
                have HNO := Lib.hid hno
                have HYES := Lib.hid hyes
                have HSM := Lib.hid hsm
                clear hno hyes hsm x1 hout hmo
                go_wp2_with fail
                go_quiet (fail)
                go_wp2_with fail
                go_loop [7, 8] (fun v k => ∃ j : Nat, j ≤ 3 ∧ k = .int .i64 ((j : Int) + 1) ∧ v = .int .i64 ((accB (x % 8) (t.take j) : Nat) : Int) ∧ Hid ((t.take j).all contB = true)) (fun _ k => 3 + 1 - (intOf k).toNat)
                case atStart => exact ⟨0, Nat.zero_le _, rfl, by simp [accB], Lib.hid rfl⟩
                case round =>
                  obtain ⟨j, hj2, rfl, rfl, hall⟩ := hrel
                  have hV := HSM.out j (by omega)
                  by_cases hlt2 : j < 3
                  · have c1 := HCT.out j (by omega)
                    have hy := HCB.out j
                    have hac := accB_take t j (by have := HTL.out; omega) (x % 8)
                    have hat := all_take_succ (t := t) (j := j) (by have := HTL.out; omega) hall.out
                    have hno := HNO.out j hlt2
                    generalize t.getD j 0 = y at c1 hy hac hat hno
                    generalize accB (x % 8) (t.take j) = V at hac hV ⊢
                    have hor := or_six V y (by omega)
                    have h63 := and63 y hy
                    have hl2 : decide ((j : Int) + 1 ≤ 3) = true := by simp; omega
                    have hij : (i : Int) + ((j : Int) + 1) < (n : Int) := by omega
                    have hin2 : i + (j + 1) < n := by omega
                    cases hcb : contB y with
                    | true =>
                      have hd : ((y : Int) / 64 != 2) = false := cont_yes hcb
                      have hat := hat hcb
                      have HAC := Lib.hid hac
                      have HAT := Lib.hid hat
                      clear hac hat hcb hno
                      go_wp2
                      go_round
                      case rel => exact ⟨j + 1, by omega, by go_num, by rw [HAC.out]; go_num, HAT⟩
                      case measure => simp [intOf]; omega
                    | false =>
                      have hd : ((y : Int) / 64 != 2) = true := cont_no hcb
                      have HN := Lib.hid (HBAD.out (hno hcb) m)
                      clear hac hat hcb hno
                      go_wp2
                      go_ret
                      exact ⟨ret_int (by rw [← hj.out, HDR.out, HN.out]), below_drewN (Below.refl _ _) _⟩
                  · obtain rfl : j = 3 := by omega
                    have hl2 : decide (((3 : Nat) : Int) + 1 ≤ 3) = false := by simp
                    have HR := Lib.hid (HYES.out hall.out)
                    clear hall
                    generalize accB (x % 8) (t.take 3) = V at HR hV ⊢
                    have hbw := bad_ways 3 V 65536 rfl
                    clear hV
                    rcases hbw with ⟨hb, w1⟩ | ⟨hb, w1, w2, w3⟩ | ⟨hb, w1, w2, w3, w4⟩ | ⟨hb, w1, w2, w4⟩ | ⟨hb, w1, w2, w3, w4⟩
                    all_goals
                      rw [hb] at HR
                      clear hb
                      try have w5 := over_is V _ w4
                      go_wp2
                    · go_ret
                      exact ⟨ret_int (by rw [← hj.out, HDR.out, HBAD.out (by rw [HR.out]; rfl)]), below_drewN (Below.refl _ _) _⟩
                    · go_ret
                      exact ⟨ret_int (by rw [← hj.out, HDR.out, HBAD.out (by rw [HR.out]; rfl)]), below_drewN (Below.refl _ _) _⟩
                    · go_ret
                      exact ⟨ret_int (by rw [← hj.out, HDR.out, HBAD.out (by rw [HR.out]; rfl)]), below_drewN (Below.refl _ _) _⟩
                    all_goals
                      have HR2 : Hid (charB (x :: t) = 4) := Lib.hid HR.out
                      go_roundw
                      case rel => exact ⟨m + 1, i + 4, _, by go_num, by go_num, by omega, by omega, rfl, Lib.hid (by rw [← hj.out, HDR.out, HSTEP.out (by rw [HR2.out]; decide) m, HR2.out, ← HDR.out, HDD.out])⟩
                      case measure => simp [intOf]; omega
    · obtain rfl : i = n := by omega
      have hin : decide ((i : Int) < (i : Int)) = false := by simp
      have HE : Hid (joinI m (charsB (l.drop i)) = m) := Lib.hid (by rw [List.drop_of_length_le (by rw [HL.out]; exact Nat.le_refl _)]; exact joinI_end m)
      go_wp2
      go_ret
      exact ⟨ret_int (by rw [← hj.out, HE.out]), below_drewN (Below.refl _ _) _⟩
end Go.Proofs.YtmcippkhfjgkoaaDoor
