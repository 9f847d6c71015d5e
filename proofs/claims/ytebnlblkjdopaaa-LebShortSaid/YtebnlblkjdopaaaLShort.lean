/-
  LebShort: the walk.
-/
import Derived.Test.YtebnlblkjdopaaaLkn
namespace Go.Proofs.Ytebnlblkjdopaaa
open Go.RowKit

/-! ### As few as can be -/
theorem encU_least (n : Nat) : 1 < (encU n).length → 128 ^ ((encU n).length - 1) ≤ n := by
  induction n using Nat.strongRecOn with
  | _ n ih =>
    by_cases h : n < 128
    · rw [encU_lo h]; simp
    · rw [encU_hi h]
      have hp := rowB_pos (encU_row (n / 128))
      have := ih (n / 128) (by omega)
      obtain ⟨k, hk⟩ : ∃ k, (encU (n / 128)).length = k + 1 := ⟨(encU (n / 128)).length - 1, by omega⟩
      rw [hk] at this
      intro _
      simp only [List.length_cons, hk, Nat.add_sub_cancel] at this ⊢
      rcases Nat.eq_zero_or_pos k with rfl | h0
      · simp; omega
      · have := this (by omega)
        rw [Nat.pow_succ]
        omega
theorem encU_below (n : Nat) : n < 128 ^ (encU n).length := by
  have := valU_lt (encU n)
  rwa [encU_val] at this
theorem encS_in (m : Int) : -(64 * 128 ^ ((encS m).length - 1) : Nat) ≤ m ∧ m < (64 * 128 ^ ((encS m).length - 1) : Nat) := by
  refine encS_ind (p := fun m => -(64 * 128 ^ ((encS m).length - 1) : Nat) ≤ m ∧ m < (64 * 128 ^ ((encS m).length - 1) : Nat)) ?_ ?_ m
  · intro m h; rw [encS_lo h]; simpa using h
  · intro m h ih
    rw [encS_hi h]
    have hp := rowB_pos (encS_row (m / 128))
    obtain ⟨k, hk⟩ : ∃ k, (encS (m / 128)).length = k + 1 := ⟨(encS (m / 128)).length - 1, by omega⟩
    simp only [List.length_cons, hk, Nat.add_sub_cancel] at ih ⊢
    have e : 64 * 128 ^ (k + 1) = 128 * (64 * 128 ^ k) := by rw [Nat.pow_succ]; omega
    rw [e]
    omega
theorem encS_least (m : Int) : 1 < (encS m).length → ¬ (-(64 * 128 ^ ((encS m).length - 2) : Nat) ≤ m ∧ m < (64 * 128 ^ ((encS m).length - 2) : Nat)) := by
  refine encS_ind (p := fun m => 1 < (encS m).length → ¬ (-(64 * 128 ^ ((encS m).length - 2) : Nat) ≤ m ∧ m < (64 * 128 ^ ((encS m).length - 2) : Nat))) ?_ ?_ m
  · intro m h; rw [encS_lo h]; simp
  · intro m h ih _
    rw [encS_hi h]
    have hp := rowB_pos (encS_row (m / 128))
    obtain ⟨k, hk⟩ : ∃ k, (encS (m / 128)).length = k + 1 := ⟨(encS (m / 128)).length - 1, by omega⟩
    rw [hk] at ih
    simp only [List.length_cons, hk] at ih ⊢
    rcases Nat.eq_zero_or_pos k with rfl | h0
    · simpa using h
    · have h1 := ih (by omega)
      obtain ⟨j, rfl⟩ : ∃ j, k = j + 1 := ⟨k - 1, by omega⟩
      have e : 64 * 128 ^ (j + 1 + 1 + 1 - 2) = 128 * (64 * 128 ^ (j + 1 + 1 - 2)) := by
        rw [show j + 1 + 1 + 1 - 2 = (j + 1 + 1 - 2) + 1 by omega, Nat.pow_succ]; omega
      rw [e]
      omega
theorem shr_zero (n s : Nat) : (((n : Int) / 2 ^ s == 0) = true) ↔ n < 2 ^ s := by
  have e : (n : Int) / 2 ^ s = ((n / 2 ^ s : Nat) : Int) := by push_cast; rfl
  rw [e]
  have h2 := Nat.two_pow_pos s
  have h3 : n / 2 ^ s = 0 ↔ n < 2 ^ s := by rw [Nat.div_eq_zero_iff]; omega
  rw [← h3]
  generalize n / 2 ^ s = t
  simp

theorem shr_sign (m : Int) (s : Nat) : (m / 2 ^ s = 0 ∨ m / 2 ^ s = -1) ↔ (-(2 ^ s : Nat) ≤ m ∧ m < (2 ^ s : Nat)) := by
  have e : (2 : Int) ^ s = ((2 ^ s : Nat) : Int) := by push_cast; rfl
  have h := Nat.two_pow_pos s
  rw [e]
  generalize 2 ^ s = P at h
  have h1 := Int.emod_nonneg m (show (P : Int) ≠ 0 by omega)
  have h2 := Int.emod_lt_of_pos m (show (0 : Int) < P by omega)
  have h3 := Int.mul_ediv_add_emod m P
  generalize m / (P : Int) = q at h3 ⊢
  generalize m % (P : Int) = r at h1 h2 h3
  constructor
  · rintro (rfl | rfl)
    · omega
    · omega
  · intro ⟨h4, h5⟩
    rcases Int.lt_or_le q 0 with hq | hq
    · right
      rcases Int.lt_or_le q (-1) with hq' | hq'
      · have := Int.mul_le_mul_of_nonneg_left (show q ≤ -2 by omega) (show (0 : Int) ≤ P by omega)
        omega
      · omega
    · left
      rcases Int.lt_or_le 0 q with hq' | hq'
      · have := Int.mul_le_mul_of_nonneg_left (show 1 ≤ q by omega) (show (0 : Int) ≤ P by omega)
        omega
      · omega
theorem pow64 (k : Nat) (h : 1 ≤ k) : 64 * 128 ^ (k - 1) = 2 ^ (7 * k - 1) := by
  rw [pow7, show 7 * k - 1 = 6 + 7 * (k - 1) by omega, Nat.pow_add]
theorem shortU (n L : Nat) (h : 1 < L → 128 ^ (L - 1) ≤ n) (g : n < 128 ^ L) : (1 < L → ((n : Int) / 2 ^ (7 * (L - 1)) == 0) = false) ∧ ((n : Int) / 2 ^ (7 * L) != 0) = false := by
  constructor
  · intro h1
    have h2 := h h1
    rw [pow7] at h2
    have := shr_zero n (7 * (L - 1))
    cases hb : ((n : Int) / 2 ^ (7 * (L - 1)) == 0) with
    | false => rfl
    | true => have := this.1 hb; omega
  · rw [pow7] at g
    have := (shr_zero n (7 * L)).2 g
    rw [bne, this]; rfl
theorem shortS (m : Int) (M : Nat) (h1 : 1 ≤ M) (h : 1 < M → ¬ (-(64 * 128 ^ (M - 2) : Nat) ≤ m ∧ m < (64 * 128 ^ (M - 2) : Nat))) (g : -(64 * 128 ^ (M - 1) : Nat) ≤ m ∧ m < (64 * 128 ^ (M - 1) : Nat)) :
    (m / 2 ^ (7 * M - 1) = 0 ∨ m / 2 ^ (7 * M - 1) = -1) ∧ (1 < M → (m / 2 ^ (7 * M - 1 - 7) != 0) = true ∧ (m / 2 ^ (7 * M - 1 - 7) != -1) = true) := by
  rw [pow64 M h1] at g
  refine ⟨(shr_sign m _).2 g, fun h2 => ?_⟩
  have h3 := h h2
  have e : 64 * 128 ^ (M - 2) = 2 ^ (7 * M - 1 - 7) := by
    rw [show M - 2 = (M - 1) - 1 by omega, pow64 (M - 1) (by omega)]; congr 1; omega
  rw [e] at h3
  have h4 : ¬ (m / 2 ^ (7 * M - 1 - 7) = 0 ∨ m / 2 ^ (7 * M - 1 - 7) = -1) := fun hc => h3 ((shr_sign m _).1 hc)
  generalize m / 2 ^ (7 * M - 1 - 7) = t at h4
  simp only [not_or] at h4
  simp [h4.1, h4.2]

set_option maxRecDepth 100000 in
set_option maxHeartbeats 4000000 in
theorem short_any (n : Nat) (m : Int) (hn : n < 18446744073709551616) (h0 : -9223372036854775808 ≤ m) (h1 : m ≤ 9223372036854775807) (w : World) :
    Calls Try.prog 6 #[.int .u64 (n : Int), .int .i64 m] w (BoolPost true w) := by
  have CU := fun w => u_is n hn w
  have CS := fun w => s_is m h0 h1 w
  have lu := encU_len10 n hn
  have ls := encS_len10 m h0 h1
  have lu0 := rowB_pos (encU_row n)
  have ls0 := rowB_pos (encS_row m)
  have au := rowB_at _ (encU_row n)
  have as' := rowB_at _ (encS_row m)
  have uu := encU_least n
  have ub := encU_below n
  have su := encS_least m
  have sb := encS_in m
  generalize encU n = a at *
  generalize encS m = b at *
  obtain ⟨L, hL⟩ : ∃ L, a.length = L := ⟨_, rfl⟩
  obtain ⟨M, hM⟩ : ∃ M, b.length = M := ⟨_, rfl⟩
  unfold EncIs at CU CS
  rw [hL] at lu lu0 au uu ub CU
  rw [hM] at ls ls0 as' su sb CS
  have HCU := Lib.hid CU
  have HCS := Lib.hid CS
  have HAU := Lib.hid au
  have HAS := Lib.hid as'
  have HUU := Lib.hid uu
  have HUB := Lib.hid ub
  have HSU := Lib.hid su
  have HSB := Lib.hid sb
  have HL := Lib.hid hL
  have HM := Lib.hid hM
  clear CU CS au as' uu ub su sb hn h0 h1 hL hM
  go_enter Try.func6, Try.ntmps6
  go_wp2_with fail
  go_at_call 7
  refine (HCU.out _).mono ?_
  rintro e w1 ⟨g, cap, rfl, _, _, hby, _, _, hb⟩
  have hnx := hb
  clear hb
  go_wp2_with fail
  go_at_call 9
  refine (HCS.out _).mono ?_
  rintro e w2 ⟨g2, cap2, rfl, _, _, hby2, _, _, hb⟩
  replace hby := hby.below hb
  replace hnx := below_then hnx hb
  clear hb
  obtain ⟨g', o', he, _, hc⟩ := hby.2 (by rw [HL.out]; exact lu0)
  simp only [Option.some.injEq, Addr.mk.injEq] at he
  obtain ⟨rfl, rfl, _⟩ := he
  rw [HL.out] at hc
  obtain ⟨g', o', he, _, hc2⟩ := hby2.2 (by rw [HM.out]; exact ls0)
  simp only [Option.some.injEq, Addr.mk.injEq] at he
  obtain ⟨rfl, rfl, _⟩ := he
  rw [HM.out] at hc2
  have HC := Lib.hid hc
  have HC2 := Lib.hid hc2
  have HBA := Lib.hid hby.1
  have HBB := Lib.hid hby2.1
  clear hc hc2 hby hby2
  go_wp2
  go_loop [7, 34] (fun _ i => ∃ k : Nat, k ≤ L ∧ i = .int .i64 (k : Int)) (fun _ i => L - (intOf i).toNat)
  case atStart => exact ⟨0, Nat.zero_le _, rfl⟩
  case round =>
    obtain ⟨k, hk, rfl⟩ := hrel
    by_cases hlt : k < L
    · have c0 := HC.out k hlt
      have hx := HAU.out k hlt
      have hx2 := getD_lt (by decide) HBA.out k
      rw [Nat.zero_add] at c0
      generalize a.getD k 0 = x at c0 hx hx2
      by_cases hl : k + 1 < L
      · have h8 := hx.2 hl
        have d1 : decide (128 ≤ (x : Int)) = true := by simp; omega
        have d2 : decide ((k : Int) + 1 < L) = true := by simp; omega
        clear hx h8 hl
        go_wp2
        go_round
        case rel => exact ⟨k + 1, by omega, by go_num⟩
        case measure => simp [intOf]; omega
      · have h8 : x < 128 := by
          rcases Nat.lt_or_ge x 128 with h | h
          · exact h
          · have := hx.1 h; omega
        have d1 : decide (128 ≤ (x : Int)) = false := by simp; omega
        have d2 : decide ((k : Int) + 1 < L) = false := by simp; omega
        clear hx h8 hl
        go_wp2
        go_round
        case rel => exact ⟨k + 1, by omega, by go_num⟩
        case measure => simp [intOf]; omega
    · go_wp2
      clear hlt hk
      go_loop [8, 51] (fun _ i => ∃ k : Nat, k ≤ M ∧ i = .int .i64 (k : Int)) (fun _ i => M - (intOf i).toNat)
      case atStart => exact ⟨0, Nat.zero_le _, rfl⟩
      case round =>
        obtain ⟨k, hk, rfl⟩ := hrel
        by_cases hlt : k < M
        · have c0 := HC2.out k hlt
          have hx := HAS.out k hlt
          have hx2 := getD_lt (by decide) HBB.out k
          rw [Nat.zero_add] at c0
          generalize b.getD k 0 = x at c0 hx hx2
          by_cases hl : k + 1 < M
          · have h8 := hx.2 hl
            have d1 : decide (128 ≤ (x : Int)) = true := by simp; omega
            have d2 : decide ((k : Int) + 1 < M) = true := by simp; omega
            clear hx h8 hl
            go_wp2
            go_round
            case rel => exact ⟨k + 1, by omega, by go_num⟩
            case measure => simp [intOf]; omega
          · have h8 : x < 128 := by
              rcases Nat.lt_or_ge x 128 with h | h
              · exact h
              · have := hx.1 h; omega
            have d1 : decide (128 ≤ (x : Int)) = false := by simp; omega
            have d2 : decide ((k : Int) + 1 < M) = false := by simp; omega
            clear hx h8 hl
            go_wp2
            go_round
            case rel => exact ⟨k + 1, by omega, by go_num⟩
            case measure => simp [intOf]; omega
        · obtain ⟨p1, p2⟩ := shortU n L HUU.out HUB.out
          obtain ⟨q1, q2⟩ := shortS m M ls0 HSU.out HSB.out
          have P1 := Lib.hid p1
          have Q2 := Lib.hid q2
          clear p1 q2 HUU HUB HSU HSB
          by_cases hL1 : 1 < L
          · have p1 := P1.out hL1
            by_cases hM1 : 1 < M
            · obtain ⟨q3, q4⟩ := Q2.out hM1
              by_cases hM9 : M < 10
              · rcases q1 with q1 | q1
                all_goals
                  go_wp2_with (go_at_call 12; refine (known_any _).mono ?_; rintro e w' ⟨rfl, hb⟩; replace hnx := below_then hnx hb; clear hb)
                  all_goals go_ret
                  all_goals exact ⟨rfl, hnx⟩
              · clear q1
                go_wp2_with (go_at_call 12; refine (known_any _).mono ?_; rintro e w' ⟨rfl, hb⟩; replace hnx := below_then hnx hb; clear hb)
                all_goals go_ret
                all_goals exact ⟨rfl, hnx⟩
            · rcases q1 with q1 | q1
              all_goals
                go_wp2_with (go_at_call 12; refine (known_any _).mono ?_; rintro e w' ⟨rfl, hb⟩; replace hnx := below_then hnx hb; clear hb)
                all_goals go_ret
                all_goals exact ⟨rfl, hnx⟩
          · by_cases hM1 : 1 < M
            · obtain ⟨q3, q4⟩ := Q2.out hM1
              by_cases hM9 : M < 10
              · rcases q1 with q1 | q1
                all_goals
                  go_wp2_with (go_at_call 12; refine (known_any _).mono ?_; rintro e w' ⟨rfl, hb⟩; replace hnx := below_then hnx hb; clear hb)
                  all_goals go_ret
                  all_goals exact ⟨rfl, hnx⟩
              · clear q1
                go_wp2_with (go_at_call 12; refine (known_any _).mono ?_; rintro e w' ⟨rfl, hb⟩; replace hnx := below_then hnx hb; clear hb)
                all_goals go_ret
                all_goals exact ⟨rfl, hnx⟩
            · rcases q1 with q1 | q1
              all_goals
                go_wp2_with (go_at_call 12; refine (known_any _).mono ?_; rintro e w' ⟨rfl, hb⟩; replace hnx := below_then hnx hb; clear hb)
                all_goals go_ret
                all_goals exact ⟨rfl, hnx⟩
end Go.Proofs.Ytebnlblkjdopaaa
