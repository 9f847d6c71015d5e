/-
  Contracts of leb.length, leb.room, leb.join.
-/
import Derived.Test.YtebnlblkjdopaaaLrow
import Derived.Laws.BitsAllLaws
import Derived.Laws.BitsLemmas
namespace Go.Proofs.Ytebnlblkjdopaaa
open Go.RowKit

theorem not_top (x : Nat) (h : x < 256) : Go.bits .andNot .u8 (x : Int) 128 = ((x % 128 : Nat) : Int) :=
  (by decide +kernel : ∀ k : Fin 256, Go.bits .andNot .u8 (k.val : Int) 128 = ((k.val % 128 : Nat) : Int)) ⟨x, h⟩
theorem room_any (c : Nat) (bits : Int) (h0 : 1 ≤ c) (h1 : c ≤ 10) (h2 : 1 ≤ bits) (h3 : bits ≤ 64) (h4 : 7 * ((c : Int) - 1) < bits) (w : World) :
    Calls Try.prog 22 #[.int .i64 (c : Int), .int .i64 bits] w fun e w' => e = .returned (.int .i64 (roomN c bits : Int)) ∧ w = w' := by
  have e : (roomN c bits : Int) = min 7 (bits - 7 * ((c : Int) - 1)) := by unfold roomN; omega
  have E := Lib.hid e
  clear e
  go_enter Try.func22, Try.ntmps22
  go_wp2
  all_goals go_ret
  all_goals exact ⟨ret_int (by rw [E.out]; omega), rfl⟩

theorem pow7 (k : Nat) : (128 : Nat) ^ k = 2 ^ (7 * k) := by rw [Nat.pow_mul]
theorem or_add (V d s : Nat) (hV : V < 2 ^ s) (hs : s ≤ 64) : V ||| (d * 2 ^ s % 2 ^ 64) = (V + d * 2 ^ s) % 2 ^ 64 := by
  have e : (2 : Nat) ^ 64 = 2 ^ s * 2 ^ (64 - s) := by rw [← Nat.pow_add]; congr 1; omega
  have e1 : d * 2 ^ s % 2 ^ 64 = 2 ^ s * (d % 2 ^ (64 - s)) := by rw [e, Nat.mul_comm d, Nat.mul_mod_mul_left]
  have e2 : (V + d * 2 ^ s) % 2 ^ 64 = V + 2 ^ s * (d % 2 ^ (64 - s)) := by
    rw [Nat.add_mod, e1]
    have h1 : V < 2 ^ 64 := Nat.lt_of_lt_of_le hV (Nat.pow_le_pow_right (by decide) hs)
    have h2 : d % 2 ^ (64 - s) + 1 ≤ 2 ^ (64 - s) := Nat.mod_lt _ (Nat.two_pow_pos _)
    have h3 : 2 ^ s * (d % 2 ^ (64 - s) + 1) ≤ 2 ^ 64 := by rw [e]; exact Nat.mul_le_mul_left _ h2
    rw [Nat.mul_add] at h3
    rw [Nat.mod_eq_of_lt h1, Nat.mod_eq_of_lt (by omega)]
  rw [e1, e2, Nat.or_comm, ← Nat.two_pow_add_eq_or_of_lt hV, Nat.add_comm]
theorem join_step (l : List Nat) (k : Nat) (h : k < l.length) (hk : k ≤ 9) :
    Go.bits .or .u64 ((valU (l.take k) % 18446744073709551616 : Nat) : Int) (IntKind.u64.wrap (((l.getD k 0 % 128 : Nat) : Int) * 2 ^ (7 * k))) = ((valU (l.take (k + 1)) % 18446744073709551616 : Nat) : Int) := by
  have hlt := valU_lt (l.take k)
  rw [List.length_take, Nat.min_eq_left (Nat.le_of_lt h), pow7] at hlt
  have h63 : valU (l.take k) < 2 ^ 64 := Nat.lt_of_lt_of_le hlt (Nat.pow_le_pow_right (by decide) (by omega))
  rw [valU_take l k h, pow7]
  have e : IntKind.u64.wrap (((l.getD k 0 % 128 : Nat) : Int) * 2 ^ (7 * k)) = ((l.getD k 0 % 128 * 2 ^ (7 * k) % 2 ^ 64 : Nat) : Int) := by
    rw [IntKind.wrap_u64, Int.natCast_emod (_ * _), Int.natCast_mul, Int.natCast_pow]; rfl
  have e0 : valU (l.take k) % 18446744073709551616 = valU (l.take k) := Nat.mod_eq_of_lt h63
  rw [e, e0, bits_or_u64_nat _ _ h63 (Nat.mod_lt _ (by decide)), or_add _ _ _ hlt (by omega)]

theorem join_any (A : Option Addr) (n cap : Nat) (l : List Nat) (hl : l.length = n) (hn : n ≤ 10) (w : World) (hb : Bytes w A l) :
    Calls Try.prog 23 #[.slice A n cap] w fun e w' => e = .returned (.int .u64 ((valU l % 18446744073709551616 : Nat) : Int)) ∧ w = w' := by
  have HB := Lib.hid hb
  have HL := Lib.hid hl
  clear hb hl
  go_enter Try.func23, Try.ntmps23
  go_wp2
  go_loop [3, 8] (fun v i => ∃ k : Nat, k ≤ n ∧ i = .int .i64 (k : Int) ∧ v = .int .u64 ((valU (l.take k) % 18446744073709551616 : Nat) : Int)) (fun _ i => n - (intOf i).toNat)
  case atStart => exact ⟨0, Nat.zero_le _, rfl, rfl⟩
  case round =>
    obtain ⟨k, hk, rfl, rfl⟩ := hrel
    by_cases hlt : k < n
    · obtain ⟨g, o, rfl, _, hc⟩ := HB.out.2 (by rw [HL.out]; omega)
      have c0 := hc k (by rw [HL.out]; exact hlt)
      have hx := getD_lt (by decide) HB.out.1 k
      have hst := join_step l k (by rw [HL.out]; exact hlt) (by omega)
      generalize l.getD k 0 = x at c0 hx hst
      generalize valU (l.take k) % 18446744073709551616 = V at hst ⊢
      have hv := not_top x hx
      obtain ⟨y, hy⟩ : ∃ y, x % 128 = y := ⟨_, rfl⟩
      have hy2 : y < 128 := by omega
      rw [hy] at hv hst
      have HS := Lib.hid hst
      clear hc hy hst
      go_wp2
      go_round
      case rel => exact ⟨k + 1, by omega, by go_num, by rw [HS.out]⟩
      case measure => simp [intOf]; omega
    · obtain rfl : k = n := by omega
      go_wp2
      go_ret
      exact ⟨ret_int (by rw [List.take_of_length_le (by rw [HL.out]; exact Nat.le_refl _)]), rfl⟩

/-! ### length -/
abbrev LenPost (c : Nat) (w : World) (e : Ending) (w' : World) : Prop := e = .returned (.int .i64 (c : Int)) ∧ w = w'
theorem length_out (A : Option Addr) (n cap : Nat) (p bits : Int) (h : bits < 1 ∨ 64 < bits ∨ p < 0 ∨ (n : Int) < p) (w : World) :
    Calls Try.prog 21 #[.slice A n cap, .int .i64 p, .int .i64 bits] w (LenPost 0 w) := by
  by_cases h1 : bits < 1
  · clear h
    go_enter Try.func21, Try.ntmps21
    go_wp2
    go_ret
    exact ⟨rfl, rfl⟩
  · by_cases h2 : 64 < bits
    · clear h
      go_enter Try.func21, Try.ntmps21
      go_wp2
      go_ret
      exact ⟨rfl, rfl⟩
    · by_cases h3 : p < 0
      · clear h
        go_enter Try.func21, Try.ntmps21
        go_wp2
        go_ret
        exact ⟨rfl, rfl⟩
      · have h4 : (n : Int) < p := by omega
        clear h
        go_enter Try.func21, Try.ntmps21
        go_wp2
        go_ret
        exact ⟨rfl, rfl⟩
theorem length_end (A : Option Addr) (n cap : Nat) (bits : Int) (hc : n ≤ cap) (hn : n ≤ 1000000) (h0 : 1 ≤ bits) (h1 : bits ≤ 64) (w : World) :
    Calls Try.prog 21 #[.slice A n cap, .int .i64 (n : Int), .int .i64 bits] w (LenPost 0 w) := by
  go_enter Try.func21, Try.ntmps21
  go_wp2
  all_goals
    go_loop [40] (fun i => i = .int .i64 0) (fun i => (intOf i).toNat)
    case atStart => rfl
    case round =>
      subst hrel
      go_wp2
      go_ret
      exact ⟨rfl, rfl⟩
set_option maxRecDepth 10000 in
theorem length_in (g o n cap k M : Nat) (l : List Nat) (bits : Int) (hk : k < n) (hc : n ≤ cap) (hn : n ≤ 1000000) (h0 : 1 ≤ bits) (h1 : bits ≤ 64) (hM : (bits + 7 - 1) / 7 = (M : Int)) (w : World)
    (hl : ∀ x ∈ l, x < 256) (hcell : ∀ j, j < n → w.cell? ⟨g, o + j, none⟩ = some (.int .u8 (l.getD j 0 : Nat))) (hln : l.length = n) :
    Calls Try.prog 21 #[.slice (some ⟨g, o, none⟩) n cap, .int .i64 (k : Int), .int .i64 bits] w (LenPost (cnt (l.drop k) M) w) := by
  have HL := Lib.hid hl
  have HC := Lib.hid hcell
  clear hl hcell
  have hM0 : M ≤ 10 := by omega
  have HN := Lib.hid hln
  clear hln
  by_cases hE : (k : Int) + M ≤ n
  · go_enter Try.func21, Try.ntmps21
    go_wp2
    go_loop [40] (fun i => ∃ j : Nat, j ≤ M ∧ i = .int .i64 (j : Int) ∧ Hid (∀ t, t < j → 128 ≤ (l.drop k).getD t 0)) (fun i => M - (intOf i).toNat)
    case atStart => exact ⟨0, Nat.zero_le _, rfl, Lib.hid (fun t ht => by omega)⟩
    case round =>
      obtain ⟨j, hj, rfl, hno⟩ := hrel
      by_cases hlt : j < M
      · have c0 := HC.out (k + j) (by omega)
        rw [← Nat.add_assoc] at c0
        have hx := getD_lt (by decide) HL.out (k + j)
        have hd : (l.drop k).getD j 0 = l.getD (k + j) 0 := by rw [List.getD_eq_getElem?_getD, List.getElem?_drop, ← List.getD_eq_getElem?_getD]
        generalize l.getD (k + j) 0 = x at c0 hx hd
        have HD := Lib.hid hd
        clear hd
        by_cases h8 : x < 128
        · go_wp2
          go_ret
          exact ⟨ret_int (by rw [cnt_hit (l.drop k) M j (by omega) (by rw [List.length_drop, HN.out]; omega) (by rw [HD.out]; exact h8) hno.out]; omega), rfl⟩
        · go_wp2
          go_round
          case rel =>
            refine ⟨j + 1, by omega, by go_num, Lib.hid (fun t ht => ?_)⟩
            by_cases htj : t = j
            · subst htj; rw [HD.out]; omega
            · exact hno.out t (by omega)
          case measure => simp [intOf]; omega
      · go_wp2
        go_ret
        exact ⟨ret_int (by rw [cnt_none (l.drop k) M (fun t h1 h2 => hno.out t (by rw [List.length_drop, HN.out] at h2; omega))]; rfl), rfl⟩
  · go_enter Try.func21, Try.ntmps21
    go_wp2
    go_loop [40] (fun i => ∃ j : Nat, j ≤ (n - k) ∧ i = .int .i64 (j : Int) ∧ Hid (∀ t, t < j → 128 ≤ (l.drop k).getD t 0)) (fun i => (n - k) - (intOf i).toNat)
    case atStart => exact ⟨0, Nat.zero_le _, rfl, Lib.hid (fun t ht => by omega)⟩
    case round =>
      obtain ⟨j, hj, rfl, hno⟩ := hrel
      by_cases hlt : j < (n - k)
      · have c0 := HC.out (k + j) (by omega)
        rw [← Nat.add_assoc] at c0
        have hx := getD_lt (by decide) HL.out (k + j)
        have hd : (l.drop k).getD j 0 = l.getD (k + j) 0 := by rw [List.getD_eq_getElem?_getD, List.getElem?_drop, ← List.getD_eq_getElem?_getD]
        generalize l.getD (k + j) 0 = x at c0 hx hd
        have HD := Lib.hid hd
        clear hd
        by_cases h8 : x < 128
        · go_wp2
          go_ret
          exact ⟨ret_int (by rw [cnt_hit (l.drop k) M j (by omega) (by rw [List.length_drop, HN.out]; omega) (by rw [HD.out]; exact h8) hno.out]; omega), rfl⟩
        · go_wp2
          go_round
          case rel =>
            refine ⟨j + 1, by omega, by go_num, Lib.hid (fun t ht => ?_)⟩
            by_cases htj : t = j
            · subst htj; rw [HD.out]; omega
            · exact hno.out t (by omega)
          case measure => simp [intOf]; omega
      · go_wp2
        go_ret
        exact ⟨ret_int (by rw [cnt_none (l.drop k) M (fun t h1 h2 => hno.out t (by rw [List.length_drop, HN.out] at h2; omega))]; rfl), rfl⟩

/-- For any slice, any offset, any number of bits. -/
theorem length_any (A : Option Addr) (n cap : Nat) (l : List Nat) (hl : l.length = n) (hc : n ≤ cap) (hn : n ≤ 1000000) (p bits : Int) (w : World) (hb : Bytes w A l) :
    Calls Try.prog 21 #[.slice A n cap, .int .i64 p, .int .i64 bits] w (LenPost (lenR l p bits) w) := by
  by_cases h : bits < 1 ∨ 64 < bits ∨ p < 0 ∨ (n : Int) < p
  · rw [lenR_out l p bits (by rw [hl]; exact h)]
    exact length_out A n cap p bits h w
  · obtain ⟨k, rfl⟩ : ∃ k : Nat, p = k := ⟨p.toNat, by omega⟩
    rw [lenR_in l k bits (by omega) (by omega) (by omega)]
    rcases Nat.lt_or_ge k n with hk | hk
    · obtain ⟨g, o, rfl, _, hcell⟩ := hb.2 (by omega)
      rw [hl] at hcell
      exact length_in g o n cap k (mostN bits) l bits hk hc hn (by omega) (by omega) (by unfold mostN; omega) w hb.1 hcell hl
    · obtain rfl : k = n := by omega
      rw [show l.drop k = [] from List.drop_eq_nil_of_le (by omega)]
      exact length_end A k cap bits hc hn (by omega) (by omega) w
end Go.Proofs.Ytebnlblkjdopaaa
