/-
  Contract of leb.ReadS.
-/
import Derived.Test.YtebnlblkjdopaaaLread
namespace Go.Proofs.Ytebnlblkjdopaaa
open Go.RowKit

set_option maxRecDepth 10000 in
theorem readS_none (A : Option Addr) (n cap : Nat) (p bits : Int) (w : World) (hlen : LenSays A n cap p bits 0 w) :
    Calls Try.prog 17 #[.slice A n cap, .int .i64 p, .int .i64 bits] w (ValPost (.tuple #[.int .i64 0, .int .i64 0, .bool false]) w) := by
  have HLEN := Lib.hid hlen
  clear hlen
  go_enter Try.func17, Try.ntmps17
  go_wp2_with (go_at_call 21; refine HLEN.out.mono ?_; rintro e w' ⟨rfl, rfl⟩)
  go_ret3
  exact ⟨rfl, Below.refl _ _⟩

theorem sg7_walk (x : Nat) (h : x < 128) : IntKind.i8.wrap ((x : Int) * 2) / 2 = sg7 x :=
  (by decide +kernel : ∀ k : Fin 128, IntKind.i8.wrap ((k.val : Int) * 2) / 2 = sg7 k.val) ⟨x, h⟩
theorem badS_ways (x r : Nat) : (badS x r = false ∧ sg7 x / 2 ^ (r - 1) = 0) ∨ (badS x r = false ∧ sg7 x / 2 ^ (r - 1) = -1) ∨ (badS x r = true ∧ sg7 x / 2 ^ (r - 1) ≠ 0 ∧ sg7 x / 2 ^ (r - 1) ≠ -1) := by
  unfold badS
  generalize sg7 x / 2 ^ (r - 1) = t
  by_cases h0 : t = 0
  · subst h0; exact .inl ⟨rfl, rfl⟩
  · by_cases h1 : t = -1
    · subst h1; exact .inr (.inl ⟨rfl, rfl⟩)
    · exact .inr (.inr ⟨by simp [h0, h1], h0, h1⟩)
theorem ret_3 {a b : Int} {c d : Value} (h : a = b) : Ending.returned (.tuple #[.int .i64 a, c, d]) = .returned (.tuple #[.int .i64 b, c, d]) := by rw [h]

set_option maxRecDepth 10000 in
set_option maxHeartbeats 1000000 in
theorem readS_some (g o n cap k c q x r V : Nat) (Z bits : Int) (hn : n ≤ 1000000) (hc : n ≤ cap) (c0 : 1 ≤ c) (c1 : k + c ≤ n) (c2 : c ≤ 10) (hq : k + c = q + 1) (hr0 : 1 ≤ r) (hr : r ≤ 7) (hx : x < 128)
    (w : World) (hlen : LenSays (some ⟨g, o, none⟩) n cap k bits c w) (hroom : RoomSays c r bits) (hjoin : JoinSays (some ⟨g, o + k, none⟩) c (cap - k) V w)
    (hcell : w.cell? ⟨g, o + q, none⟩ = some (.int .u8 (x : Int))) (hz : c ≤ 9 → wrap64 (wrap64 V * 2 ^ (64 - 7 * c)) / 2 ^ (64 - 7 * c) = Z) (hz' : c = 10 → wrap64 (wrap64 V) = Z) (b : Bool) (hbad : badS x r = b) :
    Calls Try.prog 17 #[.slice (some ⟨g, o, none⟩) n cap, .int .i64 (k : Int), .int .i64 bits] w
      (ValPost (if b then .tuple #[.int .i64 0, .int .i64 0, .bool false] else .tuple #[.int .i64 Z, .int .i64 ((k : Int) + c), .bool true]) w) := by
  have HLEN := Lib.hid hlen
  have HROOM := Lib.hid hroom
  have HJOIN := Lib.hid hjoin
  have HZ := Lib.hid hz
  have HZ' := Lib.hid hz'
  have hc0 : ((c : Int) == 0) = false := by simp; omega
  have hi : (k : Int) + c - 1 = q := by omega
  have hv := sg7_walk x hx
  have hbw := badS_ways x r
  rw [hbad] at hbw
  generalize sg7 x = y at hv hbw
  obtain ⟨t, ht⟩ : ∃ t : Int, y / 2 ^ (r - 1) = t := ⟨_, rfl⟩
  rw [ht] at hbw
  clear hlen hroom hjoin hq hz hz' hbad
  rcases hbw with ⟨rfl, rfl⟩ | ⟨rfl, rfl⟩ | ⟨rfl, t0, t1⟩
  case inr.inr =>
    have e0 : (t != 0) = true := by simp [t0]
    have e1 : (t != -1) = true := by simp [t1]
    clear t0 t1
    go_enter Try.func17, Try.ntmps17
    go_wp2_with (first
      | (go_at_call 21; refine HLEN.out.mono ?_; rintro e w' ⟨rfl, rfl⟩)
      | (go_at_call 22; refine (HROOM.out _).mono ?_; rintro e w' ⟨rfl, rfl⟩))
    go_ret3
    exact ⟨rfl, Below.refl _ _⟩
  all_goals
    by_cases h9 : c ≤ 9
    · go_enter Try.func17, Try.ntmps17
      go_wp2_with (first
        | (go_at_call 21; refine HLEN.out.mono ?_; rintro e w' ⟨rfl, rfl⟩)
        | (go_at_call 22; refine (HROOM.out _).mono ?_; rintro e w' ⟨rfl, rfl⟩)
        | (go_at_call 23; refine (HJOIN.out _ (Below.refl _ _)).mono ?_; rintro e w' ⟨rfl, rfl⟩))
      go_ret3
      exact ⟨ret_3 (HZ.out h9), Below.refl _ _⟩
    · go_enter Try.func17, Try.ntmps17
      go_wp2_with (first
        | (go_at_call 21; refine HLEN.out.mono ?_; rintro e w' ⟨rfl, rfl⟩)
        | (go_at_call 22; refine (HROOM.out _).mono ?_; rintro e w' ⟨rfl, rfl⟩)
        | (go_at_call 23; refine (HJOIN.out _ (Below.refl _ _)).mono ?_; rintro e w' ⟨rfl, rfl⟩))
      go_ret3
      exact ⟨ret_3 (HZ'.out (by omega)), Below.refl _ _⟩
/-! ### The value -/
theorem val_last {l : List Nat} (h : 0 < l.length) : valU l = valU (l.take (l.length - 1)) + lastN l % 128 * 2 ^ (7 * (l.length - 1)) ∧ valU (l.take (l.length - 1)) < 2 ^ (7 * (l.length - 1)) := by
  have h1 := valU_take l (l.length - 1) (by omega)
  have h2 := valU_lt (l.take (l.length - 1))
  rw [show l.length - 1 + 1 = l.length by omega, List.take_length, pow7] at h1
  rw [List.length_take, Nat.min_eq_left (by omega), pow7] at h2
  exact ⟨h1, h2⟩
/-- The sign's bit, by the value. -/
theorem sign_bit {l : List Nat} (h : 0 < l.length) : 64 ≤ lastN l % 128 ↔ 2 ^ (7 * l.length - 1) ≤ valU l := by
  obtain ⟨h1, h2⟩ := val_last h
  have e : 2 ^ (7 * l.length - 1) = 64 * 2 ^ (7 * (l.length - 1)) := by
    rw [show 7 * l.length - 1 = 7 * (l.length - 1) + 6 by omega, Nat.pow_add]; omega
  rw [e, h1]
  generalize 2 ^ (7 * (l.length - 1)) = P at h2 ⊢
  generalize valU (l.take (l.length - 1)) = V at h2 ⊢
  generalize lastN l % 128 = x
  constructor
  · intro hx
    have := Nat.mul_le_mul_right P hx
    omega
  · intro hx
    rcases Nat.lt_or_ge x 64 with hlt | hge
    · have := Nat.mul_le_mul_right P (show x + 1 ≤ 64 from hlt)
      rw [Nat.add_mul] at this
      omega
    · exact hge
theorem away_back (V s : Nat) (h1 : 1 ≤ s) (h2 : s ≤ 63) (hV : V < 2 ^ s) : wrap64 ((V : Int) * 2 ^ (64 - s)) / 2 ^ (64 - s) = if 2 ^ (s - 1) ≤ V then (V : Int) - (2 ^ s : Nat) else V := by
  have hp : (2 : Int) ^ (64 - s) ≠ 0 := Int.ne_of_gt (Int.pow_pos (by decide))
  have e : 2 ^ s * 2 ^ (64 - s) = 18446744073709551616 := by rw [← Nat.pow_add, show s + (64 - s) = 64 by omega]
  have e1 : 2 ^ (s - 1) * 2 ^ (64 - s) = 9223372036854775808 := by rw [← Nat.pow_add, show s - 1 + (64 - s) = 63 by omega]
  have ec : (2 : Int) ^ (64 - s) = ((2 ^ (64 - s) : Nat) : Int) := by rw [Int.natCast_pow]; rfl
  have k1 : V * 2 ^ (64 - s) < 18446744073709551616 := by rw [← e]; exact Nat.mul_lt_mul_of_pos_right hV (Nat.two_pow_pos _)
  split
  · rename_i h
    have k2 : 9223372036854775808 ≤ V * 2 ^ (64 - s) := by rw [← e1]; exact Nat.mul_le_mul_right _ h
    have w : wrap64 ((V : Int) * 2 ^ (64 - s)) = ((V : Int) - (2 ^ s : Nat)) * 2 ^ (64 - s) := by
      rw [Int.sub_mul, ec, ← Int.natCast_mul, ← Int.natCast_mul, e]
      unfold wrap64; omega
    rw [w, Int.mul_ediv_cancel _ hp]
  · rename_i h
    have k2 : V * 2 ^ (64 - s) < 9223372036854775808 := by rw [← e1]; exact Nat.mul_lt_mul_of_pos_right (by omega) (Nat.two_pow_pos _)
    have w : wrap64 ((V : Int) * 2 ^ (64 - s)) = (V : Int) * 2 ^ (64 - s) := by
      rw [ec, ← Int.natCast_mul]
      unfold wrap64; omega
    rw [w, Int.mul_ediv_cancel _ hp]
theorem wrap_wrap (a b : Int) (h : (a - b) % 18446744073709551616 = 0) : wrap64 a = wrap64 b := by unfold wrap64; omega
theorem value_9 (l : List Nat) (h : 0 < l.length) (h9 : l.length ≤ 9) : wrap64 (wrap64 ((valU l % 18446744073709551616 : Nat) : Int) * 2 ^ (64 - 7 * l.length)) / 2 ^ (64 - 7 * l.length) = wrap64 (valS l) := by
  have hlt := valU_lt l
  rw [pow7] at hlt
  have h63 : (2 : Nat) ^ (7 * l.length) ≤ 2 ^ 63 := Nat.pow_le_pow_right (by decide) (by omega)
  have e1 : valU l % 18446744073709551616 = valU l := Nat.mod_eq_of_lt (by omega)
  have e2 : wrap64 ((valU l : Nat) : Int) = (valU l : Int) := by unfold wrap64; omega
  rw [e1, e2, away_back (valU l) (7 * l.length) (by omega) (by omega) hlt]
  unfold valS
  by_cases hs : 64 ≤ lastN l % 128
  · rw [if_pos hs, if_pos ((sign_bit h).1 hs), pow7]
    unfold wrap64; omega
  · rw [if_neg hs, if_neg (fun hc => hs ((sign_bit h).2 hc))]
    unfold wrap64; omega
theorem value_10 (l : List Nat) (h : l.length = 10) : wrap64 (wrap64 ((valU l % 18446744073709551616 : Nat) : Int)) = wrap64 (valS l) := by
  unfold valS
  rw [h]
  split
  · unfold wrap64; omega
  · unfold wrap64; omega

/-- ReadS, for any slice, any offset, any number of bits. -/
theorem readS_any (A : Option Addr) (n cap : Nat) (l : List Nat) (hl : l.length = n) (hc : n ≤ cap) (hn : n ≤ 1000000) (p bits : Int) (w : World) (hb : Bytes w A l) :
    Calls Try.prog 17 #[.slice A n cap, .int .i64 p, .int .i64 bits] w (ValPost (rS l p bits) w) := by
  have hlen := length_any A n cap l hl hc hn p bits w hb
  rcases lenR_ways l p bits with h0 | ⟨k, rfl, b0, b1, c0, cm, c1, hx⟩
  · rw [rS_none h0]
    rw [h0] at hlen
    exact readS_none A n cap p bits w hlen
  · obtain ⟨g, o, rfl, _, hcell⟩ := hb.2 (by omega)
    have hmb := mostN_bits bits b0 b1
    have hf := found_bytes hb c1
    have hfl := found_len l k bits c1
    have hcl := hcell (k + lenR l k bits - 1) (by omega)
    have h := readS_some g o n cap k (lenR l k bits) (k + lenR l k bits - 1) (l.getD (k + lenR l k bits - 1) 0) (roomN (lenR l k bits) bits) (valU (found l k bits) % 18446744073709551616) (wrap64 (valS (found l k bits))) bits hn hc c0 (by omega) (by omega) (by omega) (by unfold roomN; omega) (by unfold roomN; omega) hx w hlen
      (fun w => room_any _ bits c0 (by omega) b0 b1 (by omega) w)
      (fun w1 h1 => join_any _ _ _ (found l k bits) hfl (by omega) w1 (hf.below h1))
      hcl (fun h9 => by have := value_9 (found l k bits) (by omega) (by omega); rw [hfl] at this; exact this) (fun h10 => value_10 _ (by omega)) _ rfl
    have hx := found_last l k bits c0 c1
    rw [← hx] at h
    cases hbd : badS (lastN (found l k bits)) (roomN (lenR l k bits) bits) with
    | true => rw [hbd] at h; rw [rS_bad hbd]; exact h
    | false => rw [hbd] at h; rw [rS_good c0 hbd]; exact h
end Go.Proofs.Ytebnlblkjdopaaa
