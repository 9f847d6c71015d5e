/-
  Contract of the document's ReadU.
-/
import Derived.Test.YtebnlblkjdopaaaLrow2
namespace Go.Proofs.Ytebnlblkjdopaaa
open Go.RowKit

theorem and127u (x : Nat) (h : x < 256) : Go.bits .and .u8 (x : Int) 127 = ((x % 128 : Nat) : Int) :=
  (by decide +kernel : ∀ k : Fin 256, Go.bits .and .u8 (k.val : Int) 127 = ((k.val % 128 : Nat) : Int)) ⟨x, h⟩
abbrev RowSays (A : Option Addr) (n cap : Nat) (p : Int) (M : Nat) (v : Value) (b : Bool) (w : World) : Prop := Calls Try.prog 24 #[.slice A n cap, .int .i64 p, .int .i64 (M : Int)] w (RowPost v b w)

theorem rreadU_out (A : Option Addr) (n cap : Nat) (p bits : Int) (h : bits < 1 ∨ 64 < bits) (w : World) :
    Calls Try.prog 18 #[.slice A n cap, .int .i64 p, .int .i64 bits] w (ValPost (.tuple #[.int .u64 0, .int .i64 0, .bool false]) w) := by
  rcases h with h | h
  all_goals
    go_enter Try.func18, Try.ntmps18
    go_wp2
    go_ret3
    exact ⟨rfl, Below.refl _ _⟩
set_option maxRecDepth 10000 in
theorem rreadU_none (A : Option Addr) (n cap M : Nat) (p bits : Int) (h0 : 1 ≤ bits) (h1 : bits ≤ 64) (hM : (bits + 6) / 7 = (M : Int)) (w : World) (hrow : RowSays A n cap p M (.slice none 0 0) false w) :
    Calls Try.prog 18 #[.slice A n cap, .int .i64 p, .int .i64 bits] w (ValPost (.tuple #[.int .u64 0, .int .i64 0, .bool false]) w) := by
  have HROW := Lib.hid hrow
  clear hrow
  go_enter Try.func18, Try.ntmps18
  go_wp2_with (go_at_call 24; refine HROW.out.mono ?_; rintro e w' ⟨rfl, rfl⟩)
  go_ret3
  exact ⟨rfl, Below.refl _ _⟩

set_option maxRecDepth 100000 in
set_option maxHeartbeats 1000000 in
theorem rreadU_bad (g o n cap k M r x : Nat) (bits : Int) (h0 : 1 ≤ bits) (h1 : bits ≤ 64) (hM : (bits + 6) / 7 = (M : Int)) (hM1 : 1 ≤ M) (hr : bits - 7 * ((M : Int) - 1) = (r : Int)) (hx : x < 256) (w : World)
    (hrow : RowSays (some ⟨g, o, none⟩) n cap k M (.slice (some ⟨g, o + k, none⟩) M (cap - k)) true w)
    (hcell : w.cell? ⟨g, o + k + (M - 1), none⟩ = some (.int .u8 (x : Int))) (hbad : badU x r = true) :
    Calls Try.prog 18 #[.slice (some ⟨g, o, none⟩) n cap, .int .i64 (k : Int), .int .i64 bits] w (ValPost (.tuple #[.int .u64 0, .int .i64 0, .bool false]) w) := by
  have hb := badU_int x r
  rw [hbad] at hb
  have HROW := Lib.hid hrow
  clear hrow hbad
  go_enter Try.func18, Try.ntmps18
  go_wp2_with (go_at_call 24; refine HROW.out.mono ?_; rintro e w' ⟨rfl, rfl⟩)
  go_ret3
  exact ⟨rfl, Below.refl _ _⟩

set_option maxRecDepth 100000 in
set_option maxHeartbeats 1000000 in
theorem rreadU_good1 (g o n cap k M c : Nat) (f : List Nat) (bits : Int) (h0 : 1 ≤ bits) (h1 : bits ≤ 64) (hM : (bits + 6) / 7 = (M : Int)) (hc1 : 1 ≤ c) (hn : n ≤ 1000000) (hkc : k + c ≤ n) (hcM : c < M) (w : World) (hf : f.length = c) (hf2 : ∀ x ∈ f, x < 256)
    (hrow : RowSays (some ⟨g, o, none⟩) n cap k M (.slice (some ⟨g, o + k, none⟩) c (cap - k)) true w)
    (hcell : ∀ j, j < c → w.cell? ⟨g, o + k + j, none⟩ = some (.int .u8 (f.getD j 0 : Nat))) :
    Calls Try.prog 18 #[.slice (some ⟨g, o, none⟩) n cap, .int .i64 (k : Int), .int .i64 bits] w (ValPost (.tuple #[.int .u64 ((valU f % 18446744073709551616 : Nat) : Int), .int .i64 ((k : Int) + c), .bool true]) w) := by
  have HROW := Lib.hid hrow
  have HC := Lib.hid hcell
  have HL := Lib.hid hf
  have HF := Lib.hid hf2
  have e0 : ((c : Int) == (M : Int)) = false := by simp; omega
  clear hrow hcell hf hf2
  go_enter Try.func18, Try.ntmps18
  go_wp2_with (go_at_call 24; refine HROW.out.mono ?_; rintro e w' ⟨rfl, rfl⟩)
  go_loop [12, 13] (fun v i => ∃ j : Nat, j ≤ c ∧ i = .int .i64 (j : Int) ∧ v = .int .u64 ((valU (f.take j) % 18446744073709551616 : Nat) : Int)) (fun _ i => c - (intOf i).toNat)
  case atStart => exact ⟨0, Nat.zero_le _, rfl, rfl⟩
  case round =>
    obtain ⟨j, hj, rfl, rfl⟩ := hrel
    by_cases hlt : j < c
    · have c0 := HC.out j hlt
      have hx := getD_lt (by decide) HF.out j
      have hst := join_step f j (by rw [HL.out]; exact hlt) (by omega)
      generalize f.getD j 0 = x at c0 hx hst
      generalize valU (f.take j) % 18446744073709551616 = V at hst ⊢
      have hv := and127u x hx
      obtain ⟨y, hy⟩ : ∃ y, x % 128 = y := ⟨_, rfl⟩
      have hy2 : y < 128 := by omega
      rw [hy] at hv hst
      have HS := Lib.hid hst
      clear hy hst
      go_wp2
      go_round
      case rel => exact ⟨j + 1, by omega, by go_num, by rw [HS.out]⟩
      case measure => simp [intOf]; omega
    · obtain rfl : j = c := by omega
      have e : f.take j = f := List.take_of_length_le (by rw [HL.out]; exact Nat.le_refl _)
      rw [e]
      go_wp2
      go_ret3
      exact ⟨rfl, Below.refl _ _⟩
set_option maxRecDepth 100000 in
set_option maxHeartbeats 1000000 in
theorem rreadU_good2 (g o n cap k M c : Nat) (f : List Nat) (bits : Int) (h0 : 1 ≤ bits) (h1 : bits ≤ 64) (hM : (bits + 6) / 7 = (M : Int)) (hM1 : M ≤ 10) (hc1 : 1 ≤ c) (hn : n ≤ 1000000) (hkc : k + c ≤ n) (r x : Nat) (hcM : c = M) (hr : bits - 7 * ((c : Int) - 1) = (r : Int)) (hx0 : f.getD (c - 1) 0 = x) (hbad : badU x r = false) (w : World) (hf : f.length = c) (hf2 : ∀ x ∈ f, x < 256)
    (hrow : RowSays (some ⟨g, o, none⟩) n cap k M (.slice (some ⟨g, o + k, none⟩) c (cap - k)) true w)
    (hcell : ∀ j, j < c → w.cell? ⟨g, o + k + j, none⟩ = some (.int .u8 (f.getD j 0 : Nat))) :
    Calls Try.prog 18 #[.slice (some ⟨g, o, none⟩) n cap, .int .i64 (k : Int), .int .i64 bits] w (ValPost (.tuple #[.int .u64 ((valU f % 18446744073709551616 : Nat) : Int), .int .i64 ((k : Int) + c), .bool true]) w) := by
  have HROW := Lib.hid hrow
  have HC := Lib.hid hcell
  have HL := Lib.hid hf
  have HF := Lib.hid hf2
  subst hcM
  have hb := badU_int x r
  rw [hbad] at hb
  have c9 := hcell (c - 1) (by omega)
  rw [hx0] at c9
  have hx := getD_lt (by decide) hf2 (c - 1)
  rw [hx0] at hx
  clear hbad hx0
  clear hrow hcell hf hf2
  go_enter Try.func18, Try.ntmps18
  go_wp2_with (go_at_call 24; refine HROW.out.mono ?_; rintro e w' ⟨rfl, rfl⟩)
  go_loop [12, 13] (fun v i => ∃ j : Nat, j ≤ c ∧ i = .int .i64 (j : Int) ∧ v = .int .u64 ((valU (f.take j) % 18446744073709551616 : Nat) : Int)) (fun _ i => c - (intOf i).toNat)
  case atStart => exact ⟨0, Nat.zero_le _, rfl, rfl⟩
  case round =>
    obtain ⟨j, hj, rfl, rfl⟩ := hrel
    by_cases hlt : j < c
    · have c0 := HC.out j hlt
      clear c9
      have hx := getD_lt (by decide) HF.out j
      have hst := join_step f j (by rw [HL.out]; exact hlt) (by omega)
      generalize f.getD j 0 = x at c0 hx hst
      generalize valU (f.take j) % 18446744073709551616 = V at hst ⊢
      have hv := and127u x hx
      obtain ⟨y, hy⟩ : ∃ y, x % 128 = y := ⟨_, rfl⟩
      have hy2 : y < 128 := by omega
      rw [hy] at hv hst
      have HS := Lib.hid hst
      clear hy hst
      go_wp2
      go_round
      case rel => exact ⟨j + 1, by omega, by go_num, by rw [HS.out]⟩
      case measure => simp [intOf]; omega
    · obtain rfl : j = c := by omega
      have e : f.take j = f := List.take_of_length_le (by rw [HL.out]; exact Nat.le_refl _)
      rw [e]
      go_wp2
      go_ret3
      exact ⟨rfl, Below.refl _ _⟩

/-! ### Any slice -/
theorem lenR_row (l : List Nat) (n : Nat) (p bits : Int) (hl : l.length = n) (h0 : 1 ≤ bits) (h1 : bits ≤ 64) (h : p < 0 ∨ (n : Int) ≤ p) : lenR l p bits = 0 := by
  by_cases h2 : p < 0 ∨ (l.length : Int) < p
  · exact lenR_out l p bits (by omega)
  · obtain rfl : p = (n : Int) := by omega
    rw [lenR_in l n bits h0 h1 (by omega), List.drop_eq_nil_of_le (by omega)]
    rfl
theorem room_less (c : Nat) (bits : Int) (h1 : bits ≤ 64) (h0 : 1 ≤ bits) (hc : 1 ≤ c) (h : c < mostN bits) : roomN c bits = 7 := by
  have := mostN_bits bits h0 h1
  unfold roomN; omega
theorem room_most (bits : Int) (h1 : bits ≤ 64) (h0 : 1 ≤ bits) : bits - 7 * ((mostN bits : Int) - 1) = (roomN (mostN bits) bits : Int) ∧ 1 ≤ roomN (mostN bits) bits ∧ roomN (mostN bits) bits ≤ 7 := by
  have := mostN_bits bits h0 h1
  unfold roomN; omega
theorem badU_7 (x : Nat) (h : x < 128) : badU x 7 = false := by
  unfold badU
  rw [show x / 2 ^ 7 = 0 from Nat.div_eq_of_lt (by omega)]
  rfl
theorem found_lt (l : List Nat) (p bits : Int) (h : ∀ x ∈ l, x < 256) : ∀ x ∈ found l p bits, x < 256 := fun x hx => h x (List.mem_of_mem_drop (List.mem_of_mem_take hx))

theorem rreadU_any (A : Option Addr) (n cap : Nat) (l : List Nat) (hl : l.length = n) (hc : n ≤ cap) (hn : n ≤ 1000000) (p bits : Int) (w : World) (hb : Bytes w A l) :
    Calls Try.prog 18 #[.slice A n cap, .int .i64 p, .int .i64 bits] w (ValPost (rU l p bits) w) := by
  by_cases h : bits < 1 ∨ 64 < bits
  · rw [rU_none (lenR_out l p bits (by omega))]
    exact rreadU_out A n cap p bits h w
  · have b0 : 1 ≤ bits := by omega
    have b1 : bits ≤ 64 := by omega
    have hM : (bits + 6) / 7 = ((mostN bits : Nat) : Int) := by unfold mostN; omega
    have hmb := mostN_bits bits b0 b1
    by_cases hp : p < 0 ∨ (n : Int) ≤ p
    · rw [rU_none (lenR_row l n p bits hl b0 b1 hp)]
      exact rreadU_none A n cap (mostN bits) p bits b0 b1 hM w (row_out A n cap (mostN bits) p hp w)
    · obtain ⟨k, rfl⟩ : ∃ k : Nat, p = k := ⟨p.toNat, by omega⟩
      have hkn : k < n := by omega
      obtain ⟨g, o, rfl, _, hcell⟩ := hb.2 (by omega)
      rw [hl] at hcell
      have hlr := lenR_in l k bits b0 b1 (by omega)
      have hrow := row_in g o n cap k (mostN bits) (lenR l k bits) l hkn hc hn (by omega) w hb.1 hcell hl hlr.symm
      rcases lenR_ways l k bits with h0 | ⟨k', hk', _, _, c0, cm, c1, hx⟩
      · rw [rU_none h0]
        rw [h0] at hrow
        exact rreadU_none _ n cap (mostN bits) k bits b0 b1 hM w hrow
      · obtain rfl : k = k' := by omega
        have hfl := found_len l k bits c1
        have hfx := found_last l k bits c0 c1
        have hfc : ∀ j, j < lenR l k bits → w.cell? ⟨g, o + k + j, none⟩ = some (.int .u8 ((found l k bits).getD j 0 : Nat)) := fun j hj => by
          rw [found_getD l k bits j hj, Nat.add_assoc]; exact hcell (k + j) (by omega)
        have hne : (lenR l k bits != 0) = true := by simp; omega
        rw [rowV, if_neg (by omega), hne] at hrow
        rcases Nat.lt_or_ge (lenR l k bits) (mostN bits) with hlt | hge
        · rw [rU_good c0 (by rw [room_less _ bits b1 b0 c0 hlt, hfx]; exact badU_7 _ hx)]
          exact rreadU_good1 g o n cap k (mostN bits) (lenR l k bits) (found l k bits) bits b0 b1 hM c0 hn (by omega) hlt w hfl (found_lt l k bits hb.1) hrow hfc
        · have hce : lenR l k bits = mostN bits := by omega
          obtain ⟨r0, r1, r2⟩ := room_most bits b1 b0
          cases hbd : badU (lastN (found l k bits)) (roomN (lenR l k bits) bits) with
          | true =>
            rw [rU_bad hbd]
            have hcl := hcell (k + (mostN bits - 1)) (by omega)
            rw [← Nat.add_assoc] at hcl
            rw [hce, hfx, hce, Nat.add_sub_assoc (by omega)] at hbd
            rw [hce] at hrow
            exact rreadU_bad g o n cap k (mostN bits) (roomN (mostN bits) bits) _ bits b0 b1 hM (by omega) r0 (getD_lt (by decide) hb.1 _) w hrow hcl hbd
          | false =>
            rw [rU_good c0 hbd]
            exact rreadU_good2 g o n cap k (mostN bits) (lenR l k bits) (found l k bits) bits b0 b1 hM (by omega) c0 hn (by omega) (roomN (lenR l k bits) bits) (lastN (found l k bits)) hce (by rw [hce]; exact r0) (by unfold lastN; rw [hfl]) hbd w hfl (found_lt l k bits hb.1) hrow hfc
end Go.Proofs.Ytebnlblkjdopaaa
