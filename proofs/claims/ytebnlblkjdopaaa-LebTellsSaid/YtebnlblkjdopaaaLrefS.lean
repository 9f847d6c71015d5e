/-
  Contract of the document's ReadS.
-/
import Derived.Test.YtebnlblkjdopaaaLrefU
import Derived.Test.YtebnlblkjdopaaaLreadS
namespace Go.Proofs.Ytebnlblkjdopaaa
open Go.RowKit

theorem rreadS_out (A : Option Addr) (n cap : Nat) (p bits : Int) (h : bits < 1 ∨ 64 < bits) (w : World) :
    Calls Try.prog 19 #[.slice A n cap, .int .i64 p, .int .i64 bits] w (ValPost (.tuple #[.int .i64 0, .int .i64 0, .bool false]) w) := by
  rcases h with h | h
  all_goals
    go_enter Try.func19, Try.ntmps19
    go_wp2
    go_ret3
    exact ⟨rfl, Below.refl _ _⟩
set_option maxRecDepth 100000 in
theorem rreadS_none (A : Option Addr) (n cap M : Nat) (p bits : Int) (h0 : 1 ≤ bits) (h1 : bits ≤ 64) (hM : (bits + 6) / 7 = (M : Int)) (w : World) (hrow : RowSays A n cap p M (.slice none 0 0) false w) :
    Calls Try.prog 19 #[.slice A n cap, .int .i64 p, .int .i64 bits] w (ValPost (.tuple #[.int .i64 0, .int .i64 0, .bool false]) w) := by
  have HROW := Lib.hid hrow
  clear hrow
  go_enter Try.func19, Try.ntmps19
  go_wp2_with (go_at_call 24; refine HROW.out.mono ?_; rintro e w' ⟨rfl, rfl⟩)
  go_ret3
  exact ⟨rfl, Below.refl _ _⟩

/-- The document's own look at the last byte. -/
theorem badS_ref : ∀ (x : Fin 128) (r : Fin 7), badS x.val (r.val + 1) = (((x.val : Int) / 2 ^ r.val != 0) && ((x.val : Int) / 2 ^ r.val != 127 / 2 ^ r.val)) := by decide +kernel

set_option maxRecDepth 100000 in
set_option maxHeartbeats 1000000 in
theorem rreadS_bad (g o n cap k M r x : Nat) (bits : Int) (h0 : 1 ≤ bits) (h1 : bits ≤ 64) (hM : (bits + 6) / 7 = (M : Int)) (hM1 : 1 ≤ M) (hr : bits - 7 * ((M : Int) - 1) = (r : Int)) (hx : x < 128) (w : World)
    (hrow : RowSays (some ⟨g, o, none⟩) n cap k M (.slice (some ⟨g, o + k, none⟩) M (cap - k)) true w)
    (hcell : w.cell? ⟨g, o + k + (M - 1), none⟩ = some (.int .u8 (x : Int))) (hbad : badS x r = true) :
    Calls Try.prog 19 #[.slice (some ⟨g, o, none⟩) n cap, .int .i64 (k : Int), .int .i64 bits] w (ValPost (.tuple #[.int .i64 0, .int .i64 0, .bool false]) w) := by
  have hb := badS_ref ⟨x, hx⟩ ⟨r - 1, by omega⟩
  simp only [show r - 1 + 1 = r by omega] at hb
  rw [hbad] at hb
  obtain ⟨e1, e2⟩ := Bool.and_eq_true_iff.1 hb.symm
  clear hb
  have hv := and127u x (by omega)
  rw [Nat.mod_eq_of_lt hx] at hv
  have HROW := Lib.hid hrow
  clear hrow hbad
  go_enter Try.func19, Try.ntmps19
  go_wp2_with (go_at_call 24; refine HROW.out.mono ?_; rintro e w' ⟨rfl, rfl⟩)
  go_ret3
  exact ⟨rfl, Below.refl _ _⟩

theorem toNat_wrap (t : Nat) : (BitVec.ofInt 64 (wrap64 (t : Int))).toNat = t % 18446744073709551616 := by
  rw [BitVec.toNat_ofInt]; unfold wrap64; omega
theorem wrap_mod (t : Nat) : IntKind.i64.wrap ((t % 18446744073709551616 : Nat) : Int) = wrap64 (t : Int) := by rw [IntKind.wrap_i64]; unfold wrap64; omega
theorem join_stepS (l : List Nat) (k : Nat) (h : k < l.length) (hk : k ≤ 9) :
    Go.bits .or .i64 (wrap64 ((valU (l.take k) : Nat) : Int)) (wrap64 (((l.getD k 0 % 128 : Nat) : Int) * 2 ^ (7 * k))) = wrap64 ((valU (l.take (k + 1)) : Nat) : Int) := by
  have hlt := valU_lt (l.take k)
  rw [List.length_take, Nat.min_eq_left (Nat.le_of_lt h), pow7] at hlt
  have h63 : valU (l.take k) < 2 ^ 64 := Nat.lt_of_lt_of_le hlt (Nat.pow_le_pow_right (by decide) (by omega))
  rw [valU_take l k h, pow7]
  generalize l.getD k 0 % 128 = d
  have hor := or_add (valU (l.take k)) d (7 * k) hlt (by omega)
  have e1 := toNat_wrap (valU (l.take k))
  have e0 : valU (l.take k) % 18446744073709551616 = valU (l.take k) := Nat.mod_eq_of_lt h63
  have e2 := toNat_wrap (d * 2 ^ (7 * k))
  have e : (d : Int) * 2 ^ (7 * k) = ((d * 2 ^ (7 * k) : Nat) : Int) := by rw [Int.natCast_mul, Int.natCast_pow]; rfl
  rw [e]
  show IntKind.i64.wrap ((BitVec.ofInt 64 _ ||| BitVec.ofInt 64 _).toNat : Int) = _
  rw [BitVec.toNat_or, e1, e0, e2]
  have e3 : valU (l.take k) ||| d * 2 ^ (7 * k) % 18446744073709551616 = (valU (l.take k) + d * 2 ^ (7 * k)) % 18446744073709551616 := hor
  rw [e3]
  exact wrap_mod _
theorem sign64 : ∀ x : Fin 128, (Go.bits .and .u8 (x.val : Int) 64 != 0) = decide (64 ≤ x.val) := by decide +kernel

set_option maxRecDepth 100000 in
set_option maxHeartbeats 2000000 in
theorem rreadS_good1 (g o n cap k M c x : Nat) (Z : Int) (f : List Nat) (bits : Int) (h0 : 1 ≤ bits) (h1 : bits ≤ 64) (hM : (bits + 6) / 7 = (M : Int)) (hc1 : 1 ≤ c) (hn : n ≤ 1000000) (hkc : k + c ≤ n) (hx0 : f.getD (c - 1) 0 = x) (hx : x < 128) (hcM : c < M) (hz : (64 ≤ x → c ≤ 9 → wrap64 (wrap64 ((valU f : Nat) : Int) - wrap64 (2 ^ (7 * c))) = Z) ∧ (64 ≤ x → ¬ c ≤ 9 → wrap64 ((valU f : Nat) : Int) = Z) ∧ (¬ 64 ≤ x → wrap64 ((valU f : Nat) : Int) = Z)) (w : World) (hf : f.length = c) (hf2 : ∀ x ∈ f, x < 256)
    (hrow : RowSays (some ⟨g, o, none⟩) n cap k M (.slice (some ⟨g, o + k, none⟩) c (cap - k)) true w)
    (hcell : ∀ j, j < c → w.cell? ⟨g, o + k + j, none⟩ = some (.int .u8 (f.getD j 0 : Nat))) :
    Calls Try.prog 19 #[.slice (some ⟨g, o, none⟩) n cap, .int .i64 (k : Int), .int .i64 bits] w (ValPost (.tuple #[.int .i64 Z, .int .i64 ((k : Int) + c), .bool true]) w) := by
  have c9 := hcell (c - 1) (by omega)
  rw [hx0] at c9
  have e0 : ((c : Int) == (M : Int)) = false := by simp; omega
  have HX := Lib.hid c9
  have HZ := Lib.hid hz
  have HROW := Lib.hid hrow
  have HC := Lib.hid hcell
  have HL := Lib.hid hf
  have HF := Lib.hid hf2
  clear hrow hcell hf hf2 hx0 hz
  go_enter Try.func19, Try.ntmps19
  go_wp2_with (go_at_call 24; refine HROW.out.mono ?_; rintro e w' ⟨rfl, rfl⟩)
  clear c9
  go_loop [15, 16] (fun v i => ∃ j : Nat, j ≤ c ∧ i = .int .i64 (j : Int) ∧ v = .int .i64 (wrap64 ((valU (f.take j) : Nat) : Int))) (fun _ i => c - (intOf i).toNat)
  case atStart => exact ⟨0, Nat.zero_le _, rfl, by simp [valU, wrap64]⟩
  case round =>
    obtain ⟨j, hj, rfl, rfl⟩ := hrel
    by_cases hlt : j < c
    · have c0 := HC.out j hlt
      have hx2 := getD_lt (by decide) HF.out j
      have hst := join_stepS f j (by rw [HL.out]; exact hlt) (by omega)
      generalize f.getD j 0 = x2 at c0 hx2 hst
      generalize wrap64 ((valU (f.take j) : Nat) : Int) = V at hst ⊢
      have hv := and127u x2 hx2
      obtain ⟨y, hy⟩ : ∃ y, x2 % 128 = y := ⟨_, rfl⟩
      have hy2 : y < 128 := by omega
      rw [hy] at hv hst
      have HS := Lib.hid hst
      clear hy hst
      go_wp2
      go_round
      case rel => exact ⟨j + 1, by omega, by go_num, by rw [← HS.out]⟩
      case measure => simp [intOf]; omega
    · have hjc : j = c := by omega
      have e : f.take j = f := List.take_of_length_le (by rw [HL.out]; omega)
      rw [e]
      clear e
      have hd : decide ((j : Int) < (c : Int)) = false := by simp; omega
      clear hlt
      have c9 := HX.out
      have hs := sign64 ⟨x, hx⟩
      by_cases h64 : 64 ≤ x
      · rw [decide_eq_true h64] at hs
        by_cases h9 : c ≤ 9
        · go_wp2
          go_ret3
          exact ⟨ret_3 (HZ.out.1 h64 h9), Below.refl _ _⟩
        · go_wp2
          all_goals go_ret3
          all_goals exact ⟨ret_3 (HZ.out.2.1 h64 h9), Below.refl _ _⟩
      · rw [decide_eq_false h64] at hs
        go_wp2
        go_ret3
        exact ⟨ret_3 (HZ.out.2.2 h64), Below.refl _ _⟩
theorem two_ways (b1 b2 : Bool) (h : false = (b1 && b2)) : b1 = false ∨ (b1 = true ∧ b2 = false) := by cases b1 <;> cases b2 <;> simp_all

set_option maxRecDepth 100000 in
set_option maxHeartbeats 2000000 in
theorem rreadS_good2 (g o n cap k M c x : Nat) (Z : Int) (f : List Nat) (bits : Int) (h0 : 1 ≤ bits) (h1 : bits ≤ 64) (hM : (bits + 6) / 7 = (M : Int)) (hc1 : 1 ≤ c) (hn : n ≤ 1000000) (hkc : k + c ≤ n) (hx0 : f.getD (c - 1) 0 = x) (hx : x < 128) (r : Nat) (hcM : c = M) (hc10 : c ≤ 10) (hr : bits - 7 * ((c : Int) - 1) = (r : Int)) (hbad : badS x r = false) (hz : (64 ≤ x → c ≤ 9 → wrap64 (wrap64 ((valU f : Nat) : Int) - wrap64 (2 ^ (7 * c))) = Z) ∧ (64 ≤ x → ¬ c ≤ 9 → wrap64 ((valU f : Nat) : Int) = Z) ∧ (¬ 64 ≤ x → wrap64 ((valU f : Nat) : Int) = Z)) (w : World) (hf : f.length = c) (hf2 : ∀ x ∈ f, x < 256)
    (hrow : RowSays (some ⟨g, o, none⟩) n cap k M (.slice (some ⟨g, o + k, none⟩) c (cap - k)) true w)
    (hcell : ∀ j, j < c → w.cell? ⟨g, o + k + j, none⟩ = some (.int .u8 (f.getD j 0 : Nat))) :
    Calls Try.prog 19 #[.slice (some ⟨g, o, none⟩) n cap, .int .i64 (k : Int), .int .i64 bits] w (ValPost (.tuple #[.int .i64 Z, .int .i64 ((k : Int) + c), .bool true]) w) := by
  have c9 := hcell (c - 1) (by omega)
  rw [hx0] at c9
  subst hcM
  have hb := badS_ref ⟨x, hx⟩ ⟨r - 1, by omega⟩
  simp only [show r - 1 + 1 = r by omega] at hb
  rw [hbad] at hb
  have hw := two_ways _ _ hb
  clear hb hbad
  have hv0 := and127u x (by omega)
  rw [Nat.mod_eq_of_lt hx] at hv0
  have HX := Lib.hid c9
  have HZ := Lib.hid hz
  have HROW := Lib.hid hrow
  have HC := Lib.hid hcell
  have HL := Lib.hid hf
  have HF := Lib.hid hf2
  clear hrow hcell hf hf2 hx0 hz
  rcases hw with e1 | ⟨e1, e2⟩
  all_goals
    go_enter Try.func19, Try.ntmps19
    go_wp2_with (go_at_call 24; refine HROW.out.mono ?_; rintro e w' ⟨rfl, rfl⟩)
    clear c9 hv0
    go_loop [15, 16] (fun v i => ∃ j : Nat, j ≤ c ∧ i = .int .i64 (j : Int) ∧ v = .int .i64 (wrap64 ((valU (f.take j) : Nat) : Int))) (fun _ i => c - (intOf i).toNat)
    case atStart => exact ⟨0, Nat.zero_le _, rfl, by simp [valU, wrap64]⟩
    case round =>
      obtain ⟨j, hj, rfl, rfl⟩ := hrel
      by_cases hlt : j < c
      · have c0 := HC.out j hlt
        have hx2 := getD_lt (by decide) HF.out j
        have hst := join_stepS f j (by rw [HL.out]; exact hlt) (by omega)
        generalize f.getD j 0 = x2 at c0 hx2 hst
        generalize wrap64 ((valU (f.take j) : Nat) : Int) = V at hst ⊢
        have hv := and127u x2 hx2
        obtain ⟨y, hy⟩ : ∃ y, x2 % 128 = y := ⟨_, rfl⟩
        have hy2 : y < 128 := by omega
        rw [hy] at hv hst
        have HS := Lib.hid hst
        clear hy hst
        go_wp2
        go_round
        case rel => exact ⟨j + 1, by omega, by go_num, by rw [← HS.out]⟩
        case measure => simp [intOf]; omega
      · have hjc : j = c := by omega
        have e : f.take j = f := List.take_of_length_le (by rw [HL.out]; omega)
        rw [e]
        clear e
        have hd : decide ((j : Int) < (c : Int)) = false := by simp; omega
        clear hlt
        have c9 := HX.out
        have hs := sign64 ⟨x, hx⟩
        by_cases h64 : 64 ≤ x
        · rw [decide_eq_true h64] at hs
          by_cases h9 : c ≤ 9
          · go_wp2
            go_ret3
            exact ⟨ret_3 (HZ.out.1 h64 h9), Below.refl _ _⟩
          · go_wp2
            all_goals go_ret3
            all_goals exact ⟨ret_3 (HZ.out.2.1 h64 h9), Below.refl _ _⟩
        · rw [decide_eq_false h64] at hs
          go_wp2
          go_ret3
          exact ⟨ret_3 (HZ.out.2.2 h64), Below.refl _ _⟩

theorem valueZ (f : List Nat) (c x : Nat) (hf : f.length = c) (hx0 : f.getD (c - 1) 0 = x) (hx : x < 128) (hc : c ≤ 10) :
    (64 ≤ x → c ≤ 9 → wrap64 (wrap64 ((valU f : Nat) : Int) - wrap64 (2 ^ (7 * c))) = wrap64 (valS f)) ∧ (64 ≤ x → ¬ c ≤ 9 → wrap64 ((valU f : Nat) : Int) = wrap64 (valS f)) ∧ (¬ 64 ≤ x → wrap64 ((valU f : Nat) : Int) = wrap64 (valS f)) := by
  have hl : lastN f % 128 = x := by unfold lastN; rw [hf, hx0, Nat.mod_eq_of_lt hx]
  refine ⟨fun h64 _ => ?_, fun h64 h9 => ?_, fun h64 => ?_⟩
  · unfold valS
    rw [hl, if_pos h64, hf, pow7]
    have e : ((2 ^ (7 * c) : Nat) : Int) = 2 ^ (7 * c) := by rw [Int.natCast_pow]; rfl
    rw [e]
    generalize (2 : Int) ^ (7 * c) = P
    generalize (valU f : Int) = V
    unfold wrap64; omega
  · unfold valS
    rw [hl, if_pos h64, hf, show c = 10 by omega]
    generalize (valU f : Int) = V
    unfold wrap64; omega
  · unfold valS
    rw [hl, if_neg h64]
theorem badS_7 : ∀ x : Fin 128, badS x.val 7 = false := by decide +kernel

theorem rreadS_any (A : Option Addr) (n cap : Nat) (l : List Nat) (hl : l.length = n) (hc : n ≤ cap) (hn : n ≤ 1000000) (p bits : Int) (w : World) (hb : Bytes w A l) :
    Calls Try.prog 19 #[.slice A n cap, .int .i64 p, .int .i64 bits] w (ValPost (rS l p bits) w) := by
  by_cases h : bits < 1 ∨ 64 < bits
  · rw [rS_none (lenR_out l p bits (by omega))]
    exact rreadS_out A n cap p bits h w
  · have b0 : 1 ≤ bits := by omega
    have b1 : bits ≤ 64 := by omega
    have hM : (bits + 6) / 7 = ((mostN bits : Nat) : Int) := by unfold mostN; omega
    have hmb := mostN_bits bits b0 b1
    by_cases hp : p < 0 ∨ (n : Int) ≤ p
    · rw [rS_none (lenR_row l n p bits hl b0 b1 hp)]
      exact rreadS_none A n cap (mostN bits) p bits b0 b1 hM w (row_out A n cap (mostN bits) p hp w)
    · obtain ⟨k, rfl⟩ : ∃ k : Nat, p = k := ⟨p.toNat, by omega⟩
      have hkn : k < n := by omega
      obtain ⟨g, o, rfl, _, hcell⟩ := hb.2 (by omega)
      rw [hl] at hcell
      have hlr := lenR_in l k bits b0 b1 (by omega)
      have hrow := row_in g o n cap k (mostN bits) (lenR l k bits) l hkn hc hn (by omega) w hb.1 hcell hl hlr.symm
      rcases lenR_ways l k bits with h0 | ⟨k', hk', _, _, c0, cm, c1, hx⟩
      · rw [rS_none h0]
        rw [h0] at hrow
        exact rreadS_none _ n cap (mostN bits) k bits b0 b1 hM w hrow
      · obtain rfl : k = k' := by omega
        have hfl := found_len l k bits c1
        have hfx := found_last l k bits c0 c1
        have hfc : ∀ j, j < lenR l k bits → w.cell? ⟨g, o + k + j, none⟩ = some (.int .u8 ((found l k bits).getD j 0 : Nat)) := fun j hj => by
          rw [found_getD l k bits j hj, Nat.add_assoc]; exact hcell (k + j) (by omega)
        have hne : (lenR l k bits != 0) = true := by simp; omega
        have hfx0 : (found l k bits).getD (lenR l k bits - 1) 0 = lastN (found l k bits) := by unfold lastN; rw [hfl]
        have hx' : lastN (found l k bits) < 128 := by rw [hfx]; exact hx
        have hZ := valueZ (found l k bits) (lenR l k bits) _ hfl hfx0 hx' (by omega)
        rw [rowV, if_neg (by omega), hne] at hrow
        rcases Nat.lt_or_ge (lenR l k bits) (mostN bits) with hlt | hge
        · rw [rS_good c0 (by rw [room_less _ bits b1 b0 c0 hlt]; exact badS_7 ⟨_, hx'⟩)]
          exact rreadS_good1 g o n cap k (mostN bits) (lenR l k bits) _ _ (found l k bits) bits b0 b1 hM c0 hn (by omega) hfx0 hx' hlt hZ w hfl (found_lt l k bits hb.1) hrow hfc
        · have hce : lenR l k bits = mostN bits := by omega
          obtain ⟨r0, r1, r2⟩ := room_most bits b1 b0
          cases hbd : badS (lastN (found l k bits)) (roomN (lenR l k bits) bits) with
          | true =>
            rw [rS_bad hbd]
            have hcl := hcell (k + (mostN bits - 1)) (by omega)
            rw [← Nat.add_assoc] at hcl
            rw [hce, hfx, hce, Nat.add_sub_assoc (by omega)] at hbd
            rw [hce] at hrow
            rw [hce, Nat.add_sub_assoc (by omega)] at hx
            exact rreadS_bad g o n cap k (mostN bits) (roomN (mostN bits) bits) _ bits b0 b1 hM (by omega) r0 hx w hrow hcl hbd
          | false =>
            rw [rS_good c0 hbd]
            exact rreadS_good2 g o n cap k (mostN bits) (lenR l k bits) _ _ (found l k bits) bits b0 b1 hM c0 hn (by omega) hfx0 hx' (roomN (lenR l k bits) bits) hce (by omega) (by rw [hce]; exact r0) hbd hZ w hfl (found_lt l k bits hb.1) hrow hfc
end Go.Proofs.Ytebnlblkjdopaaa
