/- A part of the proof. -/
import Derived.Test.YteohmkceapblkaaDoorJ1
import Derived.Lib.BitFns
import Derived.Lib.Walk
import Derived.Deep.CutRange
namespace Go.Proofs.YteohmkceapblkaaDoor
open Go.RowKit
def Tab (w : World) : Prop := ∀ i, i < 5 → w.cell? ⟨0, i, none⟩ = some (.int .i64 ([0, 0, 128, 2048, 65536].getD i 0))
theorem Tab.lt {w : World} (h : Tab w) : 0 < w.heap.size := World.block_lt_of_cell? w _ (h 0 (by decide))
theorem Tab.below {w w' : World} (h : Tab w) (hb : Below w.heap.size w w') : Tab w' := fun i hi => (hb.cell (p := ⟨0, i, none⟩) h.lt).trans (h i hi)
theorem len8_byte (x : Nat) (hx : x < 256) (hs : x < Lib.len8tab.size) : wrap64 ((Lib.len8tab[x]'hs).toNat : Int) = (Lib.bitLen x : Int) := by
  have e := Lib.len8_int (x : Int) (by omega) (by omega)
  have e2 : ((Lib.len8tab[x]'hs).toNat : Int) = Lib.len8 (x : Int) := by simp only [Lib.len8, Int.toNat_natCast, ByteArray.getElem?_lt' _ _ hs, Option.getD_some]
  rw [e2]
  rw [Int.toNat_natCast] at e
  unfold wrap64
  exact e
set_option maxRecDepth 100000 in
theorem len8_any (x : Nat) (hx : x < 256) (w : World) : Calls Tryd.prog 97 #[.int .u8 (x : Int)] w fun e w' => e = .returned (.int .i64 (Lib.bitLen x : Int)) ∧ w = w' := by
  have HX := Lib.hid hx
  go_enter Tryd.func97, Tryd.ntmps97
  go_wp2
  go_ret
  exact ⟨ret_int (len8_byte x HX.out _), rfl⟩
theorem lead8_any (x : Nat) (hx : x < 256) (w : World) : Calls Tryd.prog 94 #[.int .u8 (x : Int)] w fun e w' => e = .returned (.int .i64 (8 - (Lib.bitLen x : Int))) ∧ w = w' := by
  have hl : Lib.bitLen x ≤ 8 := (by decide +kernel : ∀ k : Fin 256, Lib.bitLen k.val ≤ 8) ⟨x, hx⟩
  go_enter Tryd.func94, Tryd.ntmps94
  go_wp2_with (go_at_call 97; refine (len8_any x hx _).mono ?_; rintro e w' ⟨rfl, rfl⟩)
  go_ret
  exact ⟨rfl, rfl⟩
theorem not_byte (x : Nat) (h : x < 256) : Go.bits .xor .u8 IntKind.u8.max (x : Int) = ((255 - x : Nat) : Int) :=
  (by decide +kernel : ∀ k : Fin 256, Go.bits .xor .u8 IntKind.u8.max (k.val : Int) = ((255 - k.val : Nat) : Int)) ⟨x, h⟩
def onesB (x : Nat) : Nat := 8 - Lib.bitLen (255 - x)
theorem ones_is (x : Nat) (h : x < 256) : (8 : Int) - (Lib.bitLen (255 - x) : Int) = (onesB x : Int) :=
  (by decide +kernel : ∀ k : Fin 256, (8 : Int) - (Lib.bitLen (255 - k.val) : Int) = (onesB k.val : Int)) ⟨x, h⟩
theorem ones_says (x : Nat) (h : x < 256) : (x < 128 → onesB x = 0) ∧ (128 ≤ x ∧ x < 192 → onesB x = 1) ∧ (moreB x ≠ 0 → onesB x = moreB x + 1) ∧ (192 ≤ x → moreB x = 0 → 5 ≤ onesB x ∧ onesB x ≤ 8) :=
  (by decide +kernel : ∀ k : Fin 256, (k.val < 128 → onesB k.val = 0) ∧ (128 ≤ k.val ∧ k.val < 192 → onesB k.val = 1) ∧ (moreB k.val ≠ 0 → onesB k.val = moreB k.val + 1) ∧ (192 ≤ k.val → moreB k.val = 0 → 5 ≤ onesB k.val ∧ onesB k.val ≤ 8)) ⟨x, h⟩
abbrev LeadSays (x o : Nat) : Prop := ∀ w : World, Calls Tryd.prog 94 #[.int .u8 ((255 - x : Nat) : Int)] w fun e w' => e = .returned (.int .i64 (o : Int)) ∧ w = w'
theorem lead_says (x : Nat) (h : x < 256) : LeadSays x (onesB x) := fun w => (lead8_any (255 - x) (by omega) w).mono fun e w' ⟨he, hw⟩ => ⟨by rw [he, ones_is x h], hw⟩
theorem u8_plain : IntKind.u8.signed = false := rfl
theorem size_low (g o n cap x k : Nat) (hx : x < 256) (ho : onesB x = k) (hk : k = 0) (w : World) (hc : w.cell? ⟨g, o, none⟩ = some (.int .u8 (x : Int))) (hn : 1 ≤ n) :
    Calls Tryd.prog 92 #[.slice (some ⟨g, o, none⟩) n cap] w (ValPost (.int .i64 1) w) := by
  have hl := lead_says x hx
  rw [ho] at hl
  have HL := Lib.hid hl
  have h1 := not_byte x hx
  have h2 := u8_plain
  subst hk
  clear hl ho
  go_enter Tryd.func92, Tryd.ntmps92
  go_wp2_with (go_at_call 94; refine (HL.out _).mono ?_; rintro e w' ⟨rfl, rfl⟩)
  go_ret
  exact ⟨rfl, Below.refl _ _⟩
theorem size_off (g o n cap x k : Nat) (hx : x < 256) (ho : onesB x = k) (hk : k = 1 ∨ 4 < k ∨ n < k) (hk0 : 1 ≤ k) (hk8 : k ≤ 8) (w : World) (hc : w.cell? ⟨g, o, none⟩ = some (.int .u8 (x : Int))) (hn : 1 ≤ n) :
    Calls Tryd.prog 92 #[.slice (some ⟨g, o, none⟩) n cap] w (ValPost (.int .i64 0) w) := by
  have hl := lead_says x hx
  rw [ho] at hl
  have HL := Lib.hid hl
  have h1 := not_byte x hx
  have h2 := u8_plain
  have h3 : ((k : Int) == 0) = false := by simp; omega
  have HK := Lib.hid hk
  clear hl ho hk
  by_cases k1 : k = 1
  · subst k1
    clear HK
    go_enter Tryd.func92, Tryd.ntmps92
    go_wp2_with (go_at_call 94; refine (HL.out _).mono ?_; rintro e w' ⟨rfl, rfl⟩)
    go_ret
    exact ⟨rfl, Below.refl _ _⟩
  · have h4 : ((k : Int) == 1) = false := by simp; omega
    by_cases k4 : 4 < k
    · have h5 : decide ((4 : Int) < (k : Int)) = true := by simp; omega
      go_enter Tryd.func92, Tryd.ntmps92
      go_wp2_with (go_at_call 94; refine (HL.out _).mono ?_; rintro e w' ⟨rfl, rfl⟩)
      go_ret
      exact ⟨rfl, Below.refl _ _⟩
    · have h5 : decide ((4 : Int) < (k : Int)) = false := by simp; omega
      have h6 : n < k := by have := HK.out; omega
      have h7 : decide ((n : Int) < (k : Int)) = true := by simp; omega
      go_enter Tryd.func92, Tryd.ntmps92
      go_wp2_with (go_at_call 94; refine (HL.out _).mono ?_; rintro e w' ⟨rfl, rfl⟩)
      go_ret
      exact ⟨rfl, Below.refl _ _⟩
theorem and31 (x : Nat) (h : x < 256) : Go.bits .and .u8 (x : Int) 31 = ((x % 32 : Nat) : Int) :=
  (by decide +kernel : ∀ k : Fin 256, Go.bits .and .u8 (k.val : Int) 31 = ((k.val % 32 : Nat) : Int)) ⟨x, h⟩
theorem and63 (x : Nat) (h : x < 256) : Go.bits .and .u8 (x : Int) 63 = ((x % 64 : Nat) : Int) :=
  (by decide +kernel : ∀ k : Fin 256, Go.bits .and .u8 (k.val : Int) 63 = ((k.val % 64 : Nat) : Int)) ⟨x, h⟩
theorem and15 (x : Nat) (h : x < 256) : Go.bits .and .u8 (x : Int) 15 = ((x % 16 : Nat) : Int) :=
  (by decide +kernel : ∀ k : Fin 256, Go.bits .and .u8 (k.val : Int) 15 = ((k.val % 16 : Nat) : Int)) ⟨x, h⟩
theorem and7 (x : Nat) (h : x < 256) : Go.bits .and .u8 (x : Int) 7 = ((x % 8 : Nat) : Int) :=
  (by decide +kernel : ∀ k : Fin 256, Go.bits .and .u8 (k.val : Int) 7 = ((k.val % 8 : Nat) : Int)) ⟨x, h⟩
theorem or_six (V y : Nat) (h : V < 8388608) : Go.bits .or .i64 ((V : Int) * 64) ((y : Int) % 64) = (V : Int) * 64 + (y : Int) % 64 := by
  have e1 : (V : Int) * 64 = ((V * 64 : Nat) : Int) := by omega
  have e2 : (y : Int) % 64 = ((y % 64 : Nat) : Int) := by omega
  have h1 : (BitVec.ofInt 64 ((V * 64 : Nat) : Int)).toNat = V * 64 := by
    rw [BitVec.ofInt_natCast, BitVec.toNat_ofNat]; exact Nat.mod_eq_of_lt (by omega)
  have h2 : (BitVec.ofInt 64 ((y % 64 : Nat) : Int)).toNat = y % 64 := by
    rw [BitVec.ofInt_natCast, BitVec.toNat_ofNat]; exact Nat.mod_eq_of_lt (by omega)
  have h3 : V * 64 ||| y % 64 = V * 64 + y % 64 := by
    have h := Nat.two_pow_add_eq_or_of_lt (i := 6) (b := y % 64) (by omega) V
    rw [show (2 : Nat) ^ 6 = 64 from rfl] at h
    rw [Nat.mul_comm V 64]; exact h.symm
  rw [e1, e2]
  show IntKind.i64.wrap ((BitVec.ofInt 64 ((V * 64 : Nat) : Int) ||| BitVec.ofInt 64 ((y % 64 : Nat) : Int)).toNat : Int) = _
  rw [BitVec.toNat_or, h1, h2, h3, IntKind.wrap_i64]
  omega
theorem cont_yes {y : Nat} (h : contB y = true) : ((y : Int) / 64 != 2) = false := by
  unfold contB at h
  simp only [Bool.and_eq_true, decide_eq_true_eq] at h
  simp; omega
theorem cont_no {y : Nat} (h : contB y = false) : ((y : Int) / 64 != 2) = true := by
  unfold contB at h
  simp only [Bool.and_eq_false_iff, decide_eq_false_iff_not] at h
  simp; omega
theorem bad_ways (k V : Nat) (L : Int) (hL : L = (leastB k : Int)) :
    (badV k V = true ∧ decide ((V : Int) < L) = true) ∨ (badV k V = true ∧ decide ((V : Int) < L) = false ∧ decide ((55296 : Int) ≤ V) = true ∧ decide ((V : Int) < 57344) = true) ∨
    (badV k V = true ∧ decide ((V : Int) < L) = false ∧ decide ((55296 : Int) ≤ V) = true ∧ decide ((V : Int) < 57344) = false ∧ decide ((1114112 : Int) ≤ V) = true) ∨
    (badV k V = false ∧ decide ((V : Int) < L) = false ∧ decide ((55296 : Int) ≤ V) = false ∧ decide ((1114112 : Int) ≤ V) = false) ∨
    (badV k V = false ∧ decide ((V : Int) < L) = false ∧ decide ((55296 : Int) ≤ V) = true ∧ decide ((V : Int) < 57344) = false ∧ decide ((1114112 : Int) ≤ V) = false) := by
  subst hL
  unfold badV
  simp only [decide_eq_true_eq, decide_eq_false_iff_not]
  omega
set_option maxRecDepth 100000 in
set_option maxHeartbeats 1000000 in
theorem size_2 (g o n cap x : Nat) (t : List Nat) (R : Nat) (hx : x < 256) (ho : onesB x = 2) (hn : 2 ≤ n) (hcap : n ≤ cap) (w : World) (htab : Tab w) (hc : w.cell? ⟨g, o, none⟩ = some (.int .u8 (x : Int)))
    (ht : ∀ j, j < 1 → w.cell? ⟨g, o + 1 + j, none⟩ = some (.int .u8 (t.getD j 0 : Nat))) (hb : ∀ j, t.getD j 0 < 256) (htl : 1 ≤ t.length)
    (hno : ∀ j, j < 1 → contB (t.getD j 0) = false → R = 0) (hyes : (t.take 1).all contB = true → R = if badV 1 (taccB (x % 32) (t.take 1)) = true then 0 else 2) (hsm : ∀ j, j ≤ 3 → taccB (x % 32) (t.take j) < 8388608) :
    Calls Tryd.prog 92 #[.slice (some ⟨g, o, none⟩) n cap] w (ValPost (.int .i64 (R : Int)) w) := by
  have hl := lead_says x hx
  rw [ho] at hl
  have HL := Lib.hid hl
  have HT := Lib.hid ht
  have HB := Lib.hid hb
  have HTL := Lib.hid htl
  have HNO := Lib.hid hno
  have HYES := Lib.hid hyes
  have HSM := Lib.hid hsm
  have HTAB := Lib.hid htab
  have h1 := not_byte x hx
  have h2 := u8_plain
  have h3 := and31 x hx
  have h4 : decide ((n : Int) < 2) = false := by simp; omega
  clear hl ho ht hb htl hno hyes hsm htab
  go_enter Tryd.func92, Tryd.ntmps92
  go_wp2_with (go_at_call 94; refine (HL.out _).mono ?_; rintro e w' ⟨rfl, rfl⟩)
  go_quiet (fail)
  go_wp2_with fail
  clear h1 h2 h3 h4 hc
  go_loop [4, 37] (fun c i => ∃ j : Nat, j ≤ 1 ∧ i = .int .i64 (j : Int) ∧ c = .int .i64 ((taccB (x % 32) (t.take j) : Nat) : Int) ∧ Hid ((t.take j).all contB = true)) (fun _ i => 1 - (intOf i).toNat)
  case atStart => exact ⟨0, Nat.zero_le _, rfl, by simp [taccB], Lib.hid rfl⟩
  case round =>
    obtain ⟨j, hj, rfl, rfl, hall⟩ := hrel
    have hV := HSM.out j (by omega)
    by_cases hlt : j < 1
    · have c0 := HT.out j hlt
      have hy := HB.out j
      have hac := accB_take t j (by have := HTL.out; omega) (x % 32)
      have hat := all_take_succ (t := t) (j := j) (by have := HTL.out; omega) hall.out
      have hno := HNO.out j hlt
      generalize t.getD j 0 = y at c0 hy hac hat hno
      generalize taccB (x % 32) (t.take j) = V at hac hV ⊢
      have hor := or_six V y (by omega)
      have h63 := and63 y hy
      cases hcb : contB y with
      | true =>
        have hd : ((y : Int) / 64 != 2) = false := cont_yes hcb
        have hat := hat hcb
        have HAC := Lib.hid hac
        have HAT := Lib.hid hat
        have hl2 : decide ((j : Int) < 1) = true := by simp; omega
        clear hac hat hcb hno
        go_wp2
        go_round
        case rel => exact ⟨j + 1, by omega, by go_num, by rw [HAC.out]; go_num, HAT⟩
        case measure => simp [intOf]; omega
      | false =>
        have hd : ((y : Int) / 64 != 2) = true := cont_no hcb
        have hl2 : decide ((j : Int) < 1) = true := by simp; omega
        have HN := Lib.hid (hno hcb)
        clear hac hat hcb hno
        go_wp2
        go_ret
        exact ⟨ret_int (by rw [HN.out]; rfl), below_drewN (Below.refl _ _) _⟩
    · obtain rfl : j = 1 := by omega
      have ct : w.cell? ⟨0, 2, none⟩ = some (.int .i64 128) := HTAB.out 2 (by decide)
      have HR := Lib.hid (HYES.out hall.out)
      clear hall
      generalize taccB (x % 32) (t.take 1) = V at HR hV ⊢
      have hbw := bad_ways 1 V 128 rfl
      clear hV
      rcases hbw with ⟨hb, w1⟩ | ⟨hb, w1, w2, w3⟩ | ⟨hb, w1, w2, w3, w4⟩ | ⟨hb, w1, w2, w4⟩ | ⟨hb, w1, w2, w3, w4⟩
      all_goals
        rw [hb] at HR
        clear hb
        go_wp2
        go_ret
        exact ⟨ret_int (by rw [HR.out]; rfl), below_drewN (Below.refl _ _) _⟩
set_option maxRecDepth 100000 in
set_option maxHeartbeats 1000000 in
theorem size_3 (g o n cap x : Nat) (t : List Nat) (R : Nat) (hx : x < 256) (ho : onesB x = 3) (hn : 3 ≤ n) (hcap : n ≤ cap) (w : World) (htab : Tab w) (hc : w.cell? ⟨g, o, none⟩ = some (.int .u8 (x : Int)))
    (ht : ∀ j, j < 2 → w.cell? ⟨g, o + 1 + j, none⟩ = some (.int .u8 (t.getD j 0 : Nat))) (hb : ∀ j, t.getD j 0 < 256) (htl : 2 ≤ t.length)
    (hno : ∀ j, j < 2 → contB (t.getD j 0) = false → R = 0) (hyes : (t.take 2).all contB = true → R = if badV 2 (taccB (x % 16) (t.take 2)) = true then 0 else 3) (hsm : ∀ j, j ≤ 3 → taccB (x % 16) (t.take j) < 8388608) :
    Calls Tryd.prog 92 #[.slice (some ⟨g, o, none⟩) n cap] w (ValPost (.int .i64 (R : Int)) w) := by
  have hl := lead_says x hx
  rw [ho] at hl
  have HL := Lib.hid hl
  have HT := Lib.hid ht
  have HB := Lib.hid hb
  have HTL := Lib.hid htl
  have HNO := Lib.hid hno
  have HYES := Lib.hid hyes
  have HSM := Lib.hid hsm
  have HTAB := Lib.hid htab
  have h1 := not_byte x hx
  have h2 := u8_plain
  have h3 := and15 x hx
  have h4 : decide ((n : Int) < 3) = false := by simp; omega
  clear hl ho ht hb htl hno hyes hsm htab
  go_enter Tryd.func92, Tryd.ntmps92
  go_wp2_with (go_at_call 94; refine (HL.out _).mono ?_; rintro e w' ⟨rfl, rfl⟩)
  go_quiet (fail)
  go_wp2_with fail
  clear h1 h2 h3 h4 hc
  go_loop [4, 37] (fun c i => ∃ j : Nat, j ≤ 2 ∧ i = .int .i64 (j : Int) ∧ c = .int .i64 ((taccB (x % 16) (t.take j) : Nat) : Int) ∧ Hid ((t.take j).all contB = true)) (fun _ i => 2 - (intOf i).toNat)
  case atStart => exact ⟨0, Nat.zero_le _, rfl, by simp [taccB], Lib.hid rfl⟩
  case round =>
    obtain ⟨j, hj, rfl, rfl, hall⟩ := hrel
    have hV := HSM.out j (by omega)
    by_cases hlt : j < 2
    · have c0 := HT.out j hlt
      have hy := HB.out j
      have hac := accB_take t j (by have := HTL.out; omega) (x % 16)
      have hat := all_take_succ (t := t) (j := j) (by have := HTL.out; omega) hall.out
      have hno := HNO.out j hlt
      generalize t.getD j 0 = y at c0 hy hac hat hno
      generalize taccB (x % 16) (t.take j) = V at hac hV ⊢
      have hor := or_six V y (by omega)
      have h63 := and63 y hy
      cases hcb : contB y with
      | true =>
        have hd : ((y : Int) / 64 != 2) = false := cont_yes hcb
        have hat := hat hcb
        have HAC := Lib.hid hac
        have HAT := Lib.hid hat
        have hl2 : decide ((j : Int) < 2) = true := by simp; omega
        clear hac hat hcb hno
        go_wp2
        go_round
        case rel => exact ⟨j + 1, by omega, by go_num, by rw [HAC.out]; go_num, HAT⟩
        case measure => simp [intOf]; omega
      | false =>
        have hd : ((y : Int) / 64 != 2) = true := cont_no hcb
        have hl2 : decide ((j : Int) < 2) = true := by simp; omega
        have HN := Lib.hid (hno hcb)
        clear hac hat hcb hno
        go_wp2
        go_ret
        exact ⟨ret_int (by rw [HN.out]; rfl), below_drewN (Below.refl _ _) _⟩
    · obtain rfl : j = 2 := by omega
      have ct : w.cell? ⟨0, 3, none⟩ = some (.int .i64 2048) := HTAB.out 3 (by decide)
      have HR := Lib.hid (HYES.out hall.out)
      clear hall
      generalize taccB (x % 16) (t.take 2) = V at HR hV ⊢
      have hbw := bad_ways 2 V 2048 rfl
      clear hV
      rcases hbw with ⟨hb, w1⟩ | ⟨hb, w1, w2, w3⟩ | ⟨hb, w1, w2, w3, w4⟩ | ⟨hb, w1, w2, w4⟩ | ⟨hb, w1, w2, w3, w4⟩
      all_goals
        rw [hb] at HR
        clear hb
        go_wp2
        go_ret
        exact ⟨ret_int (by rw [HR.out]; rfl), below_drewN (Below.refl _ _) _⟩
set_option maxRecDepth 100000 in
set_option maxHeartbeats 1000000 in
theorem size_4 (g o n cap x : Nat) (t : List Nat) (R : Nat) (hx : x < 256) (ho : onesB x = 4) (hn : 4 ≤ n) (hcap : n ≤ cap) (w : World) (htab : Tab w) (hc : w.cell? ⟨g, o, none⟩ = some (.int .u8 (x : Int)))
    (ht : ∀ j, j < 3 → w.cell? ⟨g, o + 1 + j, none⟩ = some (.int .u8 (t.getD j 0 : Nat))) (hb : ∀ j, t.getD j 0 < 256) (htl : 3 ≤ t.length)
    (hno : ∀ j, j < 3 → contB (t.getD j 0) = false → R = 0) (hyes : (t.take 3).all contB = true → R = if badV 3 (taccB (x % 8) (t.take 3)) = true then 0 else 4) (hsm : ∀ j, j ≤ 3 → taccB (x % 8) (t.take j) < 8388608) :
    Calls Tryd.prog 92 #[.slice (some ⟨g, o, none⟩) n cap] w (ValPost (.int .i64 (R : Int)) w) := by
  have hl := lead_says x hx
  rw [ho] at hl
  have HL := Lib.hid hl
  have HT := Lib.hid ht
  have HB := Lib.hid hb
  have HTL := Lib.hid htl
  have HNO := Lib.hid hno
  have HYES := Lib.hid hyes
  have HSM := Lib.hid hsm
  have HTAB := Lib.hid htab
  have h1 := not_byte x hx
  have h2 := u8_plain
  have h3 := and7 x hx
  have h4 : decide ((n : Int) < 4) = false := by simp; omega
  clear hl ho ht hb htl hno hyes hsm htab
  go_enter Tryd.func92, Tryd.ntmps92
  go_wp2_with (go_at_call 94; refine (HL.out _).mono ?_; rintro e w' ⟨rfl, rfl⟩)
  go_quiet (fail)
  go_wp2_with fail
  clear h1 h2 h3 h4 hc
  go_loop [4, 37] (fun c i => ∃ j : Nat, j ≤ 3 ∧ i = .int .i64 (j : Int) ∧ c = .int .i64 ((taccB (x % 8) (t.take j) : Nat) : Int) ∧ Hid ((t.take j).all contB = true)) (fun _ i => 3 - (intOf i).toNat)
  case atStart => exact ⟨0, Nat.zero_le _, rfl, by simp [taccB], Lib.hid rfl⟩
  case round =>
    obtain ⟨j, hj, rfl, rfl, hall⟩ := hrel
    have hV := HSM.out j (by omega)
    by_cases hlt : j < 3
    · have c0 := HT.out j hlt
      have hy := HB.out j
      have hac := accB_take t j (by have := HTL.out; omega) (x % 8)
      have hat := all_take_succ (t := t) (j := j) (by have := HTL.out; omega) hall.out
      have hno := HNO.out j hlt
      generalize t.getD j 0 = y at c0 hy hac hat hno
      generalize taccB (x % 8) (t.take j) = V at hac hV ⊢
      have hor := or_six V y (by omega)
      have h63 := and63 y hy
      cases hcb : contB y with
      | true =>
        have hd : ((y : Int) / 64 != 2) = false := cont_yes hcb
        have hat := hat hcb
        have HAC := Lib.hid hac
        have HAT := Lib.hid hat
        have hl2 : decide ((j : Int) < 3) = true := by simp; omega
        clear hac hat hcb hno
        go_wp2
        go_round
        case rel => exact ⟨j + 1, by omega, by go_num, by rw [HAC.out]; go_num, HAT⟩
        case measure => simp [intOf]; omega
      | false =>
        have hd : ((y : Int) / 64 != 2) = true := cont_no hcb
        have hl2 : decide ((j : Int) < 3) = true := by simp; omega
        have HN := Lib.hid (hno hcb)
        clear hac hat hcb hno
        go_wp2
        go_ret
        exact ⟨ret_int (by rw [HN.out]; rfl), below_drewN (Below.refl _ _) _⟩
    · obtain rfl : j = 3 := by omega
      have ct : w.cell? ⟨0, 4, none⟩ = some (.int .i64 65536) := HTAB.out 4 (by decide)
      have HR := Lib.hid (HYES.out hall.out)
      clear hall
      generalize taccB (x % 8) (t.take 3) = V at HR hV ⊢
      have hbw := bad_ways 3 V 65536 rfl
      clear hV
      rcases hbw with ⟨hb, w1⟩ | ⟨hb, w1, w2, w3⟩ | ⟨hb, w1, w2, w3, w4⟩ | ⟨hb, w1, w2, w4⟩ | ⟨hb, w1, w2, w3, w4⟩
      all_goals
        rw [hb] at HR
        clear hb
        go_wp2
        go_ret
        exact ⟨ret_int (by rw [HR.out]; rfl), below_drewN (Below.refl _ _) _⟩
theorem size_any (A : Option Addr) (n cap : Nat) (l : List Nat) (hl : l.length = n) (h0 : 0 < n) (hcap : n ≤ cap) (w : World) (htab : Tab w) (hb : Bytes w A l) :
    Calls Tryd.prog 92 #[.slice A n cap] w (ValPost (.int .i64 (charB l : Int)) w) := by
  obtain ⟨g, o, rfl, _, hc⟩ := hb.2 (by omega)
  have hx : l.getD 0 0 < 256 := getD_lt (by decide) hb.1 0
  have he := cons_of (l := l) (by omega)
  have hc0 := hc 0 (by omega)
  have hct : ∀ j, j < (l.drop 1).length → w.cell? ⟨g, o + 1 + j, none⟩ = some (.int .u8 ((l.drop 1).getD j 0 : Nat)) := fun j hj => by
    have h := hc (1 + j) (by rw [List.length_drop] at hj; omega)
    have e : (l.drop 1).getD j 0 = l.getD (1 + j) 0 := by rw [List.getD_eq_getElem?_getD, List.getElem?_drop, ← List.getD_eq_getElem?_getD]
    rw [e, ← h, Nat.add_assoc]
  have hcb : ∀ j, (l.drop 1).getD j 0 < 256 := fun j => getD_lt (by decide) (fun y hy => hb.1 y (List.mem_of_mem_drop hy)) j
  have htl : (l.drop 1).length = n - 1 := by rw [List.length_drop, hl]
  rw [Nat.add_zero] at hc0
  generalize l.getD 0 0 = x at hx he hc0
  generalize l.drop 1 = t at he hct hcb htl
  subst he
  obtain ⟨s1, s2, s3, s4⟩ := ones_says x hx
  by_cases hx1 : x < 128
  · rw [charB_one hx1]
    exact size_low g o n cap x _ hx rfl (s1 hx1) w hc0 (by omega)
  · by_cases hm : moreB x = 0
    · rw [charB_none hx1 (.inl hm)]
      by_cases h192 : x < 192
      · have := s2 ⟨by omega, h192⟩
        exact size_off g o n cap x _ hx rfl (.inl this) (by omega) (by omega) w hc0 (by omega)
      · have := s4 (by omega) hm
        exact size_off g o n cap x _ hx rfl (.inr (.inl (by omega))) (by omega) (by omega) w hc0 (by omega)
    · have h3 := s3 hm
      have hle := moreB_le x
      by_cases hlen : t.length < moreB x
      · rw [charB_none hx1 (.inr (.inl hlen))]
        exact size_off g o n cap x _ hx rfl (.inr (.inr (by omega))) (by omega) (by omega) w hc0 (by omega)
      · have hno : ∀ j, j < moreB x → contB (t.getD j 0) = false → charB (x :: t) = 0 := fun j hj hcj => charB_none hx1 (.inr (.inr (.inl (all_take_no (by omega) hj hcj))))
        have hyes : (t.take (moreB x)).all contB = true → charB (x :: t) = if badV (moreB x) (taccB (x % maskB (moreB x)) (t.take (moreB x))) = true then 0 else moreB x + 1 := fun ha => by
          cases hbd : badV (moreB x) (taccB (x % maskB (moreB x)) (t.take (moreB x))) with
          | true => rw [charB_none hx1 (.inr (.inr (.inr hbd)))]; rfl
          | false => rw [charB_good hx1 hm (by omega) ha hbd]; rfl
        have hsm := fun j hj => accB_small x (moreB x) j t hj
        generalize charB (x :: t) = R at hno hyes ⊢
        have h3w : moreB x = 1 ∨ moreB x = 2 ∨ moreB x = 3 := by omega
        rcases h3w with h | h | h
        · rw [h] at h3 hno hyes hlen hsm
          exact size_2 g o n cap x t R hx h3 (by omega) hcap w htab hc0 (fun j hj => hct j (by omega)) hcb (by omega) hno hyes hsm
        · rw [h] at h3 hno hyes hlen hsm
          exact size_3 g o n cap x t R hx h3 (by omega) hcap w htab hc0 (fun j hj => hct j (by omega)) hcb (by omega) hno hyes hsm
        · rw [h] at h3 hno hyes hlen hsm
          exact size_4 g o n cap x t R hx h3 (by omega) hcap w htab hc0 (fun j hj => hct j (by omega)) hcb (by omega) hno hyes hsm
end Go.Proofs.YteohmkceapblkaaDoor
