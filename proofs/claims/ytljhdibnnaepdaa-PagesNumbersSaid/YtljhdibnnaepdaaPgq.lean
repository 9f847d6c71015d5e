/-
  Contracts of the document's memories: Put that is refused, Fill, Load, Store.
-/
import Derived.Test.YtljhdibnnaepdaaPgr
namespace Go.Proofs.Ytljhdibnnaepdaa
open Go.RowKit
variable {p B p2 B2 : Nat} {l l2 : List Nat} {mx mx2 : Nat} {w w' : World}

theorem rput_no (hg : Pg 46 p B l mx w) (q : Nat) (A : Option Addr) (n c : Nat) (h : ¬ q + n ≤ l.length) (hn : n ≤ maxLen) :
    Calls Try.prog 18 #[.pointer (some ⟨p, 0, none⟩), .int .u64 (q : Int), .slice A n c] w (Wrote 46 p B (.bool false) l mx w) := by
  have C := Lib.hid (in_no hg q n h)
  have G := Lib.hid hg
  clear hg h
  unfold maxLen at hn
  go_enter Try.func18, Try.ntmps18
  go_wp2_with (go_at_call 24; refine C.out.mono ?_; rintro e w' ⟨rfl, rfl⟩)
  go_ret
  exact Wrote.same G.out

/-! ### Fill -/
theorem rfill_yes (hg : Pg 46 p B l mx w) (q v n : Nat) (hv : v < 256) (h : q + n ≤ l.length) :
    Calls Try.prog 27 #[.pointer (some ⟨p, 0, none⟩), .int .u64 (q : Int), .int .u8 (v : Int), .int .u64 (n : Int)] w (Wrote 46 p B (.bool true) (splice l q (List.replicate n v)) mx w) := by
  have C := Lib.hid (in_yes hg q n h)
  have hf := hg.fits
  have G := Lib.hid hg
  clear hg
  go_enter Try.func27, Try.ntmps27
  go_wp2_with (go_at_call 24; refine C.out.mono ?_; rintro e w' ⟨rfl, rfl⟩)
  go_loopw [9] (fun i wr => ∃ k : Nat, k ≤ n ∧ i = .int .u64 (k : Int) ∧ But [B] w wr ∧ Pg 46 p B (splice l q (List.replicate k v)) mx wr) (fun i _ => n - (intOf i).toNat)
  case atStart => exact ⟨0, Nat.zero_le _, rfl, But.refl _ _, by rw [List.replicate_zero, splice_nil]; exact G.out⟩
  case round =>
    obtain ⟨k, hk, rfl, hbu, hpg⟩ := hrel
    by_cases hlt : k < n
    · have hls : (splice l q (List.replicate k v)).length = l.length := length_splice _ _ _ (by simp; omega)
      obtain ⟨c, hcc, c0⟩ := hpg.cell0
      rw [hls] at c0
      have hc := hpg.byte_at (q + k) (by omega)
      have hm := hpg.mark (q + k)
      have hpg2 := hpg.set (q + k) v (by omega) hv
      have hbu2 := hbu.trans (But.setCell wr (a := ⟨B, q + k, none⟩) (X := [B]) (by simp) (.int .u8 (v : Int)))
      have e := splice_snoc l q (List.replicate k v) v (by simp; omega)
      rw [List.length_replicate, ← List.replicate_succ'] at e
      rw [e] at hpg2
      have HP := Lib.hid hpg2
      have HB := Lib.hid hbu2
      clear hpg hpg2 hbu hbu2 e hls hcc
      generalize l.length = L at *
      go_wp2
      go_roundw
      case rel => exact ⟨k + 1, by omega, by go_num, HB.out, HP.out⟩
      case measure => simp [intOf]; omega
    · obtain rfl : k = n := by omega
      have HP := Lib.hid hpg
      have HB := Lib.hid hbu
      clear hpg hbu
      go_wp2
      go_ret
      exact ⟨rfl, HB.out, HP.out⟩
theorem rfill_no (hg : Pg 46 p B l mx w) (q v n : Nat) (h : ¬ q + n ≤ l.length) :
    Calls Try.prog 27 #[.pointer (some ⟨p, 0, none⟩), .int .u64 (q : Int), .int .u8 (v : Int), .int .u64 (n : Int)] w (Wrote 46 p B (.bool false) l mx w) := by
  have C := Lib.hid (in_no hg q n h)
  have G := Lib.hid hg
  clear hg h
  go_enter Try.func27, Try.ntmps27
  go_wp2_with (go_at_call 24; refine C.out.mono ?_; rintro e w' ⟨rfl, rfl⟩)
  go_ret
  exact Wrote.same G.out

/-! ### Load, Store -/
theorem rload_no (hg : Pg 46 p B l mx w) (q : Nat) (n : Int) (h : ¬ (wideB n = true ∧ (q : Int) + n ≤ l.length)) :
    Calls Try.prog 26 #[.pointer (some ⟨p, 0, none⟩), .int .u64 (q : Int), .int .i64 n] w (LoadPost 0 false w) := by
  by_cases hw : wideB n = true
  · obtain ⟨k, rfl, hk⟩ := wideB_yes hw
    have C := Lib.hid (in_no hg q k (fun h1 => h ⟨hw, by omega⟩))
    clear hg h hw
    rcases hk with rfl | rfl | rfl | rfl
    all_goals
      go_enter Try.func26, Try.ntmps26
      go_wp2_with (go_at_call 24; refine C.out.mono ?_; rintro e w' ⟨rfl, rfl⟩)
      go_ret2
      exact ⟨rfl, rfl⟩
  · have h4 : ¬ (n = 1 ∨ n = 2 ∨ n = 4 ∨ n = 8) := fun h1 => hw (decide_eq_true h1)
    have d1 : (n != 1) = true := by simp; omega
    have d2 : (n != 2) = true := by simp; omega
    have d4 : (n != 4) = true := by simp; omega
    have d8 : (n != 8) = true := by simp; omega
    clear hg h hw h4
    go_enter Try.func26, Try.ntmps26
    go_wp2
    go_ret2
    exact ⟨rfl, rfl⟩
theorem rstore_no (hg : Pg 46 p B l mx w) (q v : Nat) (n : Int) (h : ¬ (wideB n = true ∧ (q : Int) + n ≤ l.length)) :
    Calls Try.prog 29 #[.pointer (some ⟨p, 0, none⟩), .int .u64 (q : Int), .int .i64 n, .int .u64 (v : Int)] w (Wrote 46 p B (.bool false) l mx w) := by
  have G := Lib.hid hg
  by_cases hw : wideB n = true
  · obtain ⟨k, rfl, hk⟩ := wideB_yes hw
    have C := Lib.hid (in_no hg q k (fun h1 => h ⟨hw, by omega⟩))
    clear hg h hw
    rcases hk with rfl | rfl | rfl | rfl
    all_goals
      go_enter Try.func29, Try.ntmps29
      go_wp2_with (go_at_call 24; refine C.out.mono ?_; rintro e w' ⟨rfl, rfl⟩)
      go_ret
      exact Wrote.same G.out
  · have h4 : ¬ (n = 1 ∨ n = 2 ∨ n = 4 ∨ n = 8) := fun h1 => hw (decide_eq_true h1)
    have d1 : (n != 1) = true := by simp; omega
    have d2 : (n != 2) = true := by simp; omega
    have d4 : (n != 4) = true := by simp; omega
    have d8 : (n != 8) = true := by simp; omega
    clear hg h hw h4
    go_enter Try.func29, Try.ntmps29
    go_wp2
    go_ret
    exact Wrote.same G.out
theorem drop_cons_getD (l : List Nat) (k : Nat) (h : k < l.length) : l.drop k = l.getD k 0 :: l.drop (k + 1) := by
  rw [List.drop_eq_getElem_cons h]; simp [h]
set_option maxHeartbeats 1000000 in
theorem rload_yes (hg : Pg 46 p B l mx w) (q n : Nat) (hn : n = 1 ∨ n = 2 ∨ n = 4 ∨ n = 8) (h : q + n ≤ l.length) :
    Calls Try.prog 26 #[.pointer (some ⟨p, 0, none⟩), .int .u64 (q : Int), .int .i64 (n : Int)] w (LoadPost (valN ((l.drop q).take n)) true w) := by
  have C := Lib.hid (in_yes hg q n h)
  obtain ⟨c, hcc, c0⟩ := hg.cell0
  have hf := hg.fits
  have hn8 : n ≤ 8 := by omega
  have hlen : ((l.drop q).take n).length = n := by simp; omega
  have hby : ∀ x ∈ (l.drop q).take n, x < 256 := fun x hx => hg.byte x (List.mem_of_mem_drop (List.mem_of_mem_take hx))
  have hcell : ∀ k, k < n → w.cell? ⟨B, q + k, none⟩ = some (.int .u8 ((((l.drop q).take n).getD k 0 : Nat) : Int)) := fun k hk => by
    rw [hg.byte_at (q + k) (by omega)]
    simp [List.getD, hk]
  have HC := Lib.hid hcell
  have HBY := Lib.hid hby
  have HL := Lib.hid hlen
  clear hcell hby hlen hg
  generalize l.length = L at *
  generalize (l.drop q).take n = ys at *
  rcases hn with rfl | rfl | rfl | rfl
  all_goals
    go_enter Try.func26, Try.ntmps26
    go_wp2_with (go_at_call 24; refine C.out.mono ?_; rintro e w' ⟨rfl, rfl⟩)
    go_loop [8, 9] (fun v i => ∃ k : Nat, k ≤ ys.length ∧ i = .int .i64 ((k : Int) - 1) ∧ v = .int .u64 ((valN (ys.drop k) : Nat) : Int)) (fun _ i => (intOf i + 1).toNat)
    case atStart => exact ⟨ys.length, Nat.le_refl _, by rw [HL.out]; rfl, by rw [List.drop_length]; rfl⟩
    case round =>
      obtain ⟨k, hk, rfl, rfl⟩ := hrel
      rw [HL.out] at hk
      by_cases hlt : 0 < k
      · obtain ⟨j, rfl⟩ : ∃ j, k = j + 1 := ⟨k - 1, by omega⟩
        have hj : (((j + 1 : Nat) : Int) - 1) = (j : Int) := by omega
        have e0 := HC.out j (by omega)
        have hx : ys.getD j 0 < 256 := getD_lt (by decide) HBY.out j
        have hst := or_down (ys.getD j 0) (ys.drop (j + 1)) hx (fun y hy => HBY.out y (List.mem_of_mem_drop hy)) (by rw [List.length_drop, HL.out]; omega)
        rw [← drop_cons_getD ys j (by rw [HL.out]; omega)] at hst
        rw [hj]
        generalize ys.getD j 0 = x at e0 hst hx
        generalize valN (ys.drop (j + 1)) = V at hst ⊢
        have HS := Lib.hid hst
        clear hst hj
        go_wp2
        go_round
        case rel => exact ⟨j, by rw [HL.out]; omega, rfl, by rw [HS.out]⟩
        case measure => first | (simp [intOf]; done) | (simp [intOf]; omega)
      · obtain rfl : k = 0 := by omega
        go_wp2
        go_ret2
        exact ⟨rfl, ret_load (by first | rfl | rw [List.drop_zero])⟩
theorem div_step (v k : Nat) : v / 256 ^ k / 256 = v / 256 ^ (k + 1) := by rw [Nat.div_div_eq_div_mul, Nat.pow_succ]
set_option maxHeartbeats 1000000 in
theorem rstore_yes (hg : Pg 46 p B l mx w) (q v n : Nat) (hn : n = 1 ∨ n = 2 ∨ n = 4 ∨ n = 8) (h : q + n ≤ l.length) :
    Calls Try.prog 29 #[.pointer (some ⟨p, 0, none⟩), .int .u64 (q : Int), .int .i64 (n : Int), .int .u64 (v : Int)] w (Wrote 46 p B (.bool true) (splice l q (leN n v)) mx w) := by
  have C := Lib.hid (in_yes hg q n h)
  have hf := hg.fits
  have G := Lib.hid hg
  obtain ⟨m, hm⟩ : ∃ m, n = m := ⟨_, rfl⟩
  have HM := Lib.hid hm
  have h8 : m ≤ 8 := by omega
  have hqm : q + m ≤ l.length := by omega
  clear hg hm
  rcases hn with rfl | rfl | rfl | rfl
  all_goals
    go_enter Try.func29, Try.ntmps29
    go_wp2_with (go_at_call 24; refine C.out.mono ?_; rintro e w' ⟨rfl, rfl⟩)
    go_loopw [3, 9] (fun x i wr => ∃ k : Nat, k ≤ m ∧ i = .int .i64 (k : Int) ∧ x = .int .u64 ((v / 256 ^ k : Nat) : Int) ∧ But [B] w wr ∧ Pg 46 p B (splice l q (leN k v)) mx wr) (fun _ i _ => 8 - (intOf i).toNat)
    case atStart => exact ⟨0, Nat.zero_le _, rfl, by rw [Nat.pow_zero, Nat.div_one], But.refl _ _, by rw [show leN 0 v = [] from rfl, splice_nil]; exact G.out⟩
    case round =>
      obtain ⟨k, hk, rfl, rfl, hbu, hpg⟩ := hrel
      by_cases hlt : k < m
      · have hls : (splice l q (leN k v)).length = l.length := length_splice _ _ _ (by rw [leN_len]; omega)
        obtain ⟨c, hcc, c0⟩ := hpg.cell0
        rw [hls] at c0
        have hc := hpg.byte_at (q + k) (by omega)
        have hf0 := hpg.mark (q + k)
        have hx : v / 256 ^ k % 256 < 256 := Nat.mod_lt _ (by decide)
        have hpg2 := hpg.set (q + k) (v / 256 ^ k % 256) (by omega) hx
        have hbu2 := hbu.trans (But.setCell wr (a := ⟨B, q + k, none⟩) (X := [B]) (by simp) (.int .u8 ((v / 256 ^ k % 256 : Nat) : Int)))
        have e := splice_snoc l q (leN k v) (v / 256 ^ k % 256) (by rw [leN_len]; omega)
        rw [leN_len, ← leN_snoc] at e
        rw [e] at hpg2
        have hd := div_step v k
        have e8 : IntKind.u8.wrap ((v / 256 ^ k : Nat) : Int) = ((v / 256 ^ k % 256 : Nat) : Int) := by rw [IntKind.wrap_u8, Int.natCast_emod]; rfl
        generalize v / 256 ^ k % 256 = x at *
        generalize v / 256 ^ k = y at *
        have HD := Lib.hid hd
        have HP := Lib.hid hpg2
        have HB := Lib.hid hbu2
        clear hpg hpg2 hbu hbu2 e hls hcc hd
        generalize l.length = L at *
        have hm := HM.out
        subst hm
        go_wp2
        go_roundw
        case rel => exact ⟨k + 1, by omega, by go_num, by rw [← HD.out]; first | rfl | go_num, HB.out, HP.out⟩
        case measure => simp [intOf]; omega
      · have hk2 : k = m := by omega
        subst hk2
        have hm := HM.out
        subst hm
        have HP := Lib.hid hpg
        have HB := Lib.hid hbu
        clear hpg hbu
        go_wp2
        go_ret
        exact ⟨rfl, HB.out, HP.out⟩
end Go.Proofs.Ytljhdibnnaepdaa
