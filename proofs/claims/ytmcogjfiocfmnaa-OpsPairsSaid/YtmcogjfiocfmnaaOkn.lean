/-
  Contracts of the document's Numeric and of both Known: what each gives back, for any number.
-/
import Derived.Test.YtmcogjfiocfmnaaOrna
import Derived.Test.YtmcogjfiocfmnaaOrnb
import Derived.Test.YtmcogjfiocfmnaaOnum
import Derived.Test.YtmcogjfiocfmnaaOaca
namespace Go.Proofs.Ytmcogjfiocfmnaa
open Go.RowKit

theorem num_ways (op : Int) (h : numB op = true) : op = 69 ∨ (70 ≤ op ∧ op ≤ 79) ∨ op = 80 ∨ (81 ≤ op ∧ op ≤ 90) ∨ (97 ≤ op ∧ op ≤ 102) ∨ (103 ≤ op ∧ op ≤ 105) ∨ (106 ≤ op ∧ op ≤ 120) ∨ (121 ≤ op ∧ op ≤ 123) ∨ (124 ≤ op ∧ op ≤ 138) ∨ (153 ≤ op ∧ op ≤ 159) ∨ (160 ≤ op ∧ op ≤ 166) ∨ op = 167 ∨ op = 170 ∨ op = 171 ∨ op = 172 ∨ op = 173 ∨ op = 176 ∨ op = 177 ∨ op = 183 ∨ op = 184 ∨ (185 ≤ op ∧ op ≤ 186) ∨ op = 189 ∨ op = 191 ∨ op = 192 ∨ op = 193 ∨ (194 ≤ op ∧ op ≤ 196) ∨ op = 64514 ∨ op = 64515 ∨ op = 64518 ∨ op = 64519 := by
  have e : isB op = true ∨ isF op = true := by simpa [numB] using h
  rcases e with e | e
  · have := of_decide_eq_true e; omega
  · have := of_decide_eq_true e; omega
theorem rnum_any (op : Int) (w : World) : Calls Try.prog 19 #[.int .i64 op] w (RNumPost op w) := by
  by_cases h : numB op = true
  case neg => exact rnum_no op (by simpa using h) w
  rcases num_ways op h with rfl | ⟨h0, h1⟩ | rfl | ⟨h0, h1⟩ | ⟨h0, h1⟩ | ⟨h0, h1⟩ | ⟨h0, h1⟩ | ⟨h0, h1⟩ | ⟨h0, h1⟩ | ⟨h0, h1⟩ | ⟨h0, h1⟩ | rfl | rfl | rfl | rfl | rfl | rfl | rfl | rfl | rfl | ⟨h0, h1⟩ | rfl | rfl | rfl | rfl | ⟨h0, h1⟩ | rfl | rfl | rfl | rfl
  · exact rnum_69 w
  · exact rnum_70 op h0 h1 w
  · exact rnum_80 w
  · exact rnum_81 op h0 h1 w
  · exact rnum_97 op h0 h1 w
  · exact rnum_103 op h0 h1 w
  · exact rnum_106 op h0 h1 w
  · exact rnum_121 op h0 h1 w
  · exact rnum_124 op h0 h1 w
  · exact rnum_153 op h0 h1 w
  · exact rnum_160 op h0 h1 w
  · exact rnum_167 w
  · exact rnum_170 w
  · exact rnum_171 w
  · exact rnum_172 w
  · exact rnum_173 w
  · exact rnum_176 w
  · exact rnum_177 w
  · exact rnum_183 w
  · exact rnum_184 w
  · exact rnum_185 op h0 h1 w
  · exact rnum_189 w
  · exact rnum_191 w
  · exact rnum_192 w
  · exact rnum_193 w
  · exact rnum_194 op h0 h1 w
  · exact rnum_64514 w
  · exact rnum_64515 w
  · exact rnum_64518 w
  · exact rnum_64519 w

/-! ### The document's Known -/
abbrev RNumAt (b : Bool) (w : World) (e : Ending) (w' : World) : Prop := ∃ ao n c ao' n' c', e = .returned (.tuple #[.slice ao n c, .slice ao' n' c', .bool b]) ∧ Below w.heap.size w w'
theorem rnum_at (op : Int) (b : Bool) (h : numB op = b) (w : World) : Calls Try.prog 19 #[.int .i64 op] w (RNumAt b w) :=
  (rnum_any op w).mono fun e w' hp => by
    obtain ⟨p, q, rfl, hp, hq, hb⟩ := hp
    obtain ⟨ao, n, c, rfl⟩ := hp.slice
    obtain ⟨ao', n', c', rfl⟩ := hq.slice
    exact ⟨ao, n, c, ao', n', c', by rw [h], hb⟩

theorem rknown_num (op : Int) (h : numB op = true) (w : World) : Calls Try.prog 8 #[.int .i64 op] w (BoolPost true w) := by
  have C := fun w => rnum_at op true h w
  have HC := Lib.hid C
  clear C h
  go_enter Try.func8, Try.ntmps8
  go_wp2_with (go_at_call 19; refine (HC.out _).mono ?_; rintro e w1 ⟨ao, n, c, ao', n', c', rfl, hb⟩)
  go_ret
  exact ⟨rfl, hb⟩
theorem rknown_acc (op a k : Int) (s d : Bool) (h : numB op = false) (ha : accB op = (a, k, s, d)) (hp : 0 < a) (w : World) : Calls Try.prog 8 #[.int .i64 op] w (BoolPost true w) := by
  have C := fun w => rnum_at op false h w
  have D := fun w => raccess_any op w
  rw [ha] at D
  have HC := Lib.hid C
  have HD := Lib.hid D
  clear C D h ha
  go_enter Try.func8, Try.ntmps8
  go_wp2_with (first | (go_at_call 19; refine (HC.out _).mono ?_; rintro e w1 ⟨ao, n, c, ao', n', c', rfl, hb⟩) | (go_at_call 20; refine (HD.out _).mono ?_; rintro e w' ⟨rfl, rfl⟩))
  go_ret
  exact ⟨rfl, hb⟩
theorem rknown_const (op a k : Int) (s d : Bool) (h : numB op = false) (ha : accB op = (a, k, s, d)) (hp : ¬ 0 < a) (hc : (constB op != 0) = true) (w : World) : Calls Try.prog 8 #[.int .i64 op] w (BoolPost true w) := by
  have C := fun w => rnum_at op false h w
  have D := fun w => raccess_any op w
  have E := fun w => rconst_any op w
  rw [ha] at D
  generalize constB op = z at hc E
  have HC := Lib.hid C
  have HD := Lib.hid D
  have HE := Lib.hid E
  clear C D E h ha
  go_enter Try.func8, Try.ntmps8
  go_wp2_with (first | (go_at_call 19; refine (HC.out _).mono ?_; rintro e w1 ⟨ao, n, c, ao', n', c', rfl, hb⟩) | (go_at_call 20; refine (HD.out _).mono ?_; rintro e w' ⟨rfl, rfl⟩) | (go_at_call 21; refine (HE.out _).mono ?_; rintro e w' ⟨rfl, rfl⟩))
  go_ret
  exact ⟨rfl, hb⟩

set_option maxHeartbeats 1000000 in
theorem rknown_yes (op a k : Int) (s d : Bool) (h : numB op = false) (ha : accB op = (a, k, s, d)) (hp : ¬ 0 < a) (hc : constB op = 0) (g : (0 ≤ op ∧ op ≤ 5) ∨ (11 ≤ op ∧ op ≤ 16) ∨ op = 18 ∨ op = 26 ∨ op = 27 ∨ (32 ≤ op ∧ op ≤ 36) ∨ op = 63 ∨ op = 64 ∨ (64520 ≤ op ∧ op ≤ 64523)) (w : World) : Calls Try.prog 8 #[.int .i64 op] w (BoolPost true w) := by
  have C := fun w => rnum_at op false h w
  have D := fun w => raccess_any op w
  have E := fun w => rconst_any op w
  rw [ha] at D
  rw [hc] at E
  have HC := Lib.hid C
  have HD := Lib.hid D
  have HE := Lib.hid E
  clear C D E h ha hc
  rcases g with ⟨h0, h1⟩ | ⟨h0, h1⟩ | rfl | rfl | rfl | ⟨h0, h1⟩ | rfl | rfl | ⟨h0, h1⟩
  · have p18 : (op == 18) = false := by simp; omega
    have p26 : (op == 26) = false := by simp; omega
    have p27 : (op == 27) = false := by simp; omega
    have p63 : (op == 63) = false := by simp; omega
    have p64 : (op == 64) = false := by simp; omega
    go_enter Try.func8, Try.ntmps8
    go_wp2_with (first | (go_at_call 19; refine (HC.out _).mono ?_; rintro e w1 ⟨ao, n, c, ao', n', c', rfl, hb⟩) | (go_at_call 20; refine (HD.out _).mono ?_; rintro e w' ⟨rfl, rfl⟩) | (go_at_call 21; refine (HE.out _).mono ?_; rintro e w' ⟨rfl, rfl⟩))
    go_ret
    exact ⟨rfl, hb⟩
  · have d5 : decide (op ≤ 5) = false := by simp; omega
    have p18 : (op == 18) = false := by simp; omega
    have p26 : (op == 26) = false := by simp; omega
    have p27 : (op == 27) = false := by simp; omega
    have p63 : (op == 63) = false := by simp; omega
    have p64 : (op == 64) = false := by simp; omega
    go_enter Try.func8, Try.ntmps8
    go_wp2_with (first | (go_at_call 19; refine (HC.out _).mono ?_; rintro e w1 ⟨ao, n, c, ao', n', c', rfl, hb⟩) | (go_at_call 20; refine (HD.out _).mono ?_; rintro e w' ⟨rfl, rfl⟩) | (go_at_call 21; refine (HE.out _).mono ?_; rintro e w' ⟨rfl, rfl⟩))
    go_ret
    exact ⟨rfl, hb⟩
  · go_enter Try.func8, Try.ntmps8
    go_wp2_with (first | (go_at_call 19; refine (HC.out _).mono ?_; rintro e w1 ⟨ao, n, c, ao', n', c', rfl, hb⟩) | (go_at_call 20; refine (HD.out _).mono ?_; rintro e w' ⟨rfl, rfl⟩) | (go_at_call 21; refine (HE.out _).mono ?_; rintro e w' ⟨rfl, rfl⟩))
    go_ret
    exact ⟨rfl, hb⟩
  · go_enter Try.func8, Try.ntmps8
    go_wp2_with (first | (go_at_call 19; refine (HC.out _).mono ?_; rintro e w1 ⟨ao, n, c, ao', n', c', rfl, hb⟩) | (go_at_call 20; refine (HD.out _).mono ?_; rintro e w' ⟨rfl, rfl⟩) | (go_at_call 21; refine (HE.out _).mono ?_; rintro e w' ⟨rfl, rfl⟩))
    go_ret
    exact ⟨rfl, hb⟩
  · go_enter Try.func8, Try.ntmps8
    go_wp2_with (first | (go_at_call 19; refine (HC.out _).mono ?_; rintro e w1 ⟨ao, n, c, ao', n', c', rfl, hb⟩) | (go_at_call 20; refine (HD.out _).mono ?_; rintro e w' ⟨rfl, rfl⟩) | (go_at_call 21; refine (HE.out _).mono ?_; rintro e w' ⟨rfl, rfl⟩))
    go_ret
    exact ⟨rfl, hb⟩
  · have d5 : decide (op ≤ 5) = false := by simp; omega
    have d16 : decide (op ≤ 16) = false := by simp; omega
    have p18 : (op == 18) = false := by simp; omega
    have p26 : (op == 26) = false := by simp; omega
    have p27 : (op == 27) = false := by simp; omega
    have p63 : (op == 63) = false := by simp; omega
    have p64 : (op == 64) = false := by simp; omega
    go_enter Try.func8, Try.ntmps8
    go_wp2_with (first | (go_at_call 19; refine (HC.out _).mono ?_; rintro e w1 ⟨ao, n, c, ao', n', c', rfl, hb⟩) | (go_at_call 20; refine (HD.out _).mono ?_; rintro e w' ⟨rfl, rfl⟩) | (go_at_call 21; refine (HE.out _).mono ?_; rintro e w' ⟨rfl, rfl⟩))
    go_ret
    exact ⟨rfl, hb⟩
  · go_enter Try.func8, Try.ntmps8
    go_wp2_with (first | (go_at_call 19; refine (HC.out _).mono ?_; rintro e w1 ⟨ao, n, c, ao', n', c', rfl, hb⟩) | (go_at_call 20; refine (HD.out _).mono ?_; rintro e w' ⟨rfl, rfl⟩) | (go_at_call 21; refine (HE.out _).mono ?_; rintro e w' ⟨rfl, rfl⟩))
    go_ret
    exact ⟨rfl, hb⟩
  · go_enter Try.func8, Try.ntmps8
    go_wp2_with (first | (go_at_call 19; refine (HC.out _).mono ?_; rintro e w1 ⟨ao, n, c, ao', n', c', rfl, hb⟩) | (go_at_call 20; refine (HD.out _).mono ?_; rintro e w' ⟨rfl, rfl⟩) | (go_at_call 21; refine (HE.out _).mono ?_; rintro e w' ⟨rfl, rfl⟩))
    go_ret
    exact ⟨rfl, hb⟩
  · have d5 : decide (op ≤ 5) = false := by simp; omega
    have d16 : decide (op ≤ 16) = false := by simp; omega
    have d36 : decide (op ≤ 36) = false := by simp; omega
    have p18 : (op == 18) = false := by simp; omega
    have p26 : (op == 26) = false := by simp; omega
    have p27 : (op == 27) = false := by simp; omega
    have p63 : (op == 63) = false := by simp; omega
    have p64 : (op == 64) = false := by simp; omega
    go_enter Try.func8, Try.ntmps8
    go_wp2_with (first | (go_at_call 19; refine (HC.out _).mono ?_; rintro e w1 ⟨ao, n, c, ao', n', c', rfl, hb⟩) | (go_at_call 20; refine (HD.out _).mono ?_; rintro e w' ⟨rfl, rfl⟩) | (go_at_call 21; refine (HE.out _).mono ?_; rintro e w' ⟨rfl, rfl⟩))
    go_ret
    exact ⟨rfl, hb⟩
set_option maxHeartbeats 1000000 in
theorem rknown_no (op a k : Int) (s d : Bool) (h : numB op = false) (ha : accB op = (a, k, s, d)) (hp : ¬ 0 < a) (hc : constB op = 0) (g : op ≤ -1 ∨ (6 ≤ op ∧ op ≤ 10) ∨ op = 17 ∨ (19 ≤ op ∧ op ≤ 25) ∨ (28 ≤ op ∧ op ≤ 31) ∨ (37 ≤ op ∧ op ≤ 62) ∨ (65 ≤ op ∧ op ≤ 64519) ∨ 64524 ≤ op) (w : World) : Calls Try.prog 8 #[.int .i64 op] w (BoolPost false w) := by
  have C := fun w => rnum_at op false h w
  have D := fun w => raccess_any op w
  have E := fun w => rconst_any op w
  rw [ha] at D
  rw [hc] at E
  have HC := Lib.hid C
  have HD := Lib.hid D
  have HE := Lib.hid E
  clear C D E h ha hc
  rcases g with h0 | ⟨h0, h1⟩ | rfl | ⟨h0, h1⟩ | ⟨h0, h1⟩ | ⟨h0, h1⟩ | ⟨h0, h1⟩ | h0
  · have p18 : (op == 18) = false := by simp; omega
    have p26 : (op == 26) = false := by simp; omega
    have p27 : (op == 27) = false := by simp; omega
    have p63 : (op == 63) = false := by simp; omega
    have p64 : (op == 64) = false := by simp; omega
    go_enter Try.func8, Try.ntmps8
    go_wp2_with (first | (go_at_call 19; refine (HC.out _).mono ?_; rintro e w1 ⟨ao, n, c, ao', n', c', rfl, hb⟩) | (go_at_call 20; refine (HD.out _).mono ?_; rintro e w' ⟨rfl, rfl⟩) | (go_at_call 21; refine (HE.out _).mono ?_; rintro e w' ⟨rfl, rfl⟩))
    go_ret
    exact ⟨rfl, hb⟩
  · have d5 : decide (op ≤ 5) = false := by simp; omega
    have p18 : (op == 18) = false := by simp; omega
    have p26 : (op == 26) = false := by simp; omega
    have p27 : (op == 27) = false := by simp; omega
    have p63 : (op == 63) = false := by simp; omega
    have p64 : (op == 64) = false := by simp; omega
    go_enter Try.func8, Try.ntmps8
    go_wp2_with (first | (go_at_call 19; refine (HC.out _).mono ?_; rintro e w1 ⟨ao, n, c, ao', n', c', rfl, hb⟩) | (go_at_call 20; refine (HD.out _).mono ?_; rintro e w' ⟨rfl, rfl⟩) | (go_at_call 21; refine (HE.out _).mono ?_; rintro e w' ⟨rfl, rfl⟩))
    go_ret
    exact ⟨rfl, hb⟩
  · go_enter Try.func8, Try.ntmps8
    go_wp2_with (first | (go_at_call 19; refine (HC.out _).mono ?_; rintro e w1 ⟨ao, n, c, ao', n', c', rfl, hb⟩) | (go_at_call 20; refine (HD.out _).mono ?_; rintro e w' ⟨rfl, rfl⟩) | (go_at_call 21; refine (HE.out _).mono ?_; rintro e w' ⟨rfl, rfl⟩))
    go_ret
    exact ⟨rfl, hb⟩
  · have d5 : decide (op ≤ 5) = false := by simp; omega
    have d16 : decide (op ≤ 16) = false := by simp; omega
    have p18 : (op == 18) = false := by simp; omega
    have p26 : (op == 26) = false := by simp; omega
    have p27 : (op == 27) = false := by simp; omega
    have p63 : (op == 63) = false := by simp; omega
    have p64 : (op == 64) = false := by simp; omega
    go_enter Try.func8, Try.ntmps8
    go_wp2_with (first | (go_at_call 19; refine (HC.out _).mono ?_; rintro e w1 ⟨ao, n, c, ao', n', c', rfl, hb⟩) | (go_at_call 20; refine (HD.out _).mono ?_; rintro e w' ⟨rfl, rfl⟩) | (go_at_call 21; refine (HE.out _).mono ?_; rintro e w' ⟨rfl, rfl⟩))
    go_ret
    exact ⟨rfl, hb⟩
  · have d5 : decide (op ≤ 5) = false := by simp; omega
    have d16 : decide (op ≤ 16) = false := by simp; omega
    have p18 : (op == 18) = false := by simp; omega
    have p26 : (op == 26) = false := by simp; omega
    have p27 : (op == 27) = false := by simp; omega
    have p63 : (op == 63) = false := by simp; omega
    have p64 : (op == 64) = false := by simp; omega
    go_enter Try.func8, Try.ntmps8
    go_wp2_with (first | (go_at_call 19; refine (HC.out _).mono ?_; rintro e w1 ⟨ao, n, c, ao', n', c', rfl, hb⟩) | (go_at_call 20; refine (HD.out _).mono ?_; rintro e w' ⟨rfl, rfl⟩) | (go_at_call 21; refine (HE.out _).mono ?_; rintro e w' ⟨rfl, rfl⟩))
    go_ret
    exact ⟨rfl, hb⟩
  · have d5 : decide (op ≤ 5) = false := by simp; omega
    have d16 : decide (op ≤ 16) = false := by simp; omega
    have d36 : decide (op ≤ 36) = false := by simp; omega
    have p18 : (op == 18) = false := by simp; omega
    have p26 : (op == 26) = false := by simp; omega
    have p27 : (op == 27) = false := by simp; omega
    have p63 : (op == 63) = false := by simp; omega
    have p64 : (op == 64) = false := by simp; omega
    go_enter Try.func8, Try.ntmps8
    go_wp2_with (first | (go_at_call 19; refine (HC.out _).mono ?_; rintro e w1 ⟨ao, n, c, ao', n', c', rfl, hb⟩) | (go_at_call 20; refine (HD.out _).mono ?_; rintro e w' ⟨rfl, rfl⟩) | (go_at_call 21; refine (HE.out _).mono ?_; rintro e w' ⟨rfl, rfl⟩))
    go_ret
    exact ⟨rfl, hb⟩
  · have d5 : decide (op ≤ 5) = false := by simp; omega
    have d16 : decide (op ≤ 16) = false := by simp; omega
    have d36 : decide (op ≤ 36) = false := by simp; omega
    have p18 : (op == 18) = false := by simp; omega
    have p26 : (op == 26) = false := by simp; omega
    have p27 : (op == 27) = false := by simp; omega
    have p63 : (op == 63) = false := by simp; omega
    have p64 : (op == 64) = false := by simp; omega
    go_enter Try.func8, Try.ntmps8
    go_wp2_with (first | (go_at_call 19; refine (HC.out _).mono ?_; rintro e w1 ⟨ao, n, c, ao', n', c', rfl, hb⟩) | (go_at_call 20; refine (HD.out _).mono ?_; rintro e w' ⟨rfl, rfl⟩) | (go_at_call 21; refine (HE.out _).mono ?_; rintro e w' ⟨rfl, rfl⟩))
    go_ret
    exact ⟨rfl, hb⟩
  · have d5 : decide (op ≤ 5) = false := by simp; omega
    have d16 : decide (op ≤ 16) = false := by simp; omega
    have d36 : decide (op ≤ 36) = false := by simp; omega
    have d64523 : decide (op ≤ 64523) = false := by simp; omega
    have p18 : (op == 18) = false := by simp; omega
    have p26 : (op == 26) = false := by simp; omega
    have p27 : (op == 27) = false := by simp; omega
    have p63 : (op == 63) = false := by simp; omega
    have p64 : (op == 64) = false := by simp; omega
    go_enter Try.func8, Try.ntmps8
    go_wp2_with (first | (go_at_call 19; refine (HC.out _).mono ?_; rintro e w1 ⟨ao, n, c, ao', n', c', rfl, hb⟩) | (go_at_call 20; refine (HD.out _).mono ?_; rintro e w' ⟨rfl, rfl⟩) | (go_at_call 21; refine (HE.out _).mono ?_; rintro e w' ⟨rfl, rfl⟩))
    go_ret
    exact ⟨rfl, hb⟩

theorem rknown_any (op : Int) (w : World) : Calls Try.prog 8 #[.int .i64 op] w (BoolPost (knownB op) w) := by
  rw [← rknown_eq]
  by_cases h : numB op = true
  · rw [show rknownB op = true by unfold rknownB; rw [h]; rfl]; exact rknown_num op h w
  · replace h : numB op = false := by simpa using h
    obtain ⟨a, k, s, d, ha⟩ : ∃ a k s d, accB op = (a, k, s, d) := ⟨_, _, _, _, rfl⟩
    by_cases hp : 0 < a
    · rw [show rknownB op = true by unfold rknownB; rw [h, ha]; simp [hp]]; exact rknown_acc op a k s d h ha hp w
    · by_cases hc : constB op = 0
      · by_cases g : (0 ≤ op ∧ op ≤ 5) ∨ (11 ≤ op ∧ op ≤ 16) ∨ op = 18 ∨ op = 26 ∨ op = 27 ∨ (32 ≤ op ∧ op ≤ 36) ∨ op = 63 ∨ op = 64 ∨ (64520 ≤ op ∧ op ≤ 64523)
        · rw [show rknownB op = true by unfold rknownB; rw [h, ha, hc]; simp [hp]; omega]; exact rknown_yes op a k s d h ha hp hc g w
        · rw [show rknownB op = false by unfold rknownB; rw [h, ha, hc]; simp [hp]; omega]; exact rknown_no op a k s d h ha hp hc (by omega) w
      · rw [show rknownB op = true by unfold rknownB; rw [h, ha]; simp [hp, hc]]; exact rknown_const op a k s d h ha hp (by simpa using hc) w

/-! ### ops.Known -/
theorem known_num (op : Int) (h : numB op = true) (w : World) : Calls Try.prog 17 #[.int .i64 op] w (BoolPost true w) := by
  have A := fun w => numeric_any op w
  rw [h] at A
  have HA := Lib.hid A
  clear A h
  go_enter Try.func17, Try.ntmps17
  go_wp2_with (go_at_call 24; refine (HA.out _).mono ?_; rintro e w' ⟨rfl, rfl⟩)
  go_ret
  exact ⟨rfl, Below.refl _ _⟩
theorem known_opens (op : Int) (h : numB op = false) (ho : opensB op = true) (w : World) : Calls Try.prog 17 #[.int .i64 op] w (BoolPost true w) := by
  have A := fun w => numeric_any op w
  have B := fun w => opens_any op w
  rw [h] at A
  rw [ho] at B
  have HA := Lib.hid A
  have HB := Lib.hid B
  clear A B h ho
  go_enter Try.func17, Try.ntmps17
  go_wp2_with (first | (go_at_call 24; refine (HA.out _).mono ?_; rintro e w' ⟨rfl, rfl⟩) | (go_at_call 16; refine (HB.out _).mono ?_; rintro e w' ⟨rfl, rfl⟩))
  go_ret
  exact ⟨rfl, Below.refl _ _⟩
theorem known_const (op : Int) (h : numB op = false) (ho : opensB op = false) (hc : (constB op != 0) = true) (w : World) : Calls Try.prog 17 #[.int .i64 op] w (BoolPost true w) := by
  have A := fun w => numeric_any op w
  have B := fun w => opens_any op w
  have C := fun w => const_any op w
  rw [h] at A
  rw [ho] at B
  rw [hc] at C
  have HA := Lib.hid A
  have HB := Lib.hid B
  have HC := Lib.hid C
  clear A B C h ho hc
  go_enter Try.func17, Try.ntmps17
  go_wp2_with (first | (go_at_call 24; refine (HA.out _).mono ?_; rintro e w' ⟨rfl, rfl⟩) | (go_at_call 16; refine (HB.out _).mono ?_; rintro e w' ⟨rfl, rfl⟩) | (go_at_call 15; refine (HC.out _).mono ?_; rintro e w' ⟨rfl, rfl⟩))
  go_ret
  exact ⟨rfl, Below.refl _ _⟩
theorem known_acc (op : Int) (h : numB op = false) (ho : opensB op = false) (hc : (constB op != 0) = false) (ha : (accB op).2.2.2 = true) (w : World) : Calls Try.prog 17 #[.int .i64 op] w (BoolPost true w) := by
  have A := fun w => numeric_any op w
  have B := fun w => opens_any op w
  have C := fun w => const_any op w
  have D := fun w => access_any op w
  rw [h] at A
  rw [ho] at B
  rw [hc] at C
  generalize accB op = p at D ha
  obtain ⟨x, y, z, d⟩ := p
  replace ha : d = true := ha
  subst ha
  have HA := Lib.hid A
  have HB := Lib.hid B
  have HC := Lib.hid C
  have HD := Lib.hid D
  clear A B C D h ho hc
  go_enter Try.func17, Try.ntmps17
  go_wp2_with (first | (go_at_call 24; refine (HA.out _).mono ?_; rintro e w' ⟨rfl, rfl⟩) | (go_at_call 16; refine (HB.out _).mono ?_; rintro e w' ⟨rfl, rfl⟩) | (go_at_call 15; refine (HC.out _).mono ?_; rintro e w' ⟨rfl, rfl⟩) | (go_at_call 14; refine (HD.out _).mono ?_; rintro e w1 ⟨rfl, hb⟩))
  go_ret
  exact ⟨rfl, hb⟩
theorem known_rest (op : Int) (h : numB op = false) (ho : opensB op = false) (hc : (constB op != 0) = false) (ha : (accB op).2.2.2 = false) (w : World) : Calls Try.prog 17 #[.int .i64 op] w (BoolPost (restL.contains op) w) := by
  have A := fun w => numeric_any op w
  have B := fun w => opens_any op w
  have C := fun w => const_any op w
  have D := fun w => access_any op w
  have E := fun (g : Nat) (w1 : World) hg => contains_any g 23 23 restL op rfl (by omega) w1 hg
  rw [h] at A
  rw [ho] at B
  rw [hc] at C
  generalize accB op = p at D ha
  obtain ⟨x, y, z, d⟩ := p
  replace ha : d = false := ha
  subst ha
  generalize restL.contains op = r at E
  have HA := Lib.hid A
  have HB := Lib.hid B
  have HC := Lib.hid C
  have HD := Lib.hid D
  have HE := Lib.hid E
  clear A B C D E h ho hc
  go_enter Try.func17, Try.ntmps17
  go_wp2_with (first | (go_at_call 24; refine (HA.out _).mono ?_; rintro e w' ⟨rfl, rfl⟩) | (go_at_call 16; refine (HB.out _).mono ?_; rintro e w' ⟨rfl, rfl⟩) | (go_at_call 15; refine (HC.out _).mono ?_; rintro e w' ⟨rfl, rfl⟩) | (go_at_call 14; refine (HD.out _).mono ?_; rintro e w1 ⟨rfl, hb⟩))
  refine (HE.out w1.heap.size _ (fun j hj => new_cells w1 3 restL j hj)).mono ?_
  rintro e w' ⟨rfl, rfl⟩
  go_wp2
  go_ret
  exact ⟨rfl, hb.alloc hb.size _⟩
theorem known_any (op : Int) (w : World) : Calls Try.prog 17 #[.int .i64 op] w (BoolPost (knownB op) w) := by
  cases h : numB op with
  | true => rw [show knownB op = true by unfold knownB; rw [h]; rfl]; exact known_num op h w
  | false =>
    cases ho : opensB op with
    | true => rw [show knownB op = true by unfold knownB; rw [h, ho]; rfl]; exact known_opens op h ho w
    | false =>
      cases hc : constB op != 0 with
      | true => rw [show knownB op = true by unfold knownB; rw [h, ho, hc]; rfl]; exact known_const op h ho hc w
      | false =>
        cases ha : (accB op).2.2.2 with
        | true => rw [show knownB op = true by unfold knownB; rw [h, ho, hc, ha]; rfl]; exact known_acc op h ho hc ha w
        | false => rw [show knownB op = restL.contains op by unfold knownB; rw [h, ho, hc, ha]; simp]; exact known_rest op h ho hc ha w
end Go.Proofs.Ytmcogjfiocfmnaa
