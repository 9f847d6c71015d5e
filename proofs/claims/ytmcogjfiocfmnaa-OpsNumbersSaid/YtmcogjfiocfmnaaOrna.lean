/-
  The document's Numeric: what it gives back for an operation, group by group (part 0).
-/
import Derived.Test.YtmcogjfiocfmnaaOrnum
namespace Go.Proofs.Ytmcogjfiocfmnaa
open Go.RowKit

set_option maxRecDepth 100000 in
set_option maxHeartbeats 1000000 in
theorem rnum_69 (w : World) : Calls Try.prog 19 #[.int .i64 69] w (RNumPost 69 w) := by
  have hn : numB 69 = true := by decide +kernel
  have hs : sigB 69 = (1, 127, 127) := by decide +kernel
  have C := fun w => ri_any 69 w
  rw [show isB 69 = true by decide +kernel] at C
  have HC := Lib.hid C
  have HN := Lib.hid hn
  have HS := Lib.hid hs
  clear C hn hs
  go_enter Try.func19, Try.ntmps19
  go_wp2_with (go_at_call 28; refine (HC.out _).mono ?_; rintro e w' ⟨rfl, rfl⟩)
  go_ret3
  exact rnum_end1 69 127 127 w HN.out HS.out

set_option maxRecDepth 100000 in
set_option maxHeartbeats 1000000 in
theorem rnum_80 (w : World) : Calls Try.prog 19 #[.int .i64 80] w (RNumPost 80 w) := by
  have hn : numB 80 = true := by decide +kernel
  have hs : sigB 80 = (1, 126, 127) := by decide +kernel
  have C := fun w => ri_any 80 w
  rw [show isB 80 = true by decide +kernel] at C
  have HC := Lib.hid C
  have HN := Lib.hid hn
  have HS := Lib.hid hs
  clear C hn hs
  go_enter Try.func19, Try.ntmps19
  go_wp2_with (go_at_call 28; refine (HC.out _).mono ?_; rintro e w' ⟨rfl, rfl⟩)
  go_ret3
  exact rnum_end1 80 126 127 w HN.out HS.out

set_option maxRecDepth 100000 in
set_option maxHeartbeats 1000000 in
theorem rnum_97 (op : Int) (h0 : 97 ≤ op) (h1 : op ≤ 102) (w : World) : Calls Try.prog 19 #[.int .i64 op] w (RNumPost op w) := by
  have e1 : isB op = false := decide_eq_false (by omega)
  have e2 : isF op = true := decide_eq_true (by omega)
  have hn : numB op = true := by unfold numB; rw [e1, e2]; rfl
  have hs : sigB op = (2, 124, 127) := by
    unfold sigB
    repeat (first | rw [if_pos (by omega)] | rw [if_neg (by omega)])
  have C := fun w => rif_any op w
  rw [e2] at C
  have D := fun w => ri_any op w
  rw [e1] at D
  clear e1 e2
  have d79 : decide (op ≤ 79) = false := by simp; omega
  have d90 : decide (op ≤ 90) = false := by simp; omega
  have p69 : (op == 69) = false := by simp; omega
  have p80 : (op == 80) = false := by simp; omega
  have p167 : (op == 167) = false := by simp; omega
  have p170 : (op == 170) = false := by simp; omega
  have p171 : (op == 171) = false := by simp; omega
  have p172 : (op == 172) = false := by simp; omega
  have p173 : (op == 173) = false := by simp; omega
  have p176 : (op == 176) = false := by simp; omega
  have p177 : (op == 177) = false := by simp; omega
  have p183 : (op == 183) = false := by simp; omega
  have p184 : (op == 184) = false := by simp; omega
  have p189 : (op == 189) = false := by simp; omega
  have p192 : (op == 192) = false := by simp; omega
  have p193 : (op == 193) = false := by simp; omega
  have p64514 : (op == 64514) = false := by simp; omega
  have p64515 : (op == 64515) = false := by simp; omega
  have p64518 : (op == 64518) = false := by simp; omega
  have p64519 : (op == 64519) = false := by simp; omega
  have HC := Lib.hid C
  have HN := Lib.hid hn
  have HS := Lib.hid hs
  clear C hn hs
  have HD := Lib.hid D
  clear D
  go_enter Try.func19, Try.ntmps19
  go_wp2_with (first | (go_at_call 28; refine (HD.out _).mono ?_; rintro e w' ⟨rfl, rfl⟩) | (go_at_call 29; refine (HC.out _).mono ?_; rintro e w' ⟨rfl, rfl⟩))
  go_ret3
  exact rnum_end2 op 124 127 w HN.out HS.out

set_option maxRecDepth 100000 in
set_option maxHeartbeats 1000000 in
theorem rnum_106 (op : Int) (h0 : 106 ≤ op) (h1 : op ≤ 120) (w : World) : Calls Try.prog 19 #[.int .i64 op] w (RNumPost op w) := by
  have e1 : isB op = true := decide_eq_true (by omega)
  have e2 : isF op = false := decide_eq_false (by omega)
  have hn : numB op = true := by unfold numB; rw [e1, e2]; rfl
  have hs : sigB op = (2, 127, 127) := by
    unfold sigB
    repeat (first | rw [if_pos (by omega)] | rw [if_neg (by omega)])
  have C := fun w => ri_any op w
  rw [e1] at C
  clear e1 e2
  have d79 : decide (op ≤ 79) = false := by simp; omega
  have d90 : decide (op ≤ 90) = false := by simp; omega
  have d102 : decide (op ≤ 102) = false := by simp; omega
  have d105 : decide (op ≤ 105) = false := by simp; omega
  have p69 : (op == 69) = false := by simp; omega
  have p80 : (op == 80) = false := by simp; omega
  have p167 : (op == 167) = false := by simp; omega
  have p170 : (op == 170) = false := by simp; omega
  have p171 : (op == 171) = false := by simp; omega
  have p172 : (op == 172) = false := by simp; omega
  have p173 : (op == 173) = false := by simp; omega
  have p176 : (op == 176) = false := by simp; omega
  have p177 : (op == 177) = false := by simp; omega
  have p183 : (op == 183) = false := by simp; omega
  have p184 : (op == 184) = false := by simp; omega
  have p189 : (op == 189) = false := by simp; omega
  have p192 : (op == 192) = false := by simp; omega
  have p193 : (op == 193) = false := by simp; omega
  have p64514 : (op == 64514) = false := by simp; omega
  have p64515 : (op == 64515) = false := by simp; omega
  have p64518 : (op == 64518) = false := by simp; omega
  have p64519 : (op == 64519) = false := by simp; omega
  have HC := Lib.hid C
  have HN := Lib.hid hn
  have HS := Lib.hid hs
  clear C hn hs
  go_enter Try.func19, Try.ntmps19
  go_wp2_with (go_at_call 28; refine (HC.out _).mono ?_; rintro e w' ⟨rfl, rfl⟩)
  go_ret3
  exact rnum_end2 op 127 127 w HN.out HS.out

set_option maxRecDepth 100000 in
set_option maxHeartbeats 1000000 in
theorem rnum_124 (op : Int) (h0 : 124 ≤ op) (h1 : op ≤ 138) (w : World) : Calls Try.prog 19 #[.int .i64 op] w (RNumPost op w) := by
  have e1 : isB op = true := decide_eq_true (by omega)
  have e2 : isF op = false := decide_eq_false (by omega)
  have hn : numB op = true := by unfold numB; rw [e1, e2]; rfl
  have hs : sigB op = (2, 126, 126) := by
    unfold sigB
    repeat (first | rw [if_pos (by omega)] | rw [if_neg (by omega)])
  have C := fun w => ri_any op w
  rw [e1] at C
  clear e1 e2
  have d79 : decide (op ≤ 79) = false := by simp; omega
  have d90 : decide (op ≤ 90) = false := by simp; omega
  have d102 : decide (op ≤ 102) = false := by simp; omega
  have d105 : decide (op ≤ 105) = false := by simp; omega
  have d120 : decide (op ≤ 120) = false := by simp; omega
  have d123 : decide (op ≤ 123) = false := by simp; omega
  have p69 : (op == 69) = false := by simp; omega
  have p80 : (op == 80) = false := by simp; omega
  have p167 : (op == 167) = false := by simp; omega
  have p170 : (op == 170) = false := by simp; omega
  have p171 : (op == 171) = false := by simp; omega
  have p172 : (op == 172) = false := by simp; omega
  have p173 : (op == 173) = false := by simp; omega
  have p176 : (op == 176) = false := by simp; omega
  have p177 : (op == 177) = false := by simp; omega
  have p183 : (op == 183) = false := by simp; omega
  have p184 : (op == 184) = false := by simp; omega
  have p189 : (op == 189) = false := by simp; omega
  have p192 : (op == 192) = false := by simp; omega
  have p193 : (op == 193) = false := by simp; omega
  have p64514 : (op == 64514) = false := by simp; omega
  have p64515 : (op == 64515) = false := by simp; omega
  have p64518 : (op == 64518) = false := by simp; omega
  have p64519 : (op == 64519) = false := by simp; omega
  have HC := Lib.hid C
  have HN := Lib.hid hn
  have HS := Lib.hid hs
  clear C hn hs
  go_enter Try.func19, Try.ntmps19
  go_wp2_with (go_at_call 28; refine (HC.out _).mono ?_; rintro e w' ⟨rfl, rfl⟩)
  go_ret3
  exact rnum_end2 op 126 126 w HN.out HS.out

set_option maxRecDepth 100000 in
set_option maxHeartbeats 1000000 in
theorem rnum_160 (op : Int) (h0 : 160 ≤ op) (h1 : op ≤ 166) (w : World) : Calls Try.prog 19 #[.int .i64 op] w (RNumPost op w) := by
  have e1 : isB op = false := decide_eq_false (by omega)
  have e2 : isF op = true := decide_eq_true (by omega)
  have hn : numB op = true := by unfold numB; rw [e1, e2]; rfl
  have hs : sigB op = (2, 124, 124) := by
    unfold sigB
    repeat (first | rw [if_pos (by omega)] | rw [if_neg (by omega)])
  have C := fun w => rif_any op w
  rw [e2] at C
  have D := fun w => ri_any op w
  rw [e1] at D
  clear e1 e2
  have d79 : decide (op ≤ 79) = false := by simp; omega
  have d90 : decide (op ≤ 90) = false := by simp; omega
  have d102 : decide (op ≤ 102) = false := by simp; omega
  have d105 : decide (op ≤ 105) = false := by simp; omega
  have d120 : decide (op ≤ 120) = false := by simp; omega
  have d123 : decide (op ≤ 123) = false := by simp; omega
  have d138 : decide (op ≤ 138) = false := by simp; omega
  have d159 : decide (op ≤ 159) = false := by simp; omega
  have p69 : (op == 69) = false := by simp; omega
  have p80 : (op == 80) = false := by simp; omega
  have p167 : (op == 167) = false := by simp; omega
  have p170 : (op == 170) = false := by simp; omega
  have p171 : (op == 171) = false := by simp; omega
  have p172 : (op == 172) = false := by simp; omega
  have p173 : (op == 173) = false := by simp; omega
  have p176 : (op == 176) = false := by simp; omega
  have p177 : (op == 177) = false := by simp; omega
  have p183 : (op == 183) = false := by simp; omega
  have p184 : (op == 184) = false := by simp; omega
  have p189 : (op == 189) = false := by simp; omega
  have p192 : (op == 192) = false := by simp; omega
  have p193 : (op == 193) = false := by simp; omega
  have p64514 : (op == 64514) = false := by simp; omega
  have p64515 : (op == 64515) = false := by simp; omega
  have p64518 : (op == 64518) = false := by simp; omega
  have p64519 : (op == 64519) = false := by simp; omega
  have HC := Lib.hid C
  have HN := Lib.hid hn
  have HS := Lib.hid hs
  clear C hn hs
  have HD := Lib.hid D
  clear D
  go_enter Try.func19, Try.ntmps19
  go_wp2_with (first | (go_at_call 28; refine (HD.out _).mono ?_; rintro e w' ⟨rfl, rfl⟩) | (go_at_call 29; refine (HC.out _).mono ?_; rintro e w' ⟨rfl, rfl⟩))
  go_ret3
  exact rnum_end2 op 124 124 w HN.out HS.out

set_option maxRecDepth 100000 in
set_option maxHeartbeats 1000000 in
theorem rnum_170 (w : World) : Calls Try.prog 19 #[.int .i64 170] w (RNumPost 170 w) := by
  have hn : numB 170 = true := by decide +kernel
  have hs : sigB 170 = (1, 124, 127) := by decide +kernel
  have C := fun w => rif_any 170 w
  rw [show isF 170 = true by decide +kernel] at C
  have D := fun w => ri_any 170 w
  rw [show isB 170 = false by decide +kernel] at D
  have HC := Lib.hid C
  have HN := Lib.hid hn
  have HS := Lib.hid hs
  clear C hn hs
  have HD := Lib.hid D
  clear D
  go_enter Try.func19, Try.ntmps19
  go_wp2_with (first | (go_at_call 28; refine (HD.out _).mono ?_; rintro e w' ⟨rfl, rfl⟩) | (go_at_call 29; refine (HC.out _).mono ?_; rintro e w' ⟨rfl, rfl⟩))
  go_ret3
  exact rnum_end1 170 124 127 w HN.out HS.out

set_option maxRecDepth 100000 in
set_option maxHeartbeats 1000000 in
theorem rnum_172 (w : World) : Calls Try.prog 19 #[.int .i64 172] w (RNumPost 172 w) := by
  have hn : numB 172 = true := by decide +kernel
  have hs : sigB 172 = (1, 127, 126) := by decide +kernel
  have C := fun w => ri_any 172 w
  rw [show isB 172 = true by decide +kernel] at C
  have HC := Lib.hid C
  have HN := Lib.hid hn
  have HS := Lib.hid hs
  clear C hn hs
  go_enter Try.func19, Try.ntmps19
  go_wp2_with (go_at_call 28; refine (HC.out _).mono ?_; rintro e w' ⟨rfl, rfl⟩)
  go_ret3
  exact rnum_end1 172 127 126 w HN.out HS.out

set_option maxRecDepth 100000 in
set_option maxHeartbeats 1000000 in
theorem rnum_176 (w : World) : Calls Try.prog 19 #[.int .i64 176] w (RNumPost 176 w) := by
  have hn : numB 176 = true := by decide +kernel
  have hs : sigB 176 = (1, 124, 126) := by decide +kernel
  have C := fun w => rif_any 176 w
  rw [show isF 176 = true by decide +kernel] at C
  have D := fun w => ri_any 176 w
  rw [show isB 176 = false by decide +kernel] at D
  have HC := Lib.hid C
  have HN := Lib.hid hn
  have HS := Lib.hid hs
  clear C hn hs
  have HD := Lib.hid D
  clear D
  go_enter Try.func19, Try.ntmps19
  go_wp2_with (first | (go_at_call 28; refine (HD.out _).mono ?_; rintro e w' ⟨rfl, rfl⟩) | (go_at_call 29; refine (HC.out _).mono ?_; rintro e w' ⟨rfl, rfl⟩))
  go_ret3
  exact rnum_end1 176 124 126 w HN.out HS.out

set_option maxRecDepth 100000 in
set_option maxHeartbeats 1000000 in
theorem rnum_183 (w : World) : Calls Try.prog 19 #[.int .i64 183] w (RNumPost 183 w) := by
  have hn : numB 183 = true := by decide +kernel
  have hs : sigB 183 = (1, 127, 124) := by decide +kernel
  have C := fun w => rif_any 183 w
  rw [show isF 183 = true by decide +kernel] at C
  have D := fun w => ri_any 183 w
  rw [show isB 183 = false by decide +kernel] at D
  have HC := Lib.hid C
  have HN := Lib.hid hn
  have HS := Lib.hid hs
  clear C hn hs
  have HD := Lib.hid D
  clear D
  go_enter Try.func19, Try.ntmps19
  go_wp2_with (first | (go_at_call 28; refine (HD.out _).mono ?_; rintro e w' ⟨rfl, rfl⟩) | (go_at_call 29; refine (HC.out _).mono ?_; rintro e w' ⟨rfl, rfl⟩))
  go_ret3
  exact rnum_end1 183 127 124 w HN.out HS.out

set_option maxRecDepth 100000 in
set_option maxHeartbeats 1000000 in
theorem rnum_185 (op : Int) (h0 : 185 ≤ op) (h1 : op ≤ 186) (w : World) : Calls Try.prog 19 #[.int .i64 op] w (RNumPost op w) := by
  have e1 : isB op = false := decide_eq_false (by omega)
  have e2 : isF op = true := decide_eq_true (by omega)
  have hn : numB op = true := by unfold numB; rw [e1, e2]; rfl
  have hs : sigB op = (1, 126, 124) := by
    unfold sigB
    repeat (first | rw [if_pos (by omega)] | rw [if_neg (by omega)])
  have C := fun w => rif_any op w
  rw [e2] at C
  have D := fun w => ri_any op w
  rw [e1] at D
  clear e1 e2
  have d79 : decide (op ≤ 79) = false := by simp; omega
  have d90 : decide (op ≤ 90) = false := by simp; omega
  have d102 : decide (op ≤ 102) = false := by simp; omega
  have d105 : decide (op ≤ 105) = false := by simp; omega
  have d120 : decide (op ≤ 120) = false := by simp; omega
  have d123 : decide (op ≤ 123) = false := by simp; omega
  have d138 : decide (op ≤ 138) = false := by simp; omega
  have d159 : decide (op ≤ 159) = false := by simp; omega
  have d166 : decide (op ≤ 166) = false := by simp; omega
  have p69 : (op == 69) = false := by simp; omega
  have p80 : (op == 80) = false := by simp; omega
  have p167 : (op == 167) = false := by simp; omega
  have p170 : (op == 170) = false := by simp; omega
  have p171 : (op == 171) = false := by simp; omega
  have p172 : (op == 172) = false := by simp; omega
  have p173 : (op == 173) = false := by simp; omega
  have p176 : (op == 176) = false := by simp; omega
  have p177 : (op == 177) = false := by simp; omega
  have p183 : (op == 183) = false := by simp; omega
  have p184 : (op == 184) = false := by simp; omega
  have p189 : (op == 189) = false := by simp; omega
  have p192 : (op == 192) = false := by simp; omega
  have p193 : (op == 193) = false := by simp; omega
  have p64514 : (op == 64514) = false := by simp; omega
  have p64515 : (op == 64515) = false := by simp; omega
  have p64518 : (op == 64518) = false := by simp; omega
  have p64519 : (op == 64519) = false := by simp; omega
  have HC := Lib.hid C
  have HN := Lib.hid hn
  have HS := Lib.hid hs
  clear C hn hs
  have HD := Lib.hid D
  clear D
  go_enter Try.func19, Try.ntmps19
  go_wp2_with (first | (go_at_call 28; refine (HD.out _).mono ?_; rintro e w' ⟨rfl, rfl⟩) | (go_at_call 29; refine (HC.out _).mono ?_; rintro e w' ⟨rfl, rfl⟩))
  go_ret3
  exact rnum_end1 op 126 124 w HN.out HS.out

set_option maxRecDepth 100000 in
set_option maxHeartbeats 1000000 in
theorem rnum_191 (w : World) : Calls Try.prog 19 #[.int .i64 191] w (RNumPost 191 w) := by
  have hn : numB 191 = true := by decide +kernel
  have hs : sigB 191 = (1, 126, 124) := by decide +kernel
  have C := fun w => rif_any 191 w
  rw [show isF 191 = true by decide +kernel] at C
  have D := fun w => ri_any 191 w
  rw [show isB 191 = false by decide +kernel] at D
  have HC := Lib.hid C
  have HN := Lib.hid hn
  have HS := Lib.hid hs
  clear C hn hs
  have HD := Lib.hid D
  clear D
  go_enter Try.func19, Try.ntmps19
  go_wp2_with (first | (go_at_call 28; refine (HD.out _).mono ?_; rintro e w' ⟨rfl, rfl⟩) | (go_at_call 29; refine (HC.out _).mono ?_; rintro e w' ⟨rfl, rfl⟩))
  go_ret3
  exact rnum_end1 191 126 124 w HN.out HS.out

set_option maxRecDepth 100000 in
set_option maxHeartbeats 1000000 in
theorem rnum_193 (w : World) : Calls Try.prog 19 #[.int .i64 193] w (RNumPost 193 w) := by
  have hn : numB 193 = true := by decide +kernel
  have hs : sigB 193 = (1, 127, 127) := by decide +kernel
  have C := fun w => ri_any 193 w
  rw [show isB 193 = true by decide +kernel] at C
  have HC := Lib.hid C
  have HN := Lib.hid hn
  have HS := Lib.hid hs
  clear C hn hs
  go_enter Try.func19, Try.ntmps19
  go_wp2_with (go_at_call 28; refine (HC.out _).mono ?_; rintro e w' ⟨rfl, rfl⟩)
  go_ret3
  exact rnum_end1 193 127 127 w HN.out HS.out

set_option maxRecDepth 100000 in
set_option maxHeartbeats 1000000 in
theorem rnum_64514 (w : World) : Calls Try.prog 19 #[.int .i64 64514] w (RNumPost 64514 w) := by
  have hn : numB 64514 = true := by decide +kernel
  have hs : sigB 64514 = (1, 124, 127) := by decide +kernel
  have C := fun w => rif_any 64514 w
  rw [show isF 64514 = true by decide +kernel] at C
  have D := fun w => ri_any 64514 w
  rw [show isB 64514 = false by decide +kernel] at D
  have HC := Lib.hid C
  have HN := Lib.hid hn
  have HS := Lib.hid hs
  clear C hn hs
  have HD := Lib.hid D
  clear D
  go_enter Try.func19, Try.ntmps19
  go_wp2_with (first | (go_at_call 28; refine (HD.out _).mono ?_; rintro e w' ⟨rfl, rfl⟩) | (go_at_call 29; refine (HC.out _).mono ?_; rintro e w' ⟨rfl, rfl⟩))
  go_ret3
  exact rnum_end1 64514 124 127 w HN.out HS.out

set_option maxRecDepth 100000 in
set_option maxHeartbeats 1000000 in
theorem rnum_64518 (w : World) : Calls Try.prog 19 #[.int .i64 64518] w (RNumPost 64518 w) := by
  have hn : numB 64518 = true := by decide +kernel
  have hs : sigB 64518 = (1, 124, 126) := by decide +kernel
  have C := fun w => rif_any 64518 w
  rw [show isF 64518 = true by decide +kernel] at C
  have D := fun w => ri_any 64518 w
  rw [show isB 64518 = false by decide +kernel] at D
  have HC := Lib.hid C
  have HN := Lib.hid hn
  have HS := Lib.hid hs
  clear C hn hs
  have HD := Lib.hid D
  clear D
  go_enter Try.func19, Try.ntmps19
  go_wp2_with (first | (go_at_call 28; refine (HD.out _).mono ?_; rintro e w' ⟨rfl, rfl⟩) | (go_at_call 29; refine (HC.out _).mono ?_; rintro e w' ⟨rfl, rfl⟩))
  go_ret3
  exact rnum_end1 64518 124 126 w HN.out HS.out

end Go.Proofs.Ytmcogjfiocfmnaa
