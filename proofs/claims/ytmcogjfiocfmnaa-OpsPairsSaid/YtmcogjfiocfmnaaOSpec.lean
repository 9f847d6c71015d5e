/-
  What chapter 3 fixes, as plain functions on numbers, and what is true of them. Nothing of the program stands here.
-/
import Derived.Test.YtmcogjfiocfmnaaSpec
namespace Go.Proofs.Ytmcogjfiocfmnaa
open Go.RowKit

/-- Whether op is an operation of floats. -/
def isF (op : Int) : Bool := decide (97 ≤ op ∧ op ≤ 102 ∨ 153 ≤ op ∧ op ≤ 166 ∨ op = 170 ∨ op = 171 ∨ op = 176 ∨ op = 177 ∨ 183 ≤ op ∧ op ≤ 186 ∨ op = 189 ∨ op = 191 ∨ op = 64514 ∨ op = 64515 ∨ op = 64518 ∨ op = 64519)
/-- Whether op is an operation of ints or of floats. -/
def numB (op : Int) : Bool := isB op || isF op

/-- How many numbers an operation takes, of which type, and of which type is what it gives. -/
def sigB (op : Int) : Nat × Int × Int :=
  if op = 69 then (1, 127, 127) else if 70 ≤ op ∧ op ≤ 79 then (2, 127, 127) else if op = 80 then (1, 126, 127) else if 81 ≤ op ∧ op ≤ 90 then (2, 126, 127)
  else if 97 ≤ op ∧ op ≤ 102 then (2, 124, 127) else if 103 ≤ op ∧ op ≤ 105 then (1, 127, 127) else if 106 ≤ op ∧ op ≤ 120 then (2, 127, 127)
  else if 121 ≤ op ∧ op ≤ 123 then (1, 126, 126) else if 124 ≤ op ∧ op ≤ 138 then (2, 126, 126) else if 153 ≤ op ∧ op ≤ 159 then (1, 124, 124)
  else if 160 ≤ op ∧ op ≤ 166 then (2, 124, 124) else if op = 167 then (1, 126, 127) else if 170 ≤ op ∧ op ≤ 171 then (1, 124, 127)
  else if 172 ≤ op ∧ op ≤ 173 then (1, 127, 126) else if 176 ≤ op ∧ op ≤ 177 then (1, 124, 126) else if 183 ≤ op ∧ op ≤ 184 then (1, 127, 124)
  else if 185 ≤ op ∧ op ≤ 186 then (1, 126, 124) else if op = 189 then (1, 124, 126) else if op = 191 then (1, 126, 124) else if 192 ≤ op ∧ op ≤ 193 then (1, 127, 127)
  else if 194 ≤ op ∧ op ≤ 196 then (1, 126, 126) else if 64514 ≤ op ∧ op ≤ 64515 then (1, 124, 127) else (1, 124, 126)
def paramsB (op : Int) : List Int := if numB op then List.replicate (sigB op).1 (sigB op).2.1 else []
def resultsB (op : Int) : List Int := if numB op then [(sigB op).2.2] else []

/-- Of an access the bytes, the type, whether it is signed, and whether it is one. -/
def accL : List (Int × Int × Bool × Bool) :=
  [(4, 127, false, true), (8, 126, false, true), (0, 0, false, false), (8, 124, false, true), (1, 127, true, true), (1, 127, false, true), (2, 127, true, true), (2, 127, false, true), (1, 126, true, true), (1, 126, false, true), (2, 126, true, true),
   (2, 126, false, true), (4, 126, true, true), (4, 126, false, true), (4, 127, false, true), (8, 126, false, true), (0, 0, false, false), (8, 124, false, true), (1, 127, false, true), (2, 127, false, true), (1, 126, false, true), (2, 126, false, true), (4, 126, false, true)]
def accB (op : Int) : Int × Int × Bool × Bool := if 40 ≤ op ∧ op ≤ 62 then accL.getD (op - 40).toNat (0, 0, false, false) else (0, 0, false, false)

def constB (op : Int) : Int := if op = 65 then 127 else if op = 66 then 126 else if op = 68 then 124 else 0
def opensB (op : Int) : Bool := decide (2 ≤ op ∧ op ≤ 4)
/-- The other known instructions. -/
def restL : List Int := [0, 1, 5, 11, 12, 13, 14, 15, 16, 18, 26, 27, 32, 33, 34, 35, 36, 63, 64, 64520, 64521, 64522, 64523]
def knownB (op : Int) : Bool := numB op || opensB op || constB op != 0 || (accB op).2.2.2 || restL.contains op
def richL : List Int := [18, 192, 193, 194, 195, 196, 64514, 64515, 64518, 64519, 64520, 64521, 64522, 64523]
def richB (op : Int) : Bool := richL.contains op

/-! ### Statements on all numbers: those of one byte, those of two, the others -/
theorem by_cases3 (P : Int → Prop) (h1 : ∀ n : Fin 256, P (n.val : Int)) (h2 : ∀ n : Fin 256, P (64512 + (n.val : Int)))
    (h3 : ∀ op, op < 0 ∨ 255 < op ∧ op < 64512 ∨ 64767 < op → P op) (op : Int) : P op := by
  by_cases a : 0 ≤ op ∧ op < 256
  · have := h1 ⟨op.toNat, by omega⟩
    rwa [show ((op.toNat : Nat) : Int) = op by omega] at this
  · by_cases b : 64512 ≤ op ∧ op < 64768
    · have := h2 ⟨(op - 64512).toNat, by omega⟩
      rwa [show 64512 + (((op - 64512).toNat : Nat) : Int) = op by omega] at this
    · exact h3 op (by omega)

theorem far_num (op : Int) (h : op < 0 ∨ 255 < op ∧ op < 64512 ∨ 64767 < op) : numB op = false := by
  unfold numB isB isF; rw [decide_eq_false (by omega), decide_eq_false (by omega)]; rfl
theorem far_opens (op : Int) (h : op < 0 ∨ 255 < op ∧ op < 64512 ∨ 64767 < op) : opensB op = false := decide_eq_false (by omega)
theorem far_const (op : Int) (h : op < 0 ∨ 255 < op ∧ op < 64512 ∨ 64767 < op) : constB op = 0 := by
  unfold constB; rw [if_neg (by omega), if_neg (by omega), if_neg (by omega)]
theorem far_acc (op : Int) (h : op < 0 ∨ 255 < op ∧ op < 64512 ∨ 64767 < op) : accB op = (0, 0, false, false) := by
  unfold accB; rw [if_neg (by omega)]
theorem far_list (l : List Int) (hl : l.all (fun x => decide (0 ≤ x ∧ x ≤ 255 ∨ 64512 ≤ x ∧ x ≤ 64767)) = true) (op : Int) (h : op < 0 ∨ 255 < op ∧ op < 64512 ∨ 64767 < op) : l.contains op = false := by
  rw [List.all_eq_true] at hl
  apply Bool.eq_false_iff.mpr
  intro hc
  have hm : op ∈ l := by simpa using hc
  have := of_decide_eq_true (hl op hm)
  omega
theorem far_rest (op : Int) (h : op < 0 ∨ 255 < op ∧ op < 64512 ∨ 64767 < op) : restL.contains op = false := far_list _ (by decide) op h
theorem far_rich (op : Int) (h : op < 0 ∨ 255 < op ∧ op < 64512 ∨ 64767 < op) : richB op = false := far_list _ (by decide) op h
theorem far_known (op : Int) (h : op < 0 ∨ 255 < op ∧ op < 64512 ∨ 64767 < op) : knownB op = false := by
  unfold knownB; rw [far_num op h, far_opens op h, far_const op h, far_acc op h, far_rest op h]; rfl

/-! ### What the rows of shape add up to -/
def shapeL : List (Int × Nat × Int × Int) :=
  [(69, 1, 127, 127), (70, 2, 127, 127), (80, 1, 126, 127), (81, 2, 126, 127), (97, 2, 124, 127), (103, 1, 127, 127), (106, 2, 127, 127), (121, 1, 126, 126), (124, 2, 126, 126), (153, 1, 124, 124), (160, 2, 124, 124),
   (167, 1, 126, 127), (170, 1, 124, 127), (172, 1, 127, 126), (176, 1, 124, 126), (183, 1, 127, 124), (185, 1, 126, 124), (189, 1, 124, 126), (191, 1, 126, 124), (192, 1, 127, 127), (194, 1, 126, 126), (64514, 1, 124, 127), (64518, 1, 124, 126)]
def shapeTo (op : Int) : Nat → Nat × Int × Int
  | 0 => (0, 0, 0)
  | k + 1 => if (shapeL.getD k (0, 0, 0, 0)).1 ≤ op then (shapeL.getD k (0, 0, 0, 0)).2 else shapeTo op k
theorem shape_yes (op : Int) (k : Nat) (h : (shapeL.getD k (0, 0, 0, 0)).1 ≤ op) : shapeTo op (k + 1) = (shapeL.getD k (0, 0, 0, 0)).2 := by
  show (if _ then _ else _) = _; rw [if_pos h]
theorem shape_no (op : Int) (k : Nat) (h : ¬ (shapeL.getD k (0, 0, 0, 0)).1 ≤ op) : shapeTo op (k + 1) = shapeTo op k := by
  show (if _ then _ else _) = _; rw [if_neg h]
theorem shape_sig (op : Int) : numB op = true → shapeTo op 23 = sigB op :=
  by_cases3 (fun op => numB op = true → shapeTo op 23 = sigB op) (by decide +kernel) (by decide +kernel) (fun op h e => by rw [far_num op h] at e; cases e) op
theorem sig_count (op : Int) : numB op = true → (sigB op).1 = 1 ∨ (sigB op).1 = 2 :=
  by_cases3 (fun op => numB op = true → (sigB op).1 = 1 ∨ (sigB op).1 = 2) (by decide +kernel) (by decide +kernel) (fun op h e => by rw [far_num op h] at e; cases e) op

/-! ### What the statements ask -/
theorem rich_known (op : Int) : richB op = true → knownB op = true :=
  by_cases3 (fun op => richB op = true → knownB op = true) (by decide +kernel) (by decide +kernel) (fun op h e => by rw [far_rich op h] at e; cases e) op
theorem num_rich (op : Int) : numB op = true → richB op = decide (192 ≤ op ∧ op ≤ 196 ∨ 64512 ≤ op) :=
  by_cases3 (fun op => numB op = true → richB op = decide (192 ≤ op ∧ op ≤ 196 ∨ 64512 ≤ op)) (by decide +kernel) (by decide +kernel) (fun op h e => by rw [far_num op h] at e; cases e) op
/-- What the document's Known comes to, as it is written. -/
def rknownB (op : Int) : Bool :=
  numB op || decide (0 < (accB op).1) || constB op != 0 || decide (0 ≤ op ∧ op ≤ 5 ∨ 11 ≤ op ∧ op ≤ 16 ∨ op = 18 ∨ op = 26 ∨ op = 27 ∨ 32 ≤ op ∧ op ≤ 36 ∨ op = 63 ∨ op = 64 ∨ 64520 ≤ op ∧ op ≤ 64523)
theorem rknown_eq (op : Int) : rknownB op = knownB op :=
  by_cases3 (fun op => rknownB op = knownB op) (by decide +kernel) (by decide +kernel)
    (fun op h => by rw [far_known op h]; unfold rknownB; rw [far_num op h, far_acc op h, far_const op h, decide_eq_false (by omega : ¬ (0 ≤ op ∧ op ≤ 5 ∨ 11 ≤ op ∧ op ≤ 16 ∨ op = 18 ∨ op = 26 ∨ op = 27 ∨ 32 ≤ op ∧ op ≤ 36 ∨ op = 63 ∨ op = 64 ∨ 64520 ≤ op ∧ op ≤ 64523))]; rfl) op
def rrichB (op : Int) : Bool := decide (op = 18 ∨ 192 ≤ op ∧ op ≤ 196 ∨ op = 64514 ∨ op = 64515 ∨ 64518 ≤ op ∧ op ≤ 64523)
theorem rrich_eq (op : Int) : rrichB op = richB op :=
  by_cases3 (fun op => rrichB op = richB op) (by decide +kernel) (by decide +kernel) (fun op h => by rw [far_rich op h]; exact decide_eq_false (by omega)) op
theorem acc_pos (op : Int) : (accB op).2.2.2 = decide (0 < (accB op).1) :=
  by_cases3 (fun op => (accB op).2.2.2 = decide (0 < (accB op).1)) (by decide +kernel) (by decide +kernel) (fun op h => by rw [far_acc op h]; rfl) op

/-! ### The known ones in their order -/
/-- The known ones among the first j numbers from a on. -/
def gather (a : Int) (j : Nat) : List Int := ((List.range j).map fun (i : Nat) => a + (i : Int)).filter knownB
theorem gather_zero (a : Int) : gather a 0 = [] := rfl
theorem gather_yes (a : Int) (j : Nat) (h : knownB (a + (j : Int)) = true) : gather a (j + 1) = gather a j ++ [a + (j : Int)] := by
  unfold gather; rw [List.range_succ, List.map_append, List.filter_append]; simp [h]
theorem gather_no (a : Int) (j : Nat) (h : knownB (a + (j : Int)) = false) : gather a (j + 1) = gather a j := by
  unfold gather; rw [List.range_succ, List.map_append, List.filter_append]; simp [h]
theorem gather_le (a : Int) (j : Nat) : (gather a j).length ≤ j := by
  unfold gather; refine Nat.le_trans (List.length_filter_le _ _) ?_; simp
/-- All known ones. -/
def allL : List Int :=
  [0, 1, 2, 3, 4, 5, 11, 12, 13, 14, 15, 16, 18, 26, 27, 32, 33, 34, 35, 36, 40, 41, 43, 44, 45, 46, 47, 48, 49, 50, 51, 52, 53, 54, 55, 57, 58, 59, 60, 61, 62, 63, 64, 65, 66, 68, 69, 70, 71, 72, 73, 74, 75, 76, 77, 78, 79, 80, 81, 82, 83, 84, 85, 86, 87, 88, 89, 90, 97, 98, 99, 100, 101, 102, 103, 104, 105, 106, 107, 108, 109, 110, 111, 112, 113, 114, 115, 116, 117, 118, 119, 120, 121, 122, 123, 124, 125, 126, 127, 128, 129, 130, 131, 132, 133, 134, 135, 136, 137, 138, 153, 154, 155, 156, 157, 158, 159, 160, 161, 162, 163, 164, 165, 166, 167, 170, 171, 172, 173, 176, 177, 183, 184, 185, 186, 189, 191, 192, 193, 194, 195, 196, 64514, 64515, 64518, 64519, 64520, 64521, 64522, 64523]
set_option maxRecDepth 100000 in
theorem all_own : gather 0 256 ++ gather 64512 256 = allL := by decide +kernel
set_option maxRecDepth 100000 in
theorem all_other : gather (-3) 275 ++ gather 64512 32 = allL := by decide +kernel
set_option maxRecDepth 100000 in
theorem all_length : allL.length = 150 := by decide +kernel
theorem all_rises : ∀ i : Fin 149, allL.getD i.val 0 < allL.getD (i.val + 1) 0 := by decide +kernel
theorem all_known : ∀ i : Fin 150, knownB (allL.getD i.val 0) = true := by decide +kernel
/-- How many of the four kinds a number is of. -/
def kinds (op : Int) : Nat := (if numB op then 1 else 0) + (if (accB op).2.2.2 then 1 else 0) + (if constB op != 0 then 1 else 0) + (if opensB op then 1 else 0)
theorem all_kinds : ∀ i : Fin 150, kinds (allL.getD i.val 0) ≤ 1 := by decide +kernel
end Go.Proofs.Ytmcogjfiocfmnaa
