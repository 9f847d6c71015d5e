/-
  Contracts of fieldsOf, Inst.
  Contracts of module's loops over lists of structs.
  Contracts of module's rightExports, fits, Right.
  Stage 6's known: module's functions at two literal modules.
  Contract of stage 6's known.
  Contracts of slices.Grow, slices.Concat, module's Locals.
  A region that draws its order, in the class of the worlds with more blocks: by the text's order.
-/
import Derived.Test.YtinljaobdnkifaaDoorRval
import Derived.Test.YtinljaobdnkifaaDoorOkn
import Derived.Test.YtinljaobdnkifaaDoorRsg
import Derived.Lib.AppendZerosOnto
import Derived.Test.YtinljaobdnkifaaDoorBase
import Derived.Deep.Quiet
import Derived.Deep.QuietTactic
namespace Go.Proofs.YtinljaobdnkifaaDoor
open Go.RowKit

def FldPost (f : Int × Int × Int × Int × Int × Int) (w : World) (e : Ending) (w' : World) : Prop := e = .returned (.agg #[.int .i64 f.1, .int .i64 f.2.1, .int .i64 f.2.2.1, .int .u64 f.2.2.2.1, .int .i64 f.2.2.2.2.1, .int .i64 f.2.2.2.2.2]) ∧ Below w.heap.size w w'
/-- A result's variable of six cells, zeroed; filled. -/
def Zero6 (B : Nat) (w : World) : Prop := w.heap[B]? = some (.cells #[.int .i64 0, .int .i64 0, .int .i64 0, .int .u64 0, .int .i64 0, .int .i64 0] 93 (0, 0))
theorem Zero6.all {B : Nat} {w : World} (h : Zero6 B w) : w.cell? ⟨B, 0, none⟩ = some (.int .i64 0) ∧ w.cell? ⟨B, 1, none⟩ = some (.int .i64 0) ∧ w.cell? ⟨B, 2, none⟩ = some (.int .i64 0) ∧ w.cell? ⟨B, 3, none⟩ = some (.int .u64 0) ∧ w.cell? ⟨B, 4, none⟩ = some (.int .i64 0) ∧ w.cell? ⟨B, 5, none⟩ = some (.int .i64 0) ∧
    w.frozen? ⟨B, 0, none⟩ = false ∧ w.frozen? ⟨B, 1, none⟩ = false ∧ w.frozen? ⟨B, 2, none⟩ = false ∧ w.frozen? ⟨B, 3, none⟩ = false ∧ w.frozen? ⟨B, 4, none⟩ = false ∧ w.frozen? ⟨B, 5, none⟩ = false := by
  unfold Zero6 at h
  simp [World.cell?, World.frozen?, h]
theorem Zero6.fill {B : Nat} {w : World} (h : Zero6 B w) (a b c d e f : Value) : ((((((w.setCell ⟨B, 0, none⟩ a).setCell ⟨B, 1, none⟩ b).setCell ⟨B, 2, none⟩ c).setCell ⟨B, 3, none⟩ d).setCell ⟨B, 4, none⟩ e).setCell ⟨B, 5, none⟩ f).heap[B]? = some (.cells #[a, b, c, d, e, f] 93 (0, 0)) := by
  have h0 := heap_setCell_at w B 0 _ _ a h
  have h1 := heap_setCell_at _ B 1 _ _ b h0
  have h2 := heap_setCell_at _ B 2 _ _ c h1
  have h3 := heap_setCell_at _ B 3 _ _ d h2
  have h4 := heap_setCell_at _ B 4 _ _ e h3
  have h5 := heap_setCell_at _ B 5 _ _ f h4
  simpa using h5
theorem below_fill6 {w0 w : World} {B : Nat} {a b c d e f : Value} (h : Below w0.heap.size w0 w) (hB : w0.heap.size ≤ B) : Below w0.heap.size w0 ((((((w.setCell ⟨B, 0, none⟩ a).setCell ⟨B, 1, none⟩ b).setCell ⟨B, 2, none⟩ c).setCell ⟨B, 3, none⟩ d).setCell ⟨B, 4, none⟩ e).setCell ⟨B, 5, none⟩ f) :=
  (((((h.setCell (by exact hB) _).setCell (by exact hB) _).setCell (by exact hB) _).setCell (by exact hB) _).setCell (by exact hB) _).setCell (by exact hB) _
theorem fields_2 (w : World) : Calls Tryd.prog 40 #[.int .i64 2] w (FldPost (fieldsB 2) w) := by
  rw [show fieldsB 2 = (-4, 63, 0, 0, 0, 0) by decide +kernel]
  go_enter Tryd.func40, Tryd.ntmps40
  go_wp2
  exact bodyPost_ret (v := .agg #[.int .i64 (-4), .int .i64 63, .int .i64 0, .int .u64 0, .int .i64 0, .int .i64 0]) (by simp [results, Tryd.results40, go_sem]) rfl ⟨rfl, below_new (Below.refl _ _) _⟩
theorem fields_3 (w : World) : Calls Tryd.prog 40 #[.int .i64 3] w (FldPost (fieldsB 3) w) := by
  rw [show fieldsB 3 = (-4, 63, 0, 0, 0, 0) by decide +kernel]
  go_enter Tryd.func40, Tryd.ntmps40
  go_wp2
  exact bodyPost_ret (v := .agg #[.int .i64 (-4), .int .i64 63, .int .i64 0, .int .u64 0, .int .i64 0, .int .i64 0]) (by simp [results, Tryd.results40, go_sem]) rfl ⟨rfl, below_new (Below.refl _ _) _⟩
theorem fields_4 (w : World) : Calls Tryd.prog 40 #[.int .i64 4] w (FldPost (fieldsB 4) w) := by
  rw [show fieldsB 4 = (-4, 63, 0, 0, 0, 0) by decide +kernel]
  go_enter Tryd.func40, Tryd.ntmps40
  go_wp2
  exact bodyPost_ret (v := .agg #[.int .i64 (-4), .int .i64 63, .int .i64 0, .int .u64 0, .int .i64 0, .int .i64 0]) (by simp [results, Tryd.results40, go_sem]) rfl ⟨rfl, below_new (Below.refl _ _) _⟩
theorem fields_12 (w : World) : Calls Tryd.prog 40 #[.int .i64 12] w (FldPost (fieldsB 12) w) := by
  rw [show fieldsB 12 = (0, 64, 0, 0, 0, 0) by decide +kernel]
  go_enter Tryd.func40, Tryd.ntmps40
  go_wp2
  exact bodyPost_ret (v := .agg #[.int .i64 (0), .int .i64 64, .int .i64 0, .int .u64 0, .int .i64 0, .int .i64 0]) (by simp [results, Tryd.results40, go_sem]) rfl ⟨rfl, below_new (Below.refl _ _) _⟩
theorem fields_13 (w : World) : Calls Tryd.prog 40 #[.int .i64 13] w (FldPost (fieldsB 13) w) := by
  rw [show fieldsB 13 = (0, 64, 0, 0, 0, 0) by decide +kernel]
  go_enter Tryd.func40, Tryd.ntmps40
  go_wp2
  exact bodyPost_ret (v := .agg #[.int .i64 (0), .int .i64 64, .int .i64 0, .int .u64 0, .int .i64 0, .int .i64 0]) (by simp [results, Tryd.results40, go_sem]) rfl ⟨rfl, below_new (Below.refl _ _) _⟩
theorem fields_14 (w : World) : Calls Tryd.prog 40 #[.int .i64 14] w (FldPost (fieldsB 14) w) := by
  rw [show fieldsB 14 = (0, 0, 0, 0, 1, 17) by decide +kernel]
  go_enter Tryd.func40, Tryd.ntmps40
  go_wp2
  exact bodyPost_ret (v := .agg #[.int .i64 (0), .int .i64 0, .int .i64 0, .int .u64 0, .int .i64 1, .int .i64 17]) (by simp [results, Tryd.results40, go_sem]) rfl ⟨rfl, below_new (Below.refl _ _) _⟩
theorem fields_16 (w : World) : Calls Tryd.prog 40 #[.int .i64 16] w (FldPost (fieldsB 16) w) := by
  rw [show fieldsB 16 = (0, 255, 0, 0, 0, 0) by decide +kernel]
  go_enter Tryd.func40, Tryd.ntmps40
  go_wp2
  exact bodyPost_ret (v := .agg #[.int .i64 (0), .int .i64 255, .int .i64 0, .int .u64 0, .int .i64 0, .int .i64 0]) (by simp [results, Tryd.results40, go_sem]) rfl ⟨rfl, below_new (Below.refl _ _) _⟩
theorem fields_18 (w : World) : Calls Tryd.prog 40 #[.int .i64 18] w (FldPost (fieldsB 18) w) := by
  rw [show fieldsB 18 = (0, 255, 0, 0, 0, 0) by decide +kernel]
  go_enter Tryd.func40, Tryd.ntmps40
  go_wp2
  exact bodyPost_ret (v := .agg #[.int .i64 (0), .int .i64 255, .int .i64 0, .int .u64 0, .int .i64 0, .int .i64 0]) (by simp [results, Tryd.results40, go_sem]) rfl ⟨rfl, below_new (Below.refl _ _) _⟩
theorem fields_32 (w : World) : Calls Tryd.prog 40 #[.int .i64 32] w (FldPost (fieldsB 32) w) := by
  rw [show fieldsB 32 = (0, 255, 0, 0, 0, 0) by decide +kernel]
  go_enter Tryd.func40, Tryd.ntmps40
  go_wp2
  exact bodyPost_ret (v := .agg #[.int .i64 (0), .int .i64 255, .int .i64 0, .int .u64 0, .int .i64 0, .int .i64 0]) (by simp [results, Tryd.results40, go_sem]) rfl ⟨rfl, below_new (Below.refl _ _) _⟩
theorem fields_33 (w : World) : Calls Tryd.prog 40 #[.int .i64 33] w (FldPost (fieldsB 33) w) := by
  rw [show fieldsB 33 = (0, 255, 0, 0, 0, 0) by decide +kernel]
  go_enter Tryd.func40, Tryd.ntmps40
  go_wp2
  exact bodyPost_ret (v := .agg #[.int .i64 (0), .int .i64 255, .int .i64 0, .int .u64 0, .int .i64 0, .int .i64 0]) (by simp [results, Tryd.results40, go_sem]) rfl ⟨rfl, below_new (Below.refl _ _) _⟩
theorem fields_34 (w : World) : Calls Tryd.prog 40 #[.int .i64 34] w (FldPost (fieldsB 34) w) := by
  rw [show fieldsB 34 = (0, 255, 0, 0, 0, 0) by decide +kernel]
  go_enter Tryd.func40, Tryd.ntmps40
  go_wp2
  exact bodyPost_ret (v := .agg #[.int .i64 (0), .int .i64 255, .int .i64 0, .int .u64 0, .int .i64 0, .int .i64 0]) (by simp [results, Tryd.results40, go_sem]) rfl ⟨rfl, below_new (Below.refl _ _) _⟩
theorem fields_35 (w : World) : Calls Tryd.prog 40 #[.int .i64 35] w (FldPost (fieldsB 35) w) := by
  rw [show fieldsB 35 = (0, 255, 0, 0, 0, 0) by decide +kernel]
  go_enter Tryd.func40, Tryd.ntmps40
  go_wp2
  exact bodyPost_ret (v := .agg #[.int .i64 (0), .int .i64 255, .int .i64 0, .int .u64 0, .int .i64 0, .int .i64 0]) (by simp [results, Tryd.results40, go_sem]) rfl ⟨rfl, below_new (Below.refl _ _) _⟩
theorem fields_36 (w : World) : Calls Tryd.prog 40 #[.int .i64 36] w (FldPost (fieldsB 36) w) := by
  rw [show fieldsB 36 = (0, 255, 0, 0, 0, 0) by decide +kernel]
  go_enter Tryd.func40, Tryd.ntmps40
  go_wp2
  exact bodyPost_ret (v := .agg #[.int .i64 (0), .int .i64 255, .int .i64 0, .int .u64 0, .int .i64 0, .int .i64 0]) (by simp [results, Tryd.results40, go_sem]) rfl ⟨rfl, below_new (Below.refl _ _) _⟩
theorem fields_63 (w : World) : Calls Tryd.prog 40 #[.int .i64 63] w (FldPost (fieldsB 63) w) := by
  rw [show fieldsB 63 = (0, 3, 0, 0, 0, 0) by decide +kernel]
  go_enter Tryd.func40, Tryd.ntmps40
  go_wp2
  exact bodyPost_ret (v := .agg #[.int .i64 (0), .int .i64 3, .int .i64 0, .int .u64 0, .int .i64 0, .int .i64 0]) (by simp [results, Tryd.results40, go_sem]) rfl ⟨rfl, below_new (Below.refl _ _) _⟩
theorem fields_64 (w : World) : Calls Tryd.prog 40 #[.int .i64 64] w (FldPost (fieldsB 64) w) := by
  rw [show fieldsB 64 = (0, 3, 0, 0, 0, 0) by decide +kernel]
  go_enter Tryd.func40, Tryd.ntmps40
  go_wp2
  exact bodyPost_ret (v := .agg #[.int .i64 (0), .int .i64 3, .int .i64 0, .int .u64 0, .int .i64 0, .int .i64 0]) (by simp [results, Tryd.results40, go_sem]) rfl ⟨rfl, below_new (Below.refl _ _) _⟩
theorem fields_64523 (w : World) : Calls Tryd.prog 40 #[.int .i64 64523] w (FldPost (fieldsB 64523) w) := by
  rw [show fieldsB 64523 = (0, 3, 0, 0, 0, 0) by decide +kernel]
  go_enter Tryd.func40, Tryd.ntmps40
  go_wp2
  exact bodyPost_ret (v := .agg #[.int .i64 (0), .int .i64 3, .int .i64 0, .int .u64 0, .int .i64 0, .int .i64 0]) (by simp [results, Tryd.results40, go_sem]) rfl ⟨rfl, below_new (Below.refl _ _) _⟩
theorem fields_64520 (w : World) : Calls Tryd.prog 40 #[.int .i64 64520] w (FldPost (fieldsB 64520) w) := by
  rw [show fieldsB 64520 = (0, 3, 15, 0, 0, 0) by decide +kernel]
  go_enter Tryd.func40, Tryd.ntmps40
  go_wp2
  exact bodyPost_ret (v := .agg #[.int .i64 (0), .int .i64 3, .int .i64 15, .int .u64 0, .int .i64 0, .int .i64 0]) (by simp [results, Tryd.results40, go_sem]) rfl ⟨rfl, below_new (Below.refl _ _) _⟩
theorem fields_64521 (w : World) : Calls Tryd.prog 40 #[.int .i64 64521] w (FldPost (fieldsB 64521) w) := by
  rw [show fieldsB 64521 = (0, 15, 0, 0, 0, 0) by decide +kernel]
  go_enter Tryd.func40, Tryd.ntmps40
  go_wp2
  exact bodyPost_ret (v := .agg #[.int .i64 (0), .int .i64 15, .int .i64 0, .int .u64 0, .int .i64 0, .int .i64 0]) (by simp [results, Tryd.results40, go_sem]) rfl ⟨rfl, below_new (Below.refl _ _) _⟩
theorem fields_64522 (w : World) : Calls Tryd.prog 40 #[.int .i64 64522] w (FldPost (fieldsB 64522) w) := by
  rw [show fieldsB 64522 = (0, 3, 3, 0, 0, 0) by decide +kernel]
  go_enter Tryd.func40, Tryd.ntmps40
  go_wp2
  exact bodyPost_ret (v := .agg #[.int .i64 (0), .int .i64 3, .int .i64 3, .int .u64 0, .int .i64 0, .int .i64 0]) (by simp [results, Tryd.results40, go_sem]) rfl ⟨rfl, below_new (Below.refl _ _) _⟩
theorem fields_65 (w : World) : Calls Tryd.prog 40 #[.int .i64 65] w (FldPost (fieldsB 65) w) := by
  rw [show fieldsB 65 = (0, 0, 0, 4294967295, 0, 0) by decide +kernel]
  go_enter Tryd.func40, Tryd.ntmps40
  go_wp2
  exact bodyPost_ret (v := .agg #[.int .i64 (0), .int .i64 0, .int .i64 0, .int .u64 4294967295, .int .i64 0, .int .i64 0]) (by simp [results, Tryd.results40, go_sem]) rfl ⟨rfl, below_new (Below.refl _ _) _⟩
theorem fields_66 (w : World) : Calls Tryd.prog 40 #[.int .i64 66] w (FldPost (fieldsB 66) w) := by
  rw [show fieldsB 66 = (0, 0, 0, 18446744073709551615, 0, 0) by decide +kernel]
  go_enter Tryd.func40, Tryd.ntmps40
  go_wp2
  exact bodyPost_ret (v := .agg #[.int .i64 (0), .int .i64 0, .int .i64 0, .int .u64 18446744073709551615, .int .i64 0, .int .i64 0]) (by simp [results, Tryd.results40, go_sem]) rfl ⟨rfl, below_new (Below.refl _ _) _⟩
theorem fields_68 (w : World) : Calls Tryd.prog 40 #[.int .i64 68] w (FldPost (fieldsB 68) w) := by
  rw [show fieldsB 68 = (0, 0, 0, 18446744073709551615, 0, 0) by decide +kernel]
  go_enter Tryd.func40, Tryd.ntmps40
  go_wp2
  exact bodyPost_ret (v := .agg #[.int .i64 (0), .int .i64 0, .int .i64 0, .int .u64 18446744073709551615, .int .i64 0, .int .i64 0]) (by simp [results, Tryd.results40, go_sem]) rfl ⟨rfl, below_new (Below.refl _ _) _⟩
theorem fields_rest (op : Int) (h : op ≠ 2 ∧ op ≠ 3 ∧ op ≠ 4 ∧ op ≠ 12 ∧ op ≠ 13 ∧ op ≠ 14 ∧ op ≠ 16 ∧ op ≠ 18 ∧ op ≠ 32 ∧ op ≠ 33 ∧ op ≠ 34 ∧ op ≠ 35 ∧ op ≠ 36 ∧ op ≠ 63 ∧ op ≠ 64 ∧ op ≠ 64523 ∧ op ≠ 64520 ∧ op ≠ 64521 ∧ op ≠ 64522 ∧ op ≠ 65 ∧ op ≠ 66 ∧ op ≠ 68) : fieldsB op = if (accB op).2.2.2 then (0, 3, 0, 4294967295, 0, 0) else (0, 0, 0, 0, 0, 0) := by
  unfold fieldsB
  repeat rw [if_neg (by omega)]
set_option maxHeartbeats 2000000 in
theorem fields_any (op : Int) (w : World) : Calls Tryd.prog 40 #[.int .i64 op] w (FldPost (fieldsB op) w) := by
  by_cases c2 : op = 2
  · rw [c2]; exact fields_2 w
  by_cases c3 : op = 3
  · rw [c3]; exact fields_3 w
  by_cases c4 : op = 4
  · rw [c4]; exact fields_4 w
  by_cases c12 : op = 12
  · rw [c12]; exact fields_12 w
  by_cases c13 : op = 13
  · rw [c13]; exact fields_13 w
  by_cases c14 : op = 14
  · rw [c14]; exact fields_14 w
  by_cases c16 : op = 16
  · rw [c16]; exact fields_16 w
  by_cases c18 : op = 18
  · rw [c18]; exact fields_18 w
  by_cases c32 : op = 32
  · rw [c32]; exact fields_32 w
  by_cases c33 : op = 33
  · rw [c33]; exact fields_33 w
  by_cases c34 : op = 34
  · rw [c34]; exact fields_34 w
  by_cases c35 : op = 35
  · rw [c35]; exact fields_35 w
  by_cases c36 : op = 36
  · rw [c36]; exact fields_36 w
  by_cases c63 : op = 63
  · rw [c63]; exact fields_63 w
  by_cases c64 : op = 64
  · rw [c64]; exact fields_64 w
  by_cases c64523 : op = 64523
  · rw [c64523]; exact fields_64523 w
  by_cases c64520 : op = 64520
  · rw [c64520]; exact fields_64520 w
  by_cases c64521 : op = 64521
  · rw [c64521]; exact fields_64521 w
  by_cases c64522 : op = 64522
  · rw [c64522]; exact fields_64522 w
  by_cases c65 : op = 65
  · rw [c65]; exact fields_65 w
  by_cases c66 : op = 66
  · rw [c66]; exact fields_66 w
  by_cases c68 : op = 68
  · rw [c68]; exact fields_68 w
  rw [fields_rest op ⟨c2, c3, c4, c12, c13, c14, c16, c18, c32, c33, c34, c35, c36, c63, c64, c64523, c64520, c64521, c64522, c65, c66, c68⟩]
  have HA := Lib.hid (fun w => access_any op w)
  have d2 : (op == 2) = false := by simpa using c2
  have d3 : (op == 3) = false := by simpa using c3
  have d4 : (op == 4) = false := by simpa using c4
  have d12 : (op == 12) = false := by simpa using c12
  have d13 : (op == 13) = false := by simpa using c13
  have d14 : (op == 14) = false := by simpa using c14
  have d16 : (op == 16) = false := by simpa using c16
  have d18 : (op == 18) = false := by simpa using c18
  have d32 : (op == 32) = false := by simpa using c32
  have d33 : (op == 33) = false := by simpa using c33
  have d34 : (op == 34) = false := by simpa using c34
  have d35 : (op == 35) = false := by simpa using c35
  have d36 : (op == 36) = false := by simpa using c36
  have d63 : (op == 63) = false := by simpa using c63
  have d64 : (op == 64) = false := by simpa using c64
  have d64523 : (op == 64523) = false := by simpa using c64523
  have d64520 : (op == 64520) = false := by simpa using c64520
  have d64521 : (op == 64521) = false := by simpa using c64521
  have d64522 : (op == 64522) = false := by simpa using c64522
  have d65 : (op == 65) = false := by simpa using c65
  have d66 : (op == 66) = false := by simpa using c66
  have d68 : (op == 68) = false := by simpa using c68
  clear c2 c3 c4 c12 c13 c14 c16 c18 c32 c33 c34 c35 c36 c63 c64 c64523 c64520 c64521 c64522 c65 c66 c68
  generalize accB op = ac at HA ⊢
  obtain ⟨a1, a2, a3, a4⟩ := ac
  unfold AccPost at HA
  simp only at HA ⊢
  cases a4 with
  | true =>
    rw [if_pos (by rfl)]
    have hb0 : ∀ w', Below (w.alloc (.cells #[.int .i64 0, .int .i64 0, .int .i64 0, .int .u64 0, .int .i64 0, .int .i64 0] 93)).heap.size (w.alloc (.cells #[.int .i64 0, .int .i64 0, .int .i64 0, .int .u64 0, .int .i64 0, .int .i64 0] 93)) w' → Zero6 w.heap.size w' := fun w' hb => (hb.block w.heap.size (by simp)).trans (by simp [World.alloc, -World.alloc_eq])
    have HZ := Lib.hid hb0
    clear hb0
    go_enter Tryd.func40, Tryd.ntmps40
    go_wp2_with (go_at_call 72; refine (HA.out _).mono ?_; rintro e w' ⟨rfl, hb⟩; obtain ⟨z0, z1, z2, z3, z4, z5, y0, y1, y2, y3, y4, y5⟩ := (HZ.out w' hb).all; have HB := Lib.hid (below_then (below_new (Below.refl w.heap.size w) _) hb); have HF := Lib.hid ((HZ.out w' hb).fill (.int .i64 0) (.int .i64 3) (.int .i64 0) (.int .u64 4294967295) (.int .i64 0) (.int .i64 0)); clear hb)
    have hfl := HF.out
    exact bodyPost_ret (v := .agg #[.int .i64 0, .int .i64 3, .int .i64 0, .int .u64 4294967295, .int .i64 0, .int .i64 0]) (by simp [results, Tryd.results40, go_sem, World.cell?, hfl]) rfl ⟨rfl, below_fill6 HB.out (Nat.le_refl _)⟩
  | false =>
    rw [if_neg (by simp)]
    have hb0 : ∀ w', Below (w.alloc (.cells #[.int .i64 0, .int .i64 0, .int .i64 0, .int .u64 0, .int .i64 0, .int .i64 0] 93)).heap.size (w.alloc (.cells #[.int .i64 0, .int .i64 0, .int .i64 0, .int .u64 0, .int .i64 0, .int .i64 0] 93)) w' → Zero6 w.heap.size w' := fun w' hb => (hb.block w.heap.size (by simp)).trans (by simp [World.alloc, -World.alloc_eq])
    have HZ := Lib.hid hb0
    clear hb0
    go_enter Tryd.func40, Tryd.ntmps40
    go_wp2_with (go_at_call 72; refine (HA.out _).mono ?_; rintro e w' ⟨rfl, hb⟩; obtain ⟨z0, z1, z2, z3, z4, z5, y0, y1, y2, y3, y4, y5⟩ := (HZ.out w' hb).all; have HB := Lib.hid (below_then (below_new (Below.refl w.heap.size w) _) hb); have HF := Lib.hid ((HZ.out w' hb).fill (.int .i64 0) (.int .i64 0) (.int .i64 0) (.int .u64 0) (.int .i64 0) (.int .i64 0)); clear hb)
    have hfl := HF.out
    exact bodyPost_ret (v := .agg #[.int .i64 0, .int .i64 0, .int .i64 0, .int .u64 0, .int .i64 0, .int .i64 0]) (by simp [results, Tryd.results40, go_sem, World.cell?, hfl]) rfl ⟨rfl, below_fill6 HB.out (Nat.le_refl _)⟩

/-! ### Inst -/
theorem inst_not (x : Ins) (h : knownB x.op = false) : instB x = false := by unfold instB; rw [h]; rfl
theorem inst_is (x : Ins) (h : knownB x.op = true) : instB x = (inB x.a (fieldsB x.op).1 (fieldsB x.op).2.1 && inB x.b 0 (fieldsB x.op).2.2.1 && decide (x.n ≤ (fieldsB x.op).2.2.2.1) && inB (x.l.length : Int) (fieldsB x.op).2.2.2.2.1 (fieldsB x.op).2.2.2.2.2 && x.l.all labB) := by unfold instB; rw [h, Bool.true_and]
set_option maxRecDepth 100000 in
set_option maxHeartbeats 2000000 in
theorem inst_any (K : Nat → Prop) (w : World) (hK : ∀ k, K k → k < w.heap.size) (x : Ins) (Lv : Value) (hL : IntsK K w Lv x.l) : Calls Tryd.prog 22 #[.agg #[.int .i64 x.op, .int .i64 x.a, .int .i64 x.b, .int .u64 x.n, Lv]] w (BoolPost (instB x) w) := by
  obtain ⟨A, c, hv, hm, _⟩ := hL.form
  unfold maxLen at hm
  have HL := Lib.hid (fun wz (hb : Below w.heap.size w wz) => labs_any (fun k => k < wz.heap.size) wz (fun k hk => hk) Lv x.l (hL.keep (Keeps.below hb hK) fun k hk => Nat.lt_of_lt_of_le (hK k hk) hb.size))
  rw [hv] at HL ⊢
  clear hL hv
  have HKN := Lib.hid (fun wz => known_any x.op wz)
  have HFD := Lib.hid (fun wz => fields_any x.op wz)
  have HIS := Lib.hid (inst_is x)
  have HNT := Lib.hid (inst_not x)
  obtain ⟨op, a, b, n, l⟩ := x
  simp only at HL HKN HFD HIS HNT hm ⊢
  obtain ⟨kb, hkb⟩ : ∃ b, knownB op = b := ⟨_, rfl⟩
  rw [hkb] at HKN HIS HNT
  generalize instB ⟨op, a, b, n, l⟩ = R at HIS HNT ⊢
  generalize fieldsB op = f at HFD HIS
  obtain ⟨f1, f2, f3, f4, f5, f6⟩ := f
  unfold FldPost at HFD
  simp only at HFD HIS
  generalize l.all labB = b5 at HL HIS
  generalize l.length = nl at HL HIS hm ⊢
  have H1 := Lib.hid (fun wz => inB_pure a f1 f2 wz)
  have H2 := Lib.hid (fun wz => inB_pure b 0 f3 wz)
  have H4 := Lib.hid (fun wz => inB_pure (nl : Int) f5 f6 wz)
  generalize inB a f1 f2 = b1 at H1 HIS
  generalize inB b 0 f3 = b2 at H2 HIS
  generalize inB (nl : Int) f5 f6 = b4 at H4 HIS
  obtain ⟨b3, hb3⟩ : ∃ b, decide (n ≤ f4) = b := ⟨_, rfl⟩
  rw [hb3] at HIS
  clear hkb
  have HB1 := Lib.hid ((Below.refl w.heap.size w).alloc (Nat.le_refl _) (.cells #[.int .i64 op, .int .i64 a, .int .i64 b, .int .u64 n, .slice A nl c] 71))
  have HC : Hid (∀ wz, Below (w.alloc (.cells #[.int .i64 op, .int .i64 a, .int .i64 b, .int .u64 n, .slice A nl c] 71)).heap.size (w.alloc (.cells #[.int .i64 op, .int .i64 a, .int .i64 b, .int .u64 n, .slice A nl c] 71)) wz → wz.cell? ⟨w.heap.size, 0, none⟩ = some (.int .i64 op) ∧ wz.cell? ⟨w.heap.size, 1, none⟩ = some (.int .i64 a) ∧ wz.cell? ⟨w.heap.size, 2, none⟩ = some (.int .i64 b) ∧ wz.cell? ⟨w.heap.size, 3, none⟩ = some (.int .u64 n) ∧ wz.cell? ⟨w.heap.size, 4, none⟩ = some (.slice A nl c)) := Lib.hid fun wz hb => by
    have h9 : ∀ i, wz.cell? ⟨w.heap.size, i, none⟩ = (#[.int .i64 op, .int .i64 a, .int .i64 b, .int .u64 n, .slice A nl c] : Array Value)[i]? := fun i => (hb.cell (p := ⟨w.heap.size, i, none⟩) (by simp)).trans (World.cell?_alloc_new w _ _ i)
    exact ⟨h9 0, h9 1, h9 2, h9 3, h9 4⟩
  go_enter Tryd.func22, Tryd.ntmps22
  go_wp2_with fail
  generalize w.alloc (.cells #[.int .i64 op, .int .i64 a, .int .i64 b, .int .u64 n, .slice A nl c] 71) = w1 at HB1 HC ⊢
  go_at_call 39
  refine (HKN.out w1).mono ?_
  rintro e w2 ⟨rfl, hb2⟩
  cases kb with
  | false =>
    have HR := Lib.hid (HNT.out rfl)
    have HB2 := Lib.hid (below_then HB1.out hb2)
    clear hb2 HNT HIS
    go_wp2
    go_ret
    exact ⟨ret_bool (by rw [HR.out]), HB2.out⟩
  | true =>
    have HR := Lib.hid (HIS.out rfl)
    have HB12 := Lib.hid hb2
    obtain ⟨k0, k1, k2, k3, k4⟩ := HC.out w2 hb2
    clear hb2 HNT HIS HKN
    go_wp2_with fail
    go_at_call 40
    refine (HFD.out w2).mono ?_
    rintro e w3 ⟨rfl, hb3'⟩
    have HB13 := Lib.hid (below_then HB12.out hb3')
    clear hb3' HFD k0 k1 k2 k3 k4
    obtain ⟨k0, k1, k2, k3, k4⟩ := HC.out _ (below_new HB13.out (.cells #[.int .i64 f1, .int .i64 f2, .int .i64 f3, .int .u64 f4, .int .i64 f5, .int .i64 f6] 93))
    have HB4 := Lib.hid (below_then HB1.out (below_new HB13.out (.cells #[.int .i64 f1, .int .i64 f2, .int .i64 f3, .int .u64 f4, .int .i64 f5, .int .i64 f6] 93)))
    have HL4 := Lib.hid (HL.out _ HB4.out)
    have hN : ∀ i, (w3.alloc (.cells #[.int .i64 f1, .int .i64 f2, .int .i64 f3, .int .u64 f4, .int .i64 f5, .int .i64 f6] 93)).cell? ⟨w3.heap.size, i, none⟩ = (#[.int .i64 f1, .int .i64 f2, .int .i64 f3, .int .u64 f4, .int .i64 f5, .int .i64 f6] : Array Value)[i]? := fun i => World.cell?_alloc_new w3 _ _ i
    have m0 := hN 0
    have m1 := hN 1
    have m2 := hN 2
    have m3 := hN 3
    have m4 := hN 4
    have m5 := hN 5
    simp only [List.getElem?_toArray, List.getElem?_cons_zero, List.getElem?_cons_succ] at m0 m1 m2 m3 m4 m5
    clear hN HB13 HB12 HC HB1 HL
    go_upto_region 4 with (fail)
    generalize w3.heap.size = D at *
    generalize w3.alloc (.cells #[.int .i64 f1, .int .i64 f2, .int .i64 f3, .int .u64 f4, .int .i64 f5, .int .i64 f6] 93) = w4 at *
    cases b1 <;> cases b2 <;> cases b3 <;> cases b4
    all_goals
      go_wp2_with (first | (go_at_call 41; (with_reducible refine (H1.out _).mono ?_); rintro e w' ⟨rfl, rfl⟩) | (go_at_call 41; (with_reducible refine (H2.out _).mono ?_); rintro e w' ⟨rfl, rfl⟩) | (go_at_call 41; (with_reducible refine (H4.out _).mono ?_); rintro e w' ⟨rfl, rfl⟩) | (go_at_call 42; refine HL4.out.mono ?_; rintro e w5 ⟨rfl, hb5⟩; have HB5 := Lib.hid (below_then HB4.out hb5); clear hb5))
      go_ret
      first | exact ⟨ret_bool (by rw [HR.out]; rfl), HB4.out⟩ | exact ⟨ret_bool (by rw [HR.out]; simp), HB5.out⟩
end Go.Proofs.YtinljaobdnkifaaDoor
namespace Go.Proofs.YtinljaobdnkifaaDoor
open Go.RowKit

theorem glob_127 (x2 : Bool) (x3 : Int) : globB ⟨127, x2, x3⟩ = (kindB 127 && decide (x3 ≤ 4294967295)) := by
  have e : (!decide ((4294967295 : Int) < x3)) = decide (x3 ≤ 4294967295) := by
    rcases Int.lt_or_le 4294967295 x3 with hl | hl
    · rw [decide_eq_true hl, decide_eq_false (Int.not_le.mpr hl)]
      rfl
    · rw [decide_eq_false (Int.not_lt.mpr hl), decide_eq_true hl]
      rfl
  rw [← e]
  unfold globB
  simp

set_option maxRecDepth 100000 in
set_option maxHeartbeats 4000000 in
theorem rtypes_any (K : Nat → Prop) (w : World) (hK : ∀ k, K k → k < w.heap.size) (v : Value) (l : List (List Int × List Int)) (h : TypesK K w v l) : Calls Tryd.prog 31 #[v] w (BoolPost (l.all typB) w) := by
  obtain ⟨A, c, hv, hnc, hcm⟩ := CellsK.form h
  have H := Lib.hid (TypesK.keep (K' := fun k => k < w.heap.size) h (.refl _ _) hK)
  rw [hv] at H ⊢
  clear h hv
  unfold maxLen at hcm
  obtain ⟨n, hn⟩ : ∃ n, l.length = n := ⟨_, rfl⟩
  have HN := Lib.hid hn
  rw [hn] at H hnc ⊢
  clear hn
  go_enter Tryd.func31, Tryd.ntmps31
  go_wp2_with fail
  go_loopw [7] (fun i wr => ∃ k : Nat, k ≤ n ∧ i = .int .i64 (k : Int) ∧ Hid (Below w.heap.size w wr) ∧ Hid (AllTo typB l ([], []) k)) (fun i _ => n - (intOf i).toNat)
  case atStart => exact ⟨0, Nat.zero_le _, rfl, Lib.hid (Below.refl _ _), Lib.hid (AllTo.zero _ _ _)⟩
  case round =>
    obtain ⟨w0, rfl⟩ : ∃ w0, w0 = wr := ⟨_, rfl⟩
    obtain ⟨k, hk, rfl, HB, HA⟩ := hrel
    by_cases hlt : k < n
    · have hd : decide ((k : Int) < (n : Int)) = true := by simp; omega
      obtain ⟨g, o, c', he, _, _⟩ := CellsK.some_ H.out (by first | omega | (rw [HN.out]; omega))
      simp only [Value.slice.injEq] at he
      obtain ⟨rfl, -, rfl⟩ := he
      have hAT := TypesK.keep H.out (Keeps.below HB.out fun _ hk => hk) fun _ hk => Nat.lt_of_lt_of_le hk HB.out.size
      obtain ⟨u0, k0, h0⟩ := CellsK.at_ hAT k 0 (by first | exact hlt | (rw [HN.out]; exact hlt)) (by decide)
      obtain ⟨u1, k1, h1⟩ := CellsK.at_ hAT k 1 (by first | exact hlt | (rw [HN.out]; exact hlt)) (by decide)
      have HNO := Lib.hid (fun (h : typB (l.getD k ([], [])) = false) => all_no (by rw [HN.out]; exact hlt) h)
      have HYE := Lib.hid (fun (h : typB (l.getD k ([], [])) = true) => HA.out.succ h)
      clear hAT
      generalize l.getD k ([], []) = x at h0 h1 HNO HYE
      obtain ⟨x1, x2⟩ := x
      have h0 : IntsK (fun g => g < w0.heap.size) w0 u0 x1 := h0
      have h1 : IntsK (fun g => g < w0.heap.size) w0 u1 x2 := h1
      obtain ⟨P0, q0, rfl, _, _⟩ := h0.form
      obtain ⟨P1, q1, rfl, _, _⟩ := h1.form
      generalize hm0 : x1.length = m0 at *
      generalize hm1 : x2.length = m1 at *
      clear hm0 hm1
      rw [Nat.add_zero] at k0
      rw [show typB ⟨x1, x2⟩ = (kindsB x1 8 && kindsB x2 8) from rfl] at HNO HYE
      have C0 := Lib.hid (fun wz (hb : Below w0.heap.size w0 wz) => kinds_any (fun g => g < wz.heap.size) wz (fun _ hk => hk) _ x1 (h0.keep (Keeps.below hb fun _ hk => hk) fun _ hk => Nat.lt_of_lt_of_le hk hb.size) 8)
      generalize kindsB x1 8 = b0 at C0 HNO HYE
      have C1 := Lib.hid (fun wz (hb : Below w0.heap.size w0 wz) => kinds_any (fun g => g < wz.heap.size) wz (fun _ hk => hk) _ x2 (h1.keep (Keeps.below hb fun _ hk => hk) fun _ hk => Nat.lt_of_lt_of_le hk hb.size) 8)
      generalize kindsB x2 8 = b1 at C1 HNO HYE
      have hnx := below_new (Below.refl w0.heap.size w0) (.cells #[.slice P0 m0 q0, .slice P1 m1 q1] 35)
      have HC : Hid (∀ wz, Below (w0.alloc (.cells #[.slice P0 m0 q0, .slice P1 m1 q1] 35)).heap.size (w0.alloc (.cells #[.slice P0 m0 q0, .slice P1 m1 q1] 35)) wz → wz.cell? ⟨w0.heap.size, 0, none⟩ = some (.slice P0 m0 q0) ∧ wz.cell? ⟨w0.heap.size, 1, none⟩ = some (.slice P1 m1 q1)) := Lib.hid fun wz hb => by
        have h9 : ∀ i, wz.cell? ⟨w0.heap.size, i, none⟩ = (#[.slice P0 m0 q0, .slice P1 m1 q1] : Array Value)[i]? := fun i => (hb.cell (p := ⟨w0.heap.size, i, none⟩) (by simp)).trans (World.cell?_alloc_new w0 _ _ i)
        exact ⟨h9 0, h9 1⟩
      clear h0 h1
      cases b0 with
      | false =>
        have HF := Lib.hid (HNO.out (by rfl))
        clear HNO HYE
        go_wp2_with (go_at_call 63; (with_reducible refine (C0.out _ hnx).mono ?_); rintro e w0' ⟨rfl, hb0⟩; have hn0 := below_then hnx hb0; have hbb0 := hb0; obtain ⟨j00, j01⟩ := HC.out _ hbb0; clear hb0)
        go_ret
        exact ⟨ret_bool (by rw [HF.out]), below_then HB.out hn0⟩
      | true =>
        cases b1 with
        | false =>
          have HF := Lib.hid (HNO.out (by rfl))
          clear HNO HYE
          go_wp2_with (first | (go_at_call 63; (with_reducible refine (C0.out _ hnx).mono ?_); rintro e w0' ⟨rfl, hb0⟩; have hn0 := below_then hnx hb0; have hbb0 := hb0; obtain ⟨j00, j01⟩ := HC.out _ hbb0; clear hb0) | (go_at_call 63; (with_reducible refine (C1.out _ hn0).mono ?_); rintro e w1' ⟨rfl, hb1⟩; have hn1 := below_then hn0 hb1; have hbb1 := (below_then hbb0 hb1); obtain ⟨j10, j11⟩ := HC.out _ hbb1; clear hb1))
          go_ret
          exact ⟨ret_bool (by rw [HF.out]), below_then HB.out hn1⟩
        | true =>
          have HY := Lib.hid (HYE.out rfl)
          clear HNO HYE
          go_wp2_with (first | (go_at_call 63; (with_reducible refine (C0.out _ hnx).mono ?_); rintro e w0' ⟨rfl, hb0⟩; have hn0 := below_then hnx hb0; have hbb0 := hb0; obtain ⟨j00, j01⟩ := HC.out _ hbb0; clear hb0) | (go_at_call 63; (with_reducible refine (C1.out _ hn0).mono ?_); rintro e w1' ⟨rfl, hb1⟩; have hn1 := below_then hn0 hb1; have hbb1 := (below_then hbb0 hb1); obtain ⟨j10, j11⟩ := HC.out _ hbb1; clear hb1))
          go_roundw
          case rel => exact ⟨k + 1, by omega, by go_num, Lib.hid (below_then HB.out hn1), HY⟩
          case measure => simp [intOf]; omega
    · have hd : decide ((k : Int) < (n : Int)) = false := by simp; omega
      obtain rfl : k = n := by omega
      have HF := Lib.hid (show l.all typB = true by have h := HA.out; rw [← HN.out] at h; exact h.done)
      go_wp2
      go_ret
      exact ⟨ret_bool (by rw [HF.out]), HB.out⟩
set_option maxRecDepth 100000 in
set_option maxHeartbeats 4000000 in
theorem rimports_any (K : Nat → Prop) (w : World) (hK : ∀ k, K k → k < w.heap.size) (ht : Tab w) (v : Value) (l : List (ByteArray × ByteArray × Int)) (h : ImpsK K w v l) : Calls Tryd.prog 32 #[v] w (BoolPost (l.all impB) w) := by
  obtain ⟨A, c, hv, hnc, hcm⟩ := CellsK.form h
  have H := Lib.hid (CellsK.keep (K' := fun k => k < w.heap.size) h (.refl _ _) hK (fun _ _ _ h => h))
  rw [hv] at H ⊢
  clear h hv
  unfold maxLen at hcm
  obtain ⟨n, hn⟩ : ∃ n, l.length = n := ⟨_, rfl⟩
  have HN := Lib.hid hn
  rw [hn] at H hnc ⊢
  clear hn
  have HT := Lib.hid ht
  clear ht
  go_enter Tryd.func32, Tryd.ntmps32
  go_wp2_with fail
  go_loopw [7] (fun i wr => ∃ k : Nat, k ≤ n ∧ i = .int .i64 (k : Int) ∧ Hid (Below w.heap.size w wr) ∧ Hid (AllTo impB l (ByteArray.empty, ByteArray.empty, 0) k)) (fun i _ => n - (intOf i).toNat)
  case atStart => exact ⟨0, Nat.zero_le _, rfl, Lib.hid (Below.refl _ _), Lib.hid (AllTo.zero _ _ _)⟩
  case round =>
    obtain ⟨w0, rfl⟩ : ∃ w0, w0 = wr := ⟨_, rfl⟩
    obtain ⟨k, hk, rfl, HB, HA⟩ := hrel
    by_cases hlt : k < n
    · have hd : decide ((k : Int) < (n : Int)) = true := by simp; omega
      obtain ⟨g, o, c', he, _, _⟩ := CellsK.some_ H.out (by first | omega | (rw [HN.out]; omega))
      simp only [Value.slice.injEq] at he
      obtain ⟨rfl, -, rfl⟩ := he
      have hAT := CellsK.keep (K' := fun k => k < w0.heap.size) H.out (Keeps.below HB.out fun _ hk => hk) (fun _ hk => Nat.lt_of_lt_of_le hk HB.out.size) (fun _ _ _ h => h)
      obtain ⟨u0, k0, h0⟩ := CellsK.at_ hAT k 0 (by first | exact hlt | (rw [HN.out]; exact hlt)) (by decide)
      obtain ⟨u1, k1, h1⟩ := CellsK.at_ hAT k 1 (by first | exact hlt | (rw [HN.out]; exact hlt)) (by decide)
      obtain ⟨u2, k2, h2⟩ := CellsK.at_ hAT k 2 (by first | exact hlt | (rw [HN.out]; exact hlt)) (by decide)
      have HNO := Lib.hid (fun (h : impB (l.getD k (ByteArray.empty, ByteArray.empty, 0)) = false) => all_no (by rw [HN.out]; exact hlt) h)
      have HYE := Lib.hid (fun (h : impB (l.getD k (ByteArray.empty, ByteArray.empty, 0)) = true) => HA.out.succ h)
      clear hAT
      generalize l.getD k (ByteArray.empty, ByteArray.empty, 0) = x at h0 h1 h2 HNO HYE
      obtain ⟨x1, x2, x3⟩ := x
      obtain rfl : u0 = .string x1 := h0
      obtain rfl : u1 = .string x2 := h1
      obtain rfl : u2 = .int .i64 x3 := h2
      rw [Nat.add_zero] at k0
      rw [show impB ⟨x1, x2, x3⟩ = (strB x1 && strB x2 && idxB x3) from rfl] at HNO HYE
      have C0 := Lib.hid (fun wz (hb : Below w0.heap.size w0 wz) => str_any x1 wz (HT.out.below (below_then HB.out hb)))
      generalize strB x1 = b0 at C0 HNO HYE
      have C1 := Lib.hid (fun wz (hb : Below w0.heap.size w0 wz) => str_any x2 wz (HT.out.below (below_then HB.out hb)))
      generalize strB x2 = b1 at C1 HNO HYE
      have C2 := Lib.hid (fun wz (hb : Below w0.heap.size w0 wz) => idx_any x3 wz)
      generalize idxB x3 = b2 at C2 HNO HYE
      have hnx := below_new (Below.refl w0.heap.size w0) (.cells #[.string x1, .string x2, .int .i64 x3] 40)
      have HC : Hid (∀ wz, Below (w0.alloc (.cells #[.string x1, .string x2, .int .i64 x3] 40)).heap.size (w0.alloc (.cells #[.string x1, .string x2, .int .i64 x3] 40)) wz → wz.cell? ⟨w0.heap.size, 0, none⟩ = some (.string x1) ∧ wz.cell? ⟨w0.heap.size, 1, none⟩ = some (.string x2) ∧ wz.cell? ⟨w0.heap.size, 2, none⟩ = some (.int .i64 x3)) := Lib.hid fun wz hb => by
        have h9 : ∀ i, wz.cell? ⟨w0.heap.size, i, none⟩ = (#[.string x1, .string x2, .int .i64 x3] : Array Value)[i]? := fun i => (hb.cell (p := ⟨w0.heap.size, i, none⟩) (by simp)).trans (World.cell?_alloc_new w0 _ _ i)
        exact ⟨h9 0, h9 1, h9 2⟩
      cases b0 with
      | false =>
        have HF := Lib.hid (HNO.out (by rfl))
        clear HNO HYE
        go_wp2_with (go_at_call 64; (with_reducible refine (C0.out _ hnx).mono ?_); rintro e w0' ⟨rfl, hb0⟩; have hn0 := below_then hnx hb0; have hbb0 := hb0; obtain ⟨j00, j01, j02⟩ := HC.out _ hbb0; clear hb0)
        go_ret
        exact ⟨ret_bool (by rw [HF.out]), below_then HB.out hn0⟩
      | true =>
        cases b1 with
        | false =>
          have HF := Lib.hid (HNO.out (by rfl))
          clear HNO HYE
          go_wp2_with (first | (go_at_call 64; (with_reducible refine (C0.out _ hnx).mono ?_); rintro e w0' ⟨rfl, hb0⟩; have hn0 := below_then hnx hb0; have hbb0 := hb0; obtain ⟨j00, j01, j02⟩ := HC.out _ hbb0; clear hb0) | (go_at_call 64; (with_reducible refine (C1.out _ hn0).mono ?_); rintro e w1' ⟨rfl, hb1⟩; have hn1 := below_then hn0 hb1; have hbb1 := (below_then hbb0 hb1); obtain ⟨j10, j11, j12⟩ := HC.out _ hbb1; clear hb1))
          go_ret
          exact ⟨ret_bool (by rw [HF.out]), below_then HB.out hn1⟩
        | true =>
          cases b2 with
          | false =>
            have HF := Lib.hid (HNO.out (by rfl))
            clear HNO HYE
            go_wp2_with (first | (go_at_call 64; (with_reducible refine (C0.out _ hnx).mono ?_); rintro e w0' ⟨rfl, hb0⟩; have hn0 := below_then hnx hb0; have hbb0 := hb0; obtain ⟨j00, j01, j02⟩ := HC.out _ hbb0; clear hb0) | (go_at_call 64; (with_reducible refine (C1.out _ hn0).mono ?_); rintro e w1' ⟨rfl, hb1⟩; have hn1 := below_then hn0 hb1; have hbb1 := (below_then hbb0 hb1); obtain ⟨j10, j11, j12⟩ := HC.out _ hbb1; clear hb1) | (go_at_call 65; (with_reducible refine (C2.out _ hn1).mono ?_); rintro e w2' ⟨rfl, hb2⟩; have hn2 := below_then hn1 hb2; have hbb2 := (below_then hbb1 hb2); obtain ⟨j20, j21, j22⟩ := HC.out _ hbb2; clear hb2))
            go_ret
            exact ⟨ret_bool (by rw [HF.out]), below_then HB.out hn2⟩
          | true =>
            have HY := Lib.hid (HYE.out rfl)
            clear HNO HYE
            go_wp2_with (first | (go_at_call 64; (with_reducible refine (C0.out _ hnx).mono ?_); rintro e w0' ⟨rfl, hb0⟩; have hn0 := below_then hnx hb0; have hbb0 := hb0; obtain ⟨j00, j01, j02⟩ := HC.out _ hbb0; clear hb0) | (go_at_call 64; (with_reducible refine (C1.out _ hn0).mono ?_); rintro e w1' ⟨rfl, hb1⟩; have hn1 := below_then hn0 hb1; have hbb1 := (below_then hbb0 hb1); obtain ⟨j10, j11, j12⟩ := HC.out _ hbb1; clear hb1) | (go_at_call 65; (with_reducible refine (C2.out _ hn1).mono ?_); rintro e w2' ⟨rfl, hb2⟩; have hn2 := below_then hn1 hb2; have hbb2 := (below_then hbb1 hb2); obtain ⟨j20, j21, j22⟩ := HC.out _ hbb2; clear hb2))
            go_roundw
            case rel => exact ⟨k + 1, by omega, by go_num, Lib.hid (below_then HB.out hn2), HY⟩
            case measure => simp [intOf]; omega
    · have hd : decide ((k : Int) < (n : Int)) = false := by simp; omega
      obtain rfl : k = n := by omega
      have HF := Lib.hid (show l.all impB = true by have h := HA.out; rw [← HN.out] at h; exact h.done)
      go_wp2
      go_ret
      exact ⟨ret_bool (by rw [HF.out]), HB.out⟩
set_option maxRecDepth 100000 in
set_option maxHeartbeats 4000000 in
theorem rinsts_any (K : Nat → Prop) (w : World) (hK : ∀ k, K k → k < w.heap.size) (v : Value) (l : List (Ins)) (h : CodeK K w v l) (hlen : l.length ≤ 65536) : Calls Tryd.prog 66 #[v] w (BoolPost (l.all instB) w) := by
  obtain ⟨A, c, hv, hnc, hcm⟩ := CellsK.form h
  have H := Lib.hid (CodeK.keep (K' := fun k => k < w.heap.size) h (.refl _ _) hK)
  rw [hv] at H ⊢
  clear h hv
  unfold maxLen at hcm
  obtain ⟨n, hn⟩ : ∃ n, l.length = n := ⟨_, rfl⟩
  have HN := Lib.hid hn
  have hlen2 := hlen
  rw [hn] at hlen2
  have hgt : decide ((65536 : Int) < (n : Int)) = false := by simp; omega
  clear hlen hlen2
  rw [hn] at H hnc ⊢
  clear hn
  go_enter Tryd.func66, Tryd.ntmps66
  go_wp2_with fail
  go_loopw [10] (fun i wr => ∃ k : Nat, k ≤ n ∧ i = .int .i64 (k : Int) ∧ Hid (Below w.heap.size w wr) ∧ Hid (AllTo instB l ins0 k)) (fun i _ => n - (intOf i).toNat)
  case atStart => exact ⟨0, Nat.zero_le _, rfl, Lib.hid (Below.refl _ _), Lib.hid (AllTo.zero _ _ _)⟩
  case round =>
    obtain ⟨w0, rfl⟩ : ∃ w0, w0 = wr := ⟨_, rfl⟩
    obtain ⟨k, hk, rfl, HB, HA⟩ := hrel
    by_cases hlt : k < n
    · have hd : decide ((k : Int) < (n : Int)) = true := by simp; omega
      obtain ⟨g, o, c', he, _, _⟩ := CellsK.some_ H.out (by first | omega | (rw [HN.out]; omega))
      simp only [Value.slice.injEq] at he
      obtain ⟨rfl, -, rfl⟩ := he
      have hAT := CodeK.keep H.out (Keeps.below HB.out fun _ hk => hk) fun _ hk => Nat.lt_of_lt_of_le hk HB.out.size
      obtain ⟨u0, k0, h0⟩ := CellsK.at_ hAT k 0 (by first | exact hlt | (rw [HN.out]; exact hlt)) (by decide)
      obtain ⟨u1, k1, h1⟩ := CellsK.at_ hAT k 1 (by first | exact hlt | (rw [HN.out]; exact hlt)) (by decide)
      obtain ⟨u2, k2, h2⟩ := CellsK.at_ hAT k 2 (by first | exact hlt | (rw [HN.out]; exact hlt)) (by decide)
      obtain ⟨u3, k3, h3⟩ := CellsK.at_ hAT k 3 (by first | exact hlt | (rw [HN.out]; exact hlt)) (by decide)
      obtain ⟨u4, k4, h4⟩ := CellsK.at_ hAT k 4 (by first | exact hlt | (rw [HN.out]; exact hlt)) (by decide)
      have HNO := Lib.hid (fun (h : instB (l.getD k ins0) = false) => all_no (by rw [HN.out]; exact hlt) h)
      have HYE := Lib.hid (fun (h : instB (l.getD k ins0) = true) => HA.out.succ h)
      clear hAT
      generalize l.getD k ins0 = x at h0 h1 h2 h3 h4 HNO HYE
      obtain ⟨x1, x2, x3, x4, x5⟩ := x
      obtain rfl : u0 = .int .i64 x1 := h0
      obtain rfl : u1 = .int .i64 x2 := h1
      obtain rfl : u2 = .int .i64 x3 := h2
      obtain rfl : u3 = .int .u64 x4 := h3
      have h4 : IntsK (fun g => g < w0.heap.size) w0 u4 x5 := h4
      obtain ⟨P4, q4, rfl, _, _⟩ := h4.form
      generalize hm4 : x5.length = m4 at *
      clear hm4
      rw [Nat.add_zero] at k0
      rw [show instB ⟨x1, x2, x3, x4, x5⟩ = (instB ⟨x1, x2, x3, x4, x5⟩) from rfl] at HNO HYE
      have C0 := Lib.hid (fun wz (hb : Below w0.heap.size w0 wz) => inst_any (fun g => g < wz.heap.size) wz (fun _ hk => hk) ⟨x1, x2, x3, x4, x5⟩ _ (h4.keep (Keeps.below hb fun _ hk => hk) fun _ hk => Nat.lt_of_lt_of_le hk hb.size))
      generalize instB ⟨x1, x2, x3, x4, x5⟩ = b0 at C0 HNO HYE
      have hnx := below_new (Below.refl w0.heap.size w0) (.cells #[.int .i64 x1, .int .i64 x2, .int .i64 x3, .int .u64 x4, .slice P4 m4 q4] 71)
      have HC : Hid (∀ wz, Below (w0.alloc (.cells #[.int .i64 x1, .int .i64 x2, .int .i64 x3, .int .u64 x4, .slice P4 m4 q4] 71)).heap.size (w0.alloc (.cells #[.int .i64 x1, .int .i64 x2, .int .i64 x3, .int .u64 x4, .slice P4 m4 q4] 71)) wz → wz.cell? ⟨w0.heap.size, 0, none⟩ = some (.int .i64 x1) ∧ wz.cell? ⟨w0.heap.size, 1, none⟩ = some (.int .i64 x2) ∧ wz.cell? ⟨w0.heap.size, 2, none⟩ = some (.int .i64 x3) ∧ wz.cell? ⟨w0.heap.size, 3, none⟩ = some (.int .u64 x4) ∧ wz.cell? ⟨w0.heap.size, 4, none⟩ = some (.slice P4 m4 q4)) := Lib.hid fun wz hb => by
        have h9 : ∀ i, wz.cell? ⟨w0.heap.size, i, none⟩ = (#[.int .i64 x1, .int .i64 x2, .int .i64 x3, .int .u64 x4, .slice P4 m4 q4] : Array Value)[i]? := fun i => (hb.cell (p := ⟨w0.heap.size, i, none⟩) (by simp)).trans (World.cell?_alloc_new w0 _ _ i)
        exact ⟨h9 0, h9 1, h9 2, h9 3, h9 4⟩
      clear h4
      cases b0 with
      | false =>
        have HF := Lib.hid (HNO.out (by rfl))
        clear HNO HYE
        go_wp2_with (go_at_call 22; (with_reducible refine (C0.out _ hnx).mono ?_); rintro e w0' ⟨rfl, hb0⟩; have hn0 := below_then hnx hb0; have hbb0 := hb0; obtain ⟨j00, j01, j02, j03, j04⟩ := HC.out _ hbb0; clear hb0)
        go_ret
        exact ⟨ret_bool (by rw [HF.out]), below_then HB.out hn0⟩
      | true =>
        have HY := Lib.hid (HYE.out rfl)
        clear HNO HYE
        go_wp2_with (go_at_call 22; (with_reducible refine (C0.out _ hnx).mono ?_); rintro e w0' ⟨rfl, hb0⟩; have hn0 := below_then hnx hb0; have hbb0 := hb0; obtain ⟨j00, j01, j02, j03, j04⟩ := HC.out _ hbb0; clear hb0)
        go_roundw
        case rel => exact ⟨k + 1, by omega, by go_num, Lib.hid (below_then HB.out hn0), HY⟩
        case measure => simp [intOf]; omega
    · have hd : decide ((k : Int) < (n : Int)) = false := by simp; omega
      obtain rfl : k = n := by omega
      have HF := Lib.hid (show l.all instB = true by have h := HA.out; rw [← HN.out] at h; exact h.done)
      go_wp2
      go_ret
      exact ⟨ret_bool (by rw [HF.out]), HB.out⟩
theorem rcode_any (K : Nat → Prop) (w : World) (hK : ∀ k, K k → k < w.heap.size) (v : Value) (l : List Ins) (h : CodeK K w v l) : Calls Tryd.prog 66 #[v] w (BoolPost (codeB l) w) := by
  by_cases hc : l.length ≤ 65536
  · rw [show codeB l = l.all instB by unfold codeB; rw [decide_eq_true hc, Bool.true_and]]
    exact rinsts_any K w hK v l h hc
  · rw [show codeB l = false by unfold codeB; rw [decide_eq_false hc, Bool.false_and]]
    obtain ⟨A, c, hv, _, _⟩ := CellsK.form h
    rw [hv]
    generalize l.length = n at *
    have hgt : decide ((65536 : Int) < (n : Int)) = true := by simp; omega
    clear hc h hv
    go_enter Tryd.func66, Tryd.ntmps66
    go_wp2
    go_ret
    exact ⟨rfl, Below.refl _ _⟩
set_option maxRecDepth 100000 in
set_option maxHeartbeats 4000000 in
theorem rfuncs_any (K : Nat → Prop) (w : World) (hK : ∀ k, K k → k < w.heap.size) (v : Value) (l : List (Fnc)) (h : FunsK K w v l) : Calls Tryd.prog 33 #[v] w (BoolPost (l.all fncB) w) := by
  obtain ⟨A, c, hv, hnc, hcm⟩ := CellsK.form h
  have H := Lib.hid (FunsK.keep (K' := fun k => k < w.heap.size) h (.refl _ _) hK)
  rw [hv] at H ⊢
  clear h hv
  unfold maxLen at hcm
  obtain ⟨n, hn⟩ : ∃ n, l.length = n := ⟨_, rfl⟩
  have HN := Lib.hid hn
  rw [hn] at H hnc ⊢
  clear hn
  go_enter Tryd.func33, Tryd.ntmps33
  go_wp2_with fail
  go_loopw [7] (fun i wr => ∃ k : Nat, k ≤ n ∧ i = .int .i64 (k : Int) ∧ Hid (Below w.heap.size w wr) ∧ Hid (AllTo fncB l fnc0 k)) (fun i _ => n - (intOf i).toNat)
  case atStart => exact ⟨0, Nat.zero_le _, rfl, Lib.hid (Below.refl _ _), Lib.hid (AllTo.zero _ _ _)⟩
  case round =>
    obtain ⟨w0, rfl⟩ : ∃ w0, w0 = wr := ⟨_, rfl⟩
    obtain ⟨k, hk, rfl, HB, HA⟩ := hrel
    by_cases hlt : k < n
    · have hd : decide ((k : Int) < (n : Int)) = true := by simp; omega
      obtain ⟨g, o, c', he, _, _⟩ := CellsK.some_ H.out (by first | omega | (rw [HN.out]; omega))
      simp only [Value.slice.injEq] at he
      obtain ⟨rfl, -, rfl⟩ := he
      have hAT := FunsK.keep H.out (Keeps.below HB.out fun _ hk => hk) fun _ hk => Nat.lt_of_lt_of_le hk HB.out.size
      obtain ⟨u0, k0, h0⟩ := CellsK.at_ hAT k 0 (by first | exact hlt | (rw [HN.out]; exact hlt)) (by decide)
      obtain ⟨u1, k1, h1⟩ := CellsK.at_ hAT k 1 (by first | exact hlt | (rw [HN.out]; exact hlt)) (by decide)
      obtain ⟨u2, k2, h2⟩ := CellsK.at_ hAT k 2 (by first | exact hlt | (rw [HN.out]; exact hlt)) (by decide)
      have HNO := Lib.hid (fun (h : fncB (l.getD k fnc0) = false) => all_no (by rw [HN.out]; exact hlt) h)
      have HYE := Lib.hid (fun (h : fncB (l.getD k fnc0) = true) => HA.out.succ h)
      clear hAT
      generalize l.getD k fnc0 = x at h0 h1 h2 HNO HYE
      obtain ⟨x1, x2, x3⟩ := x
      obtain rfl : u0 = .int .i64 x1 := h0
      have h1 : IntsK (fun g => g < w0.heap.size) w0 u1 x2 := h1
      have h2 : CodeK (fun g => g < w0.heap.size) w0 u2 x3 := h2
      obtain ⟨P1, q1, rfl, _, _⟩ := h1.form
      obtain ⟨P2, q2, rfl, _, _⟩ := CellsK.form h2
      generalize hm1 : x2.length = m1 at *
      generalize hm2 : x3.length = m2 at *
      clear hm1 hm2
      rw [Nat.add_zero] at k0
      rw [show fncB ⟨x1, x2, x3⟩ = (idxB x1 && kindsB x2 256 && codeB x3) from rfl] at HNO HYE
      have C0 := Lib.hid (fun wz (hb : Below w0.heap.size w0 wz) => idx_any x1 wz)
      generalize idxB x1 = b0 at C0 HNO HYE
      have C1 := Lib.hid (fun wz (hb : Below w0.heap.size w0 wz) => kinds_any (fun g => g < wz.heap.size) wz (fun _ hk => hk) _ x2 (h1.keep (Keeps.below hb fun _ hk => hk) fun _ hk => Nat.lt_of_lt_of_le hk hb.size) 256)
      generalize kindsB x2 256 = b1 at C1 HNO HYE
      have C2 := Lib.hid (fun wz (hb : Below w0.heap.size w0 wz) => rcode_any (fun g => g < wz.heap.size) wz (fun _ hk => hk) _ x3 (CodeK.keep h2 (Keeps.below hb fun _ hk => hk) fun _ hk => Nat.lt_of_lt_of_le hk hb.size))
      generalize codeB x3 = b2 at C2 HNO HYE
      have hnx := below_new (Below.refl w0.heap.size w0) (.cells #[.int .i64 x1, .slice P1 m1 q1, .slice P2 m2 q2] 44)
      have HC : Hid (∀ wz, Below (w0.alloc (.cells #[.int .i64 x1, .slice P1 m1 q1, .slice P2 m2 q2] 44)).heap.size (w0.alloc (.cells #[.int .i64 x1, .slice P1 m1 q1, .slice P2 m2 q2] 44)) wz → wz.cell? ⟨w0.heap.size, 0, none⟩ = some (.int .i64 x1) ∧ wz.cell? ⟨w0.heap.size, 1, none⟩ = some (.slice P1 m1 q1) ∧ wz.cell? ⟨w0.heap.size, 2, none⟩ = some (.slice P2 m2 q2)) := Lib.hid fun wz hb => by
        have h9 : ∀ i, wz.cell? ⟨w0.heap.size, i, none⟩ = (#[.int .i64 x1, .slice P1 m1 q1, .slice P2 m2 q2] : Array Value)[i]? := fun i => (hb.cell (p := ⟨w0.heap.size, i, none⟩) (by simp)).trans (World.cell?_alloc_new w0 _ _ i)
        exact ⟨h9 0, h9 1, h9 2⟩
      clear h1 h2
      cases b0 with
      | false =>
        have HF := Lib.hid (HNO.out (by rfl))
        clear HNO HYE
        go_wp2_with (go_at_call 65; (with_reducible refine (C0.out _ hnx).mono ?_); rintro e w0' ⟨rfl, hb0⟩; have hn0 := below_then hnx hb0; have hbb0 := hb0; obtain ⟨j00, j01, j02⟩ := HC.out _ hbb0; clear hb0)
        go_ret
        exact ⟨ret_bool (by rw [HF.out]), below_then HB.out hn0⟩
      | true =>
        cases b1 with
        | false =>
          have HF := Lib.hid (HNO.out (by rfl))
          clear HNO HYE
          go_wp2_with (first | (go_at_call 65; (with_reducible refine (C0.out _ hnx).mono ?_); rintro e w0' ⟨rfl, hb0⟩; have hn0 := below_then hnx hb0; have hbb0 := hb0; obtain ⟨j00, j01, j02⟩ := HC.out _ hbb0; clear hb0) | (go_at_call 63; (with_reducible refine (C1.out _ hn0).mono ?_); rintro e w1' ⟨rfl, hb1⟩; have hn1 := below_then hn0 hb1; have hbb1 := (below_then hbb0 hb1); obtain ⟨j10, j11, j12⟩ := HC.out _ hbb1; clear hb1))
          go_ret
          exact ⟨ret_bool (by rw [HF.out]), below_then HB.out hn1⟩
        | true =>
          cases b2 with
          | false =>
            have HF := Lib.hid (HNO.out (by rfl))
            clear HNO HYE
            go_wp2_with (first | (go_at_call 65; (with_reducible refine (C0.out _ hnx).mono ?_); rintro e w0' ⟨rfl, hb0⟩; have hn0 := below_then hnx hb0; have hbb0 := hb0; obtain ⟨j00, j01, j02⟩ := HC.out _ hbb0; clear hb0) | (go_at_call 63; (with_reducible refine (C1.out _ hn0).mono ?_); rintro e w1' ⟨rfl, hb1⟩; have hn1 := below_then hn0 hb1; have hbb1 := (below_then hbb0 hb1); obtain ⟨j10, j11, j12⟩ := HC.out _ hbb1; clear hb1) | (go_at_call 66; (with_reducible refine (C2.out _ hn1).mono ?_); rintro e w2' ⟨rfl, hb2⟩; have hn2 := below_then hn1 hb2; have hbb2 := (below_then hbb1 hb2); obtain ⟨j20, j21, j22⟩ := HC.out _ hbb2; clear hb2))
            go_ret
            exact ⟨ret_bool (by rw [HF.out]), below_then HB.out hn2⟩
          | true =>
            have HY := Lib.hid (HYE.out rfl)
            clear HNO HYE
            go_wp2_with (first | (go_at_call 65; (with_reducible refine (C0.out _ hnx).mono ?_); rintro e w0' ⟨rfl, hb0⟩; have hn0 := below_then hnx hb0; have hbb0 := hb0; obtain ⟨j00, j01, j02⟩ := HC.out _ hbb0; clear hb0) | (go_at_call 63; (with_reducible refine (C1.out _ hn0).mono ?_); rintro e w1' ⟨rfl, hb1⟩; have hn1 := below_then hn0 hb1; have hbb1 := (below_then hbb0 hb1); obtain ⟨j10, j11, j12⟩ := HC.out _ hbb1; clear hb1) | (go_at_call 66; (with_reducible refine (C2.out _ hn1).mono ?_); rintro e w2' ⟨rfl, hb2⟩; have hn2 := below_then hn1 hb2; have hbb2 := (below_then hbb1 hb2); obtain ⟨j20, j21, j22⟩ := HC.out _ hbb2; clear hb2))
            go_roundw
            case rel => exact ⟨k + 1, by omega, by go_num, Lib.hid (below_then HB.out hn2), HY⟩
            case measure => simp [intOf]; omega
    · have hd : decide ((k : Int) < (n : Int)) = false := by simp; omega
      obtain rfl : k = n := by omega
      have HF := Lib.hid (show l.all fncB = true by have h := HA.out; rw [← HN.out] at h; exact h.done)
      go_wp2
      go_ret
      exact ⟨ret_bool (by rw [HF.out]), HB.out⟩
set_option maxRecDepth 100000 in
set_option maxHeartbeats 4000000 in
theorem rmems_any (K : Nat → Prop) (w : World) (hK : ∀ k, K k → k < w.heap.size) (v : Value) (l : List (Int × Int)) (h : MemsK K w v l) : Calls Tryd.prog 34 #[v] w (BoolPost (l.all memB) w) := by
  obtain ⟨A, c, hv, hnc, hcm⟩ := CellsK.form h
  have H := Lib.hid (CellsK.keep (K' := fun k => k < w.heap.size) h (.refl _ _) hK (fun _ _ _ h => h))
  rw [hv] at H ⊢
  clear h hv
  unfold maxLen at hcm
  obtain ⟨n, hn⟩ : ∃ n, l.length = n := ⟨_, rfl⟩
  have HN := Lib.hid hn
  rw [hn] at H hnc ⊢
  clear hn
  go_enter Tryd.func34, Tryd.ntmps34
  go_wp2_with fail
  go_loopw [7] (fun i wr => ∃ k : Nat, k ≤ n ∧ i = .int .i64 (k : Int) ∧ Hid (Below w.heap.size w wr) ∧ Hid (AllTo memB l (0, 0) k)) (fun i _ => n - (intOf i).toNat)
  case atStart => exact ⟨0, Nat.zero_le _, rfl, Lib.hid (Below.refl _ _), Lib.hid (AllTo.zero _ _ _)⟩
  case round =>
    obtain ⟨w0, rfl⟩ : ∃ w0, w0 = wr := ⟨_, rfl⟩
    obtain ⟨k, hk, rfl, HB, HA⟩ := hrel
    by_cases hlt : k < n
    · have hd : decide ((k : Int) < (n : Int)) = true := by simp; omega
      obtain ⟨g, o, c', he, _, _⟩ := CellsK.some_ H.out (by first | omega | (rw [HN.out]; omega))
      simp only [Value.slice.injEq] at he
      obtain ⟨rfl, -, rfl⟩ := he
      have hAT := CellsK.keep (K' := fun k => k < w0.heap.size) H.out (Keeps.below HB.out fun _ hk => hk) (fun _ hk => Nat.lt_of_lt_of_le hk HB.out.size) (fun _ _ _ h => h)
      obtain ⟨u0, k0, h0⟩ := CellsK.at_ hAT k 0 (by first | exact hlt | (rw [HN.out]; exact hlt)) (by decide)
      obtain ⟨u1, k1, h1⟩ := CellsK.at_ hAT k 1 (by first | exact hlt | (rw [HN.out]; exact hlt)) (by decide)
      have HNO := Lib.hid (fun (h : memB (l.getD k (0, 0)) = false) => all_no (by rw [HN.out]; exact hlt) h)
      have HYE := Lib.hid (fun (h : memB (l.getD k (0, 0)) = true) => HA.out.succ h)
      clear hAT
      generalize l.getD k (0, 0) = x at h0 h1 HNO HYE
      obtain ⟨x1, x2⟩ := x
      obtain rfl : u0 = .int .i64 x1 := h0
      obtain rfl : u1 = .int .i64 x2 := h1
      rw [Nat.add_zero] at k0
      rw [show memB ⟨x1, x2⟩ = (decide (0 ≤ x1) && decide (x1 ≤ x2) && decide (x2 ≤ 512)) from rfl] at HNO HYE
      generalize hb0 : (decide (0 ≤ x1)) = b0 at HNO HYE
      generalize hb1 : (decide (x1 ≤ x2)) = b1 at HNO HYE
      generalize hb2 : (decide (x2 ≤ 512)) = b2 at HNO HYE
      have hnx := below_new (Below.refl w0.heap.size w0) (.cells #[.int .i64 x1, .int .i64 x2] 57)
      have HC : Hid (∀ wz, Below (w0.alloc (.cells #[.int .i64 x1, .int .i64 x2] 57)).heap.size (w0.alloc (.cells #[.int .i64 x1, .int .i64 x2] 57)) wz → wz.cell? ⟨w0.heap.size, 0, none⟩ = some (.int .i64 x1) ∧ wz.cell? ⟨w0.heap.size, 1, none⟩ = some (.int .i64 x2)) := Lib.hid fun wz hb => by
        have h9 : ∀ i, wz.cell? ⟨w0.heap.size, i, none⟩ = (#[.int .i64 x1, .int .i64 x2] : Array Value)[i]? := fun i => (hb.cell (p := ⟨w0.heap.size, i, none⟩) (by simp)).trans (World.cell?_alloc_new w0 _ _ i)
        exact ⟨h9 0, h9 1⟩
      cases b0 with
      | false =>
        have HF := Lib.hid (HNO.out (by rfl))
        clear HNO HYE
        have e0 := of_decide_eq_false hb0
        clear hb0
        have d0 : decide (x1 < 0) = true := by simp; omega
        clear e0
        go_wp2
        go_ret
        exact ⟨ret_bool (by rw [HF.out]), below_then HB.out hnx⟩
      | true =>
        have e0 := of_decide_eq_true hb0
        clear hb0
        have d0 : decide (x1 < 0) = false := by simp; omega
        clear e0
        cases b1 with
        | false =>
          have HF := Lib.hid (HNO.out (by rfl))
          clear HNO HYE
          have e1 := of_decide_eq_false hb1
          clear hb1
          have d1 : decide (x2 < x1) = true := by simp; omega
          clear e1
          go_wp2
          go_ret
          exact ⟨ret_bool (by rw [HF.out]), below_then HB.out hnx⟩
        | true =>
          have e1 := of_decide_eq_true hb1
          clear hb1
          have d1 : decide (x2 < x1) = false := by simp; omega
          clear e1
          cases b2 with
          | false =>
            have HF := Lib.hid (HNO.out (by rfl))
            clear HNO HYE
            have e2 := of_decide_eq_false hb2
            clear hb2
            have d2 : decide (512 < x2) = true := by simp; omega
            clear e2
            go_wp2
            go_ret
            exact ⟨ret_bool (by rw [HF.out]), below_then HB.out hnx⟩
          | true =>
            have e2 := of_decide_eq_true hb2
            clear hb2
            have d2 : decide (512 < x2) = false := by simp; omega
            clear e2
            have HY := Lib.hid (HYE.out rfl)
            clear HNO HYE
            go_wp2
            go_roundw
            case rel => exact ⟨k + 1, by omega, by go_num, Lib.hid (below_then HB.out hnx), HY⟩
            case measure => simp [intOf]; omega
    · have hd : decide ((k : Int) < (n : Int)) = false := by simp; omega
      obtain rfl : k = n := by omega
      have HF := Lib.hid (show l.all memB = true by have h := HA.out; rw [← HN.out] at h; exact h.done)
      go_wp2
      go_ret
      exact ⟨ret_bool (by rw [HF.out]), HB.out⟩
set_option maxRecDepth 100000 in
set_option maxHeartbeats 4000000 in
theorem rcustoms_any (K : Nat → Prop) (w : World) (hK : ∀ k, K k → k < w.heap.size) (ht : Tab w) (v : Value) (l : List (ByteArray × List Nat)) (h : CusK K w v l) : Calls Tryd.prog 38 #[v] w (BoolPost (l.all cusB) w) := by
  obtain ⟨A, c, hv, hnc, hcm⟩ := CellsK.form h
  have H := Lib.hid (CusK.keep (K' := fun k => k < w.heap.size) h (.refl _ _) hK)
  rw [hv] at H ⊢
  clear h hv
  unfold maxLen at hcm
  obtain ⟨n, hn⟩ : ∃ n, l.length = n := ⟨_, rfl⟩
  have HN := Lib.hid hn
  rw [hn] at H hnc ⊢
  clear hn
  have HT := Lib.hid ht
  clear ht
  go_enter Tryd.func38, Tryd.ntmps38
  go_wp2_with fail
  go_loopw [7] (fun i wr => ∃ k : Nat, k ≤ n ∧ i = .int .i64 (k : Int) ∧ Hid (Below w.heap.size w wr) ∧ Hid (AllTo cusB l (ByteArray.empty, []) k)) (fun i _ => n - (intOf i).toNat)
  case atStart => exact ⟨0, Nat.zero_le _, rfl, Lib.hid (Below.refl _ _), Lib.hid (AllTo.zero _ _ _)⟩
  case round =>
    obtain ⟨w0, rfl⟩ : ∃ w0, w0 = wr := ⟨_, rfl⟩
    obtain ⟨k, hk, rfl, HB, HA⟩ := hrel
    by_cases hlt : k < n
    · have hd : decide ((k : Int) < (n : Int)) = true := by simp; omega
      obtain ⟨g, o, c', he, _, _⟩ := CellsK.some_ H.out (by first | omega | (rw [HN.out]; omega))
      simp only [Value.slice.injEq] at he
      obtain ⟨rfl, -, rfl⟩ := he
      have hAT := CusK.keep H.out (Keeps.below HB.out fun _ hk => hk) fun _ hk => Nat.lt_of_lt_of_le hk HB.out.size
      obtain ⟨u0, k0, h0⟩ := CellsK.at_ hAT k 0 (by first | exact hlt | (rw [HN.out]; exact hlt)) (by decide)
      obtain ⟨u1, k1, h1⟩ := CellsK.at_ hAT k 1 (by first | exact hlt | (rw [HN.out]; exact hlt)) (by decide)
      have HNO := Lib.hid (fun (h : cusB (l.getD k (ByteArray.empty, [])) = false) => all_no (by rw [HN.out]; exact hlt) h)
      have HYE := Lib.hid (fun (h : cusB (l.getD k (ByteArray.empty, [])) = true) => HA.out.succ h)
      clear hAT
      generalize l.getD k (ByteArray.empty, []) = x at h0 h1 HNO HYE
      obtain ⟨x1, x2⟩ := x
      obtain rfl : u0 = .string x1 := h0
      obtain ⟨P1, q1, rfl, hx2, _⟩ := h1
      obtain ⟨m1, hm1⟩ : ∃ m, x2.length = m := ⟨_, rfl⟩
      rw [hm1] at k1 hx2
      rw [Nat.add_zero] at k0
      rw [show cusB ⟨x1, x2⟩ = (strB x1 && decide (x2.length ≤ 1048576)) from rfl] at HNO HYE
      rw [hm1] at HNO HYE
      clear hm1
      have C0 := Lib.hid (fun wz (hb : Below w0.heap.size w0 wz) => str_any x1 wz (HT.out.below (below_then HB.out hb)))
      generalize strB x1 = b0 at C0 HNO HYE
      generalize hb1 : (decide (m1 ≤ 1048576)) = b1 at HNO HYE
      have hnx := below_new (Below.refl w0.heap.size w0) (.cells #[.string x1, .slice P1 m1 q1] 112)
      have HC : Hid (∀ wz, Below (w0.alloc (.cells #[.string x1, .slice P1 m1 q1] 112)).heap.size (w0.alloc (.cells #[.string x1, .slice P1 m1 q1] 112)) wz → wz.cell? ⟨w0.heap.size, 0, none⟩ = some (.string x1) ∧ wz.cell? ⟨w0.heap.size, 1, none⟩ = some (.slice P1 m1 q1)) := Lib.hid fun wz hb => by
        have h9 : ∀ i, wz.cell? ⟨w0.heap.size, i, none⟩ = (#[.string x1, .slice P1 m1 q1] : Array Value)[i]? := fun i => (hb.cell (p := ⟨w0.heap.size, i, none⟩) (by simp)).trans (World.cell?_alloc_new w0 _ _ i)
        exact ⟨h9 0, h9 1⟩
      cases b0 with
      | false =>
        have HF := Lib.hid (HNO.out (by rfl))
        clear HNO HYE
        go_wp2_with (go_at_call 64; (with_reducible refine (C0.out _ hnx).mono ?_); rintro e w0' ⟨rfl, hb0⟩; have hn0 := below_then hnx hb0; have hbb0 := hb0; obtain ⟨j00, j01⟩ := HC.out _ hbb0; clear hb0)
        go_ret
        exact ⟨ret_bool (by rw [HF.out]), below_then HB.out hn0⟩
      | true =>
        cases b1 with
        | false =>
          have HF := Lib.hid (HNO.out (by rfl))
          clear HNO HYE
          have e1 := of_decide_eq_false hb1
          clear hb1
          have d1 : decide ((1048576 : Int) < (m1 : Int)) = true := by simp; omega
          clear e1
          go_wp2_with (go_at_call 64; (with_reducible refine (C0.out _ hnx).mono ?_); rintro e w0' ⟨rfl, hb0⟩; have hn0 := below_then hnx hb0; have hbb0 := hb0; obtain ⟨j00, j01⟩ := HC.out _ hbb0; clear hb0)
          go_ret
          exact ⟨ret_bool (by rw [HF.out]), below_then HB.out hn0⟩
        | true =>
          have e1 := of_decide_eq_true hb1
          clear hb1
          have d1 : decide ((1048576 : Int) < (m1 : Int)) = false := by simp; omega
          clear e1
          have HY := Lib.hid (HYE.out rfl)
          clear HNO HYE
          go_wp2_with (go_at_call 64; (with_reducible refine (C0.out _ hnx).mono ?_); rintro e w0' ⟨rfl, hb0⟩; have hn0 := below_then hnx hb0; have hbb0 := hb0; obtain ⟨j00, j01⟩ := HC.out _ hbb0; clear hb0)
          go_roundw
          case rel => exact ⟨k + 1, by omega, by go_num, Lib.hid (below_then HB.out hn0), HY⟩
          case measure => simp [intOf]; omega
    · have hd : decide ((k : Int) < (n : Int)) = false := by simp; omega
      obtain rfl : k = n := by omega
      have HF := Lib.hid (show l.all cusB = true by have h := HA.out; rw [← HN.out] at h; exact h.done)
      go_wp2
      go_ret
      exact ⟨ret_bool (by rw [HF.out]), HB.out⟩
set_option maxRecDepth 100000 in
set_option maxHeartbeats 4000000 in
theorem rglobs_any (K : Nat → Prop) (w : World) (hK : ∀ k, K k → k < w.heap.size) (v : Value) (l : List (Int × Bool × Int)) (h : GlobsK K w v l) : Calls Tryd.prog 35 #[v] w (BoolPost (l.all globB) w) := by
  obtain ⟨A, c, hv, hnc, hcm⟩ := CellsK.form h
  have H := Lib.hid (CellsK.keep (K' := fun k => k < w.heap.size) h (.refl _ _) hK (fun _ _ _ h => h))
  rw [hv] at H ⊢
  clear h hv
  unfold maxLen at hcm
  obtain ⟨n, hn⟩ : ∃ n, l.length = n := ⟨_, rfl⟩
  have HN := Lib.hid hn
  rw [hn] at H hnc ⊢
  clear hn
  go_enter Tryd.func35, Tryd.ntmps35
  go_wp2_with fail
  go_loopw [7] (fun i wr => ∃ k : Nat, k ≤ n ∧ i = .int .i64 (k : Int) ∧ Hid (Below w.heap.size w wr) ∧ Hid (AllTo globB l (0, false, 0) k)) (fun i _ => n - (intOf i).toNat)
  case atStart => exact ⟨0, Nat.zero_le _, rfl, Lib.hid (Below.refl _ _), Lib.hid (AllTo.zero _ _ _)⟩
  case round =>
    obtain ⟨w0, rfl⟩ : ∃ w0, w0 = wr := ⟨_, rfl⟩
    obtain ⟨k, hk, rfl, HB, HA⟩ := hrel
    by_cases hlt : k < n
    · have hd : decide ((k : Int) < (n : Int)) = true := by simp; omega
      obtain ⟨g, o, c', he, _, _⟩ := CellsK.some_ H.out (by first | omega | (rw [HN.out]; omega))
      simp only [Value.slice.injEq] at he
      obtain ⟨rfl, -, rfl⟩ := he
      have hAT := CellsK.keep (K' := fun k => k < w0.heap.size) H.out (Keeps.below HB.out fun _ hk => hk) (fun _ hk => Nat.lt_of_lt_of_le hk HB.out.size) (fun _ _ _ h => h)
      obtain ⟨u0, k0, h0⟩ := CellsK.at_ hAT k 0 (by first | exact hlt | (rw [HN.out]; exact hlt)) (by decide)
      obtain ⟨u1, k1, h1⟩ := CellsK.at_ hAT k 1 (by first | exact hlt | (rw [HN.out]; exact hlt)) (by decide)
      obtain ⟨u2, k2, h2⟩ := CellsK.at_ hAT k 2 (by first | exact hlt | (rw [HN.out]; exact hlt)) (by decide)
      have HNO := Lib.hid (fun (h : globB (l.getD k (0, false, 0)) = false) => all_no (by rw [HN.out]; exact hlt) h)
      have HYE := Lib.hid (fun (h : globB (l.getD k (0, false, 0)) = true) => HA.out.succ h)
      clear hAT
      generalize l.getD k (0, false, 0) = x at h0 h1 h2 HNO HYE
      obtain ⟨x1, x2, x3⟩ := x
      obtain rfl : u0 = .int .i64 x1 := h0
      obtain rfl : u1 = .bool x2 := h1
      obtain rfl : u2 = .int .u64 x3 := h2
      rw [Nat.add_zero] at k0
      by_cases hq : x1 = 127
      · skip
        subst hq
        rw [show globB ⟨127, x2, x3⟩ = (kindB 127 && decide (x3 ≤ 4294967295)) from glob_127 x2 x3] at HNO HYE
        have C0 := Lib.hid (fun wz (hb : Below w0.heap.size w0 wz) => kind_any 127 wz)
        generalize kindB 127 = b0 at C0 HNO HYE
        generalize hb1 : (decide (x3 ≤ 4294967295)) = b1 at HNO HYE
        have hnx := below_new (Below.refl w0.heap.size w0) (.cells #[.int .i64 127, .bool x2, .int .u64 x3] 54)
        have HC : Hid (∀ wz, Below (w0.alloc (.cells #[.int .i64 127, .bool x2, .int .u64 x3] 54)).heap.size (w0.alloc (.cells #[.int .i64 127, .bool x2, .int .u64 x3] 54)) wz → wz.cell? ⟨w0.heap.size, 0, none⟩ = some (.int .i64 127) ∧ wz.cell? ⟨w0.heap.size, 1, none⟩ = some (.bool x2) ∧ wz.cell? ⟨w0.heap.size, 2, none⟩ = some (.int .u64 x3)) := Lib.hid fun wz hb => by
          have h9 : ∀ i, wz.cell? ⟨w0.heap.size, i, none⟩ = (#[.int .i64 127, .bool x2, .int .u64 x3] : Array Value)[i]? := fun i => (hb.cell (p := ⟨w0.heap.size, i, none⟩) (by simp)).trans (World.cell?_alloc_new w0 _ _ i)
          exact ⟨h9 0, h9 1, h9 2⟩
        cases b0 with
        | false =>
          have HF := Lib.hid (HNO.out (by rfl))
          clear HNO HYE
          go_wp2_with (go_at_call 67; (with_reducible refine (C0.out _ hnx).mono ?_); rintro e w0' ⟨rfl, hb0⟩; have hn0 := below_then hnx hb0; have hbb0 := hb0; obtain ⟨j00, j01, j02⟩ := HC.out _ hbb0; clear hb0)
          go_ret
          exact ⟨ret_bool (by rw [HF.out]), below_then HB.out hn0⟩
        | true =>
          cases b1 with
          | false =>
            have HF := Lib.hid (HNO.out (by rfl))
            clear HNO HYE
            have e1 := of_decide_eq_false hb1
            clear hb1
            have d1 : decide (4294967295 < x3) = true := by simp; omega
            clear e1
            go_wp2_with (go_at_call 67; (with_reducible refine (C0.out _ hnx).mono ?_); rintro e w0' ⟨rfl, hb0⟩; have hn0 := below_then hnx hb0; have hbb0 := hb0; obtain ⟨j00, j01, j02⟩ := HC.out _ hbb0; clear hb0)
            go_ret
            exact ⟨ret_bool (by rw [HF.out]), below_then HB.out hn0⟩
          | true =>
            have e1 := of_decide_eq_true hb1
            clear hb1
            have d1 : decide (4294967295 < x3) = false := by simp; omega
            clear e1
            have HY := Lib.hid (HYE.out rfl)
            clear HNO HYE
            go_wp2_with (go_at_call 67; (with_reducible refine (C0.out _ hnx).mono ?_); rintro e w0' ⟨rfl, hb0⟩; have hn0 := below_then hnx hb0; have hbb0 := hb0; obtain ⟨j00, j01, j02⟩ := HC.out _ hbb0; clear hb0)
            go_roundw
            case rel => exact ⟨k + 1, by omega, by go_num, Lib.hid (below_then HB.out hn0), HY⟩
            case measure => simp [intOf]; omega
      · skip
        have dq : (x1 == 127) = false := by simpa using hq
        rw [show globB ⟨x1, x2, x3⟩ = (kindB x1) from by simp [globB, hq]] at HNO HYE
        clear hq
        have C0 := Lib.hid (fun wz (hb : Below w0.heap.size w0 wz) => kind_any x1 wz)
        generalize kindB x1 = b0 at C0 HNO HYE
        have hnx := below_new (Below.refl w0.heap.size w0) (.cells #[.int .i64 x1, .bool x2, .int .u64 x3] 54)
        have HC : Hid (∀ wz, Below (w0.alloc (.cells #[.int .i64 x1, .bool x2, .int .u64 x3] 54)).heap.size (w0.alloc (.cells #[.int .i64 x1, .bool x2, .int .u64 x3] 54)) wz → wz.cell? ⟨w0.heap.size, 0, none⟩ = some (.int .i64 x1) ∧ wz.cell? ⟨w0.heap.size, 1, none⟩ = some (.bool x2) ∧ wz.cell? ⟨w0.heap.size, 2, none⟩ = some (.int .u64 x3)) := Lib.hid fun wz hb => by
          have h9 : ∀ i, wz.cell? ⟨w0.heap.size, i, none⟩ = (#[.int .i64 x1, .bool x2, .int .u64 x3] : Array Value)[i]? := fun i => (hb.cell (p := ⟨w0.heap.size, i, none⟩) (by simp)).trans (World.cell?_alloc_new w0 _ _ i)
          exact ⟨h9 0, h9 1, h9 2⟩
        cases b0 with
        | false =>
          have HF := Lib.hid (HNO.out (by rfl))
          clear HNO HYE
          go_wp2_with (go_at_call 67; (with_reducible refine (C0.out _ hnx).mono ?_); rintro e w0' ⟨rfl, hb0⟩; have hn0 := below_then hnx hb0; have hbb0 := hb0; obtain ⟨j00, j01, j02⟩ := HC.out _ hbb0; clear hb0)
          go_ret
          exact ⟨ret_bool (by rw [HF.out]), below_then HB.out hn0⟩
        | true =>
          have HY := Lib.hid (HYE.out rfl)
          clear HNO HYE
          go_wp2_with (go_at_call 67; (with_reducible refine (C0.out _ hnx).mono ?_); rintro e w0' ⟨rfl, hb0⟩; have hn0 := below_then hnx hb0; have hbb0 := hb0; obtain ⟨j00, j01, j02⟩ := HC.out _ hbb0; clear hb0)
          go_roundw
          case rel => exact ⟨k + 1, by omega, by go_num, Lib.hid (below_then HB.out hn0), HY⟩
          case measure => simp [intOf]; omega
    · have hd : decide ((k : Int) < (n : Int)) = false := by simp; omega
      obtain rfl : k = n := by omega
      have HF := Lib.hid (show l.all globB = true by have h := HA.out; rw [← HN.out] at h; exact h.done)
      go_wp2
      go_ret
      exact ⟨ret_bool (by rw [HF.out]), HB.out⟩
set_option maxRecDepth 100000 in
set_option maxHeartbeats 4000000 in
theorem rdatas_any (K : Nat → Prop) (w : World) (hK : ∀ k, K k → k < w.heap.size) (v : Value) (l : List (Dat)) (h : DatasK K w v l) : Calls Tryd.prog 37 #[v] w (BoolPost (l.all datB) w) := by
  obtain ⟨A, c, hv, hnc, hcm⟩ := CellsK.form h
  have H := Lib.hid (DatasK.keep (K' := fun k => k < w.heap.size) h (.refl _ _) hK)
  rw [hv] at H ⊢
  clear h hv
  unfold maxLen at hcm
  obtain ⟨n, hn⟩ : ∃ n, l.length = n := ⟨_, rfl⟩
  have HN := Lib.hid hn
  rw [hn] at H hnc ⊢
  clear hn
  go_enter Tryd.func37, Tryd.ntmps37
  go_wp2_with fail
  go_loopw [9] (fun i wr => ∃ k : Nat, k ≤ n ∧ i = .int .i64 (k : Int) ∧ Hid (Below w.heap.size w wr) ∧ Hid (AllTo datB l dat0 k)) (fun i _ => n - (intOf i).toNat)
  case atStart => exact ⟨0, Nat.zero_le _, rfl, Lib.hid (Below.refl _ _), Lib.hid (AllTo.zero _ _ _)⟩
  case round =>
    obtain ⟨w0, rfl⟩ : ∃ w0, w0 = wr := ⟨_, rfl⟩
    obtain ⟨k, hk, rfl, HB, HA⟩ := hrel
    by_cases hlt : k < n
    · have hd : decide ((k : Int) < (n : Int)) = true := by simp; omega
      obtain ⟨g, o, c', he, _, _⟩ := CellsK.some_ H.out (by first | omega | (rw [HN.out]; omega))
      simp only [Value.slice.injEq] at he
      obtain ⟨rfl, -, rfl⟩ := he
      have hAT := DatasK.keep H.out (Keeps.below HB.out fun _ hk => hk) fun _ hk => Nat.lt_of_lt_of_le hk HB.out.size
      obtain ⟨u0, k0, h0⟩ := CellsK.at_ hAT k 0 (by first | exact hlt | (rw [HN.out]; exact hlt)) (by decide)
      obtain ⟨u1, k1, h1⟩ := CellsK.at_ hAT k 1 (by first | exact hlt | (rw [HN.out]; exact hlt)) (by decide)
      obtain ⟨u2, k2, h2⟩ := CellsK.at_ hAT k 2 (by first | exact hlt | (rw [HN.out]; exact hlt)) (by decide)
      obtain ⟨u3, k3, h3⟩ := CellsK.at_ hAT k 3 (by first | exact hlt | (rw [HN.out]; exact hlt)) (by decide)
      have HNO := Lib.hid (fun (h : datB (l.getD k dat0) = false) => all_no (by rw [HN.out]; exact hlt) h)
      have HYE := Lib.hid (fun (h : datB (l.getD k dat0) = true) => HA.out.succ h)
      clear hAT
      generalize l.getD k dat0 = x at h0 h1 h2 h3 HNO HYE
      obtain ⟨x1, x2, x3, x4⟩ := x
      obtain rfl : u0 = .bool x1 := h0
      obtain rfl : u1 = .int .i64 x2 := h1
      obtain rfl : u2 = .int .i64 x3 := h2
      obtain ⟨P3, q3, rfl, hx4, _⟩ := h3
      obtain ⟨m3, hm3⟩ : ∃ m, x4.length = m := ⟨_, rfl⟩
      rw [hm3] at k3 hx4
      rw [Nat.add_zero] at k0
      rcases x1
      · skip
        rw [show datB ⟨false, x2, x3, x4⟩ = (inB x2 0 0 && inB x3 0 0 && decide (x4.length ≤ 1048576)) from rfl] at HNO HYE
        rw [hm3] at HNO HYE
        clear hm3
        have C0 := Lib.hid (fun wz (hb : Below w0.heap.size w0 wz) => inB_any x2 0 0 wz)
        generalize inB x2 0 0 = b0 at C0 HNO HYE
        have C1 := Lib.hid (fun wz (hb : Below w0.heap.size w0 wz) => inB_any x3 0 0 wz)
        generalize inB x3 0 0 = b1 at C1 HNO HYE
        generalize hb2 : (decide (m3 ≤ 1048576)) = b2 at HNO HYE
        have hnx := below_new (Below.refl w0.heap.size w0) (.cells #[.bool false, .int .i64 x2, .int .i64 x3, .slice P3 m3 q3] 60)
        have HC : Hid (∀ wz, Below (w0.alloc (.cells #[.bool false, .int .i64 x2, .int .i64 x3, .slice P3 m3 q3] 60)).heap.size (w0.alloc (.cells #[.bool false, .int .i64 x2, .int .i64 x3, .slice P3 m3 q3] 60)) wz → wz.cell? ⟨w0.heap.size, 0, none⟩ = some (.bool false) ∧ wz.cell? ⟨w0.heap.size, 1, none⟩ = some (.int .i64 x2) ∧ wz.cell? ⟨w0.heap.size, 2, none⟩ = some (.int .i64 x3) ∧ wz.cell? ⟨w0.heap.size, 3, none⟩ = some (.slice P3 m3 q3)) := Lib.hid fun wz hb => by
          have h9 : ∀ i, wz.cell? ⟨w0.heap.size, i, none⟩ = (#[.bool false, .int .i64 x2, .int .i64 x3, .slice P3 m3 q3] : Array Value)[i]? := fun i => (hb.cell (p := ⟨w0.heap.size, i, none⟩) (by simp)).trans (World.cell?_alloc_new w0 _ _ i)
          exact ⟨h9 0, h9 1, h9 2, h9 3⟩
        cases b0 with
        | false =>
          have HF := Lib.hid (HNO.out (by rfl))
          clear HNO HYE
          go_wp2_with (go_at_call 41; (with_reducible refine (C0.out _ hnx).mono ?_); rintro e w0' ⟨rfl, hb0⟩; have hn0 := below_then hnx hb0; have hbb0 := hb0; obtain ⟨j00, j01, j02, j03⟩ := HC.out _ hbb0; clear hb0)
          go_ret
          exact ⟨ret_bool (by rw [HF.out]), below_then HB.out hn0⟩
        | true =>
          cases b1 with
          | false =>
            have HF := Lib.hid (HNO.out (by rfl))
            clear HNO HYE
            go_wp2_with (first | (go_at_call 41; (with_reducible refine (C0.out _ hnx).mono ?_); rintro e w0' ⟨rfl, hb0⟩; have hn0 := below_then hnx hb0; have hbb0 := hb0; obtain ⟨j00, j01, j02, j03⟩ := HC.out _ hbb0; clear hb0) | (go_at_call 41; (with_reducible refine (C1.out _ hn0).mono ?_); rintro e w1' ⟨rfl, hb1⟩; have hn1 := below_then hn0 hb1; have hbb1 := (below_then hbb0 hb1); obtain ⟨j10, j11, j12, j13⟩ := HC.out _ hbb1; clear hb1))
            go_ret
            exact ⟨ret_bool (by rw [HF.out]), below_then HB.out hn1⟩
          | true =>
            cases b2 with
            | false =>
              have HF := Lib.hid (HNO.out (by rfl))
              clear HNO HYE
              have e2 := of_decide_eq_false hb2
              clear hb2
              have d2 : decide ((1048576 : Int) < (m3 : Int)) = true := by simp; omega
              clear e2
              go_wp2_with (first | (go_at_call 41; (with_reducible refine (C0.out _ hnx).mono ?_); rintro e w0' ⟨rfl, hb0⟩; have hn0 := below_then hnx hb0; have hbb0 := hb0; obtain ⟨j00, j01, j02, j03⟩ := HC.out _ hbb0; clear hb0) | (go_at_call 41; (with_reducible refine (C1.out _ hn0).mono ?_); rintro e w1' ⟨rfl, hb1⟩; have hn1 := below_then hn0 hb1; have hbb1 := (below_then hbb0 hb1); obtain ⟨j10, j11, j12, j13⟩ := HC.out _ hbb1; clear hb1))
              go_ret
              exact ⟨ret_bool (by rw [HF.out]), below_then HB.out hn1⟩
            | true =>
              have e2 := of_decide_eq_true hb2
              clear hb2
              have d2 : decide ((1048576 : Int) < (m3 : Int)) = false := by simp; omega
              clear e2
              have HY := Lib.hid (HYE.out rfl)
              clear HNO HYE
              go_wp2_with (first | (go_at_call 41; (with_reducible refine (C0.out _ hnx).mono ?_); rintro e w0' ⟨rfl, hb0⟩; have hn0 := below_then hnx hb0; have hbb0 := hb0; obtain ⟨j00, j01, j02, j03⟩ := HC.out _ hbb0; clear hb0) | (go_at_call 41; (with_reducible refine (C1.out _ hn0).mono ?_); rintro e w1' ⟨rfl, hb1⟩; have hn1 := below_then hn0 hb1; have hbb1 := (below_then hbb0 hb1); obtain ⟨j10, j11, j12, j13⟩ := HC.out _ hbb1; clear hb1))
              go_roundw
              case rel => exact ⟨k + 1, by omega, by go_num, Lib.hid (below_then HB.out hn1), HY⟩
              case measure => simp [intOf]; omega
      · skip
        rw [show datB ⟨true, x2, x3, x4⟩ = (inB x2 0 3 && inB x3 0 2147483647 && decide (x4.length ≤ 1048576)) from rfl] at HNO HYE
        rw [hm3] at HNO HYE
        clear hm3
        have C0 := Lib.hid (fun wz (hb : Below w0.heap.size w0 wz) => inB_any x2 0 3 wz)
        generalize inB x2 0 3 = b0 at C0 HNO HYE
        have C1 := Lib.hid (fun wz (hb : Below w0.heap.size w0 wz) => inB_any x3 0 2147483647 wz)
        generalize inB x3 0 2147483647 = b1 at C1 HNO HYE
        generalize hb2 : (decide (m3 ≤ 1048576)) = b2 at HNO HYE
        have hnx := below_new (Below.refl w0.heap.size w0) (.cells #[.bool true, .int .i64 x2, .int .i64 x3, .slice P3 m3 q3] 60)
        have HC : Hid (∀ wz, Below (w0.alloc (.cells #[.bool true, .int .i64 x2, .int .i64 x3, .slice P3 m3 q3] 60)).heap.size (w0.alloc (.cells #[.bool true, .int .i64 x2, .int .i64 x3, .slice P3 m3 q3] 60)) wz → wz.cell? ⟨w0.heap.size, 0, none⟩ = some (.bool true) ∧ wz.cell? ⟨w0.heap.size, 1, none⟩ = some (.int .i64 x2) ∧ wz.cell? ⟨w0.heap.size, 2, none⟩ = some (.int .i64 x3) ∧ wz.cell? ⟨w0.heap.size, 3, none⟩ = some (.slice P3 m3 q3)) := Lib.hid fun wz hb => by
          have h9 : ∀ i, wz.cell? ⟨w0.heap.size, i, none⟩ = (#[.bool true, .int .i64 x2, .int .i64 x3, .slice P3 m3 q3] : Array Value)[i]? := fun i => (hb.cell (p := ⟨w0.heap.size, i, none⟩) (by simp)).trans (World.cell?_alloc_new w0 _ _ i)
          exact ⟨h9 0, h9 1, h9 2, h9 3⟩
        cases b0 with
        | false =>
          have HF := Lib.hid (HNO.out (by rfl))
          clear HNO HYE
          go_wp2_with (go_at_call 41; (with_reducible refine (C0.out _ hnx).mono ?_); rintro e w0' ⟨rfl, hb0⟩; have hn0 := below_then hnx hb0; have hbb0 := hb0; obtain ⟨j00, j01, j02, j03⟩ := HC.out _ hbb0; clear hb0)
          go_ret
          exact ⟨ret_bool (by rw [HF.out]), below_then HB.out hn0⟩
        | true =>
          cases b1 with
          | false =>
            have HF := Lib.hid (HNO.out (by rfl))
            clear HNO HYE
            go_wp2_with (first | (go_at_call 41; (with_reducible refine (C0.out _ hnx).mono ?_); rintro e w0' ⟨rfl, hb0⟩; have hn0 := below_then hnx hb0; have hbb0 := hb0; obtain ⟨j00, j01, j02, j03⟩ := HC.out _ hbb0; clear hb0) | (go_at_call 41; (with_reducible refine (C1.out _ hn0).mono ?_); rintro e w1' ⟨rfl, hb1⟩; have hn1 := below_then hn0 hb1; have hbb1 := (below_then hbb0 hb1); obtain ⟨j10, j11, j12, j13⟩ := HC.out _ hbb1; clear hb1))
            go_ret
            exact ⟨ret_bool (by rw [HF.out]), below_then HB.out hn1⟩
          | true =>
            cases b2 with
            | false =>
              have HF := Lib.hid (HNO.out (by rfl))
              clear HNO HYE
              have e2 := of_decide_eq_false hb2
              clear hb2
              have d2 : decide ((1048576 : Int) < (m3 : Int)) = true := by simp; omega
              clear e2
              go_wp2_with (first | (go_at_call 41; (with_reducible refine (C0.out _ hnx).mono ?_); rintro e w0' ⟨rfl, hb0⟩; have hn0 := below_then hnx hb0; have hbb0 := hb0; obtain ⟨j00, j01, j02, j03⟩ := HC.out _ hbb0; clear hb0) | (go_at_call 41; (with_reducible refine (C1.out _ hn0).mono ?_); rintro e w1' ⟨rfl, hb1⟩; have hn1 := below_then hn0 hb1; have hbb1 := (below_then hbb0 hb1); obtain ⟨j10, j11, j12, j13⟩ := HC.out _ hbb1; clear hb1))
              go_ret
              exact ⟨ret_bool (by rw [HF.out]), below_then HB.out hn1⟩
            | true =>
              have e2 := of_decide_eq_true hb2
              clear hb2
              have d2 : decide ((1048576 : Int) < (m3 : Int)) = false := by simp; omega
              clear e2
              have HY := Lib.hid (HYE.out rfl)
              clear HNO HYE
              go_wp2_with (first | (go_at_call 41; (with_reducible refine (C0.out _ hnx).mono ?_); rintro e w0' ⟨rfl, hb0⟩; have hn0 := below_then hnx hb0; have hbb0 := hb0; obtain ⟨j00, j01, j02, j03⟩ := HC.out _ hbb0; clear hb0) | (go_at_call 41; (with_reducible refine (C1.out _ hn0).mono ?_); rintro e w1' ⟨rfl, hb1⟩; have hn1 := below_then hn0 hb1; have hbb1 := (below_then hbb0 hb1); obtain ⟨j10, j11, j12, j13⟩ := HC.out _ hbb1; clear hb1))
              go_roundw
              case rel => exact ⟨k + 1, by omega, by go_num, Lib.hid (below_then HB.out hn1), HY⟩
              case measure => simp [intOf]; omega
    · have hd : decide ((k : Int) < (n : Int)) = false := by simp; omega
      obtain rfl : k = n := by omega
      have HF := Lib.hid (show l.all datB = true by have h := HA.out; rw [← HN.out] at h; exact h.done)
      go_wp2
      go_ret
      exact ⟨ret_bool (by rw [HF.out]), HB.out⟩
end Go.Proofs.YtinljaobdnkifaaDoor
namespace Go.Proofs.YtinljaobdnkifaaDoor
open Go.RowKit

theorem exAt_one {l : List (ByteArray × Int × Int)} {k : Nat} (h : exOneB (l.getD k exD) = false) : exAtB l k = false := by unfold exAtB; rw [h]; rfl
theorem exAt_old {l : List (ByteArray × Int × Int)} {k j : Nat} (hj : j < k) (h : nums (l.getD j exD).1 = nums (l.getD k exD).1) : exAtB l k = false := by
  unfold exAtB; rw [range_no hj (by simpa using h)]; simp
theorem exAt_new {l : List (ByteArray × Int × Int)} {k : Nat} (h : exOneB (l.getD k exD) = true) (hn : ∀ j, j < k → nums (l.getD j exD).1 ≠ nums (l.getD k exD).1) : exAtB l k = true := by
  unfold exAtB; rw [h, range_yes (fun j hj => by simpa using hn j hj)]; rfl
theorem exs_no {l : List (ByteArray × Int × Int)} {k n : Nat} (hn : l.length = n) (hk : k < n) (h : exAtB l k = false) : exsB l = false := by unfold exsB; rw [hn]; exact range_no hk h
theorem exs_yes {l : List (ByteArray × Int × Int)} {n : Nat} (hn : l.length = n) (h : ∀ k, k < n → exAtB l k = true) : exsB l = true := by unfold exsB; rw [hn]; exact range_yes h
set_option maxRecDepth 100000 in
set_option maxHeartbeats 4000000 in
theorem rexports_any (K : Nat → Prop) (w : World) (hK : ∀ k, K k → k < w.heap.size) (ht : Tab w) (v : Value) (l : List (ByteArray × Int × Int)) (h : ExpsK K w v l) : Calls Tryd.prog 36 #[v] w (BoolPost (exsB l) w) := by
  obtain ⟨A, c, hv, hnc, hcm⟩ := CellsK.form h
  have H := Lib.hid (CellsK.keep (K' := fun k => k < w.heap.size) h (.refl _ _) hK (fun _ _ _ h => h))
  rw [hv] at H ⊢
  clear h hv
  unfold maxLen at hcm
  obtain ⟨n, hn⟩ : ∃ n, l.length = n := ⟨_, rfl⟩
  have HN := Lib.hid hn
  rw [hn] at H hnc ⊢
  clear hn
  have HT := Lib.hid ht
  clear ht
  go_enter Tryd.func36, Tryd.ntmps36
  go_wp2_with fail
  go_loopw [9] (fun i wr => ∃ k : Nat, k ≤ n ∧ i = .int .i64 (k : Int) ∧ Hid (Below w.heap.size w wr) ∧ Hid (∀ j, j < k → exAtB l j = true)) (fun i _ => n - (intOf i).toNat)
  case atStart => exact ⟨0, Nat.zero_le _, rfl, Lib.hid (Below.refl _ _), Lib.hid fun _ h => absurd h (Nat.not_lt_zero _)⟩
  case round =>
    obtain ⟨w0, rfl⟩ : ∃ w0, w0 = wr := ⟨_, rfl⟩
    obtain ⟨k, hk, rfl, HB, HA⟩ := hrel
    by_cases hlt : k < n
    · have hd : decide ((k : Int) < (n : Int)) = true := by simp; omega
      obtain ⟨g, o, c', he, _, _⟩ := CellsK.some_ H.out (by first | omega | (rw [HN.out]; omega))
      simp only [Value.slice.injEq] at he
      obtain ⟨rfl, -, rfl⟩ := he
      have HAT := Lib.hid (fun wz (hb : Below w.heap.size w wz) => CellsK.keep (K' := fun k => k < wz.heap.size) H.out (Keeps.below hb fun _ hk => hk) (fun _ hk => Nat.lt_of_lt_of_le hk hb.size) (fun _ _ _ h => h))
      have HAC := Lib.hid (fun (wz : World) (hb : Below w.heap.size w wz) (j : Nat) (hj : j < n) => (show ∃ y : ByteArray × Int × Int, l.getD j exD = y ∧ wz.cell? ⟨g, o + j * 3, none⟩ = some (.string y.1) ∧ wz.cell? ⟨g, o + j * 3 + 1, none⟩ = some (.int .i64 y.2.1) ∧ wz.cell? ⟨g, o + j * 3 + 2, none⟩ = some (.int .i64 y.2.2) from by
        have hAT := HAT.out wz hb
        obtain ⟨u0, k0, h0⟩ := CellsK.at_ hAT j 0 (by first | exact hj | (rw [HN.out]; exact hj)) (by decide)
        obtain ⟨u1, k1, h1⟩ := CellsK.at_ hAT j 1 (by first | exact hj | (rw [HN.out]; exact hj)) (by decide)
        obtain ⟨u2, k2, h2⟩ := CellsK.at_ hAT j 2 (by first | exact hj | (rw [HN.out]; exact hj)) (by decide)
        obtain rfl : u0 = .string (l.getD j exD).1 := h0
        obtain rfl : u1 = .int .i64 (l.getD j exD).2.1 := h1
        obtain rfl : u2 = .int .i64 (l.getD j exD).2.2 := h2
        exact ⟨_, rfl, k0, k1, k2⟩))
      obtain ⟨x, hx, k0, k1, k2⟩ := HAC.out w0 HB.out k hlt
      have HNO := Lib.hid (fun (h : exOneB x = false) => exs_no HN.out hlt (exAt_one (by rw [hx]; exact h)))
      have HOL := Lib.hid (fun (j : Nat) (hj : j < k) (y : ByteArray × Int × Int) (hy : l.getD j exD = y) (h : nums y.1 = nums x.1) => exs_no HN.out hlt (exAt_old hj (by rw [hy, hx]; exact h)))
      have HYE := Lib.hid (fun (h : exOneB x = true) (hn : ∀ j, j < k → nums (l.getD j exD).1 ≠ nums x.1) (i : Nat) (hi : i < k + 1) => (show exAtB l i = true from by
        rcases Nat.lt_or_ge i k with h1 | h1
        · exact HA.out i h1
        · rw [show i = k by omega]; exact exAt_new (by rw [hx]; exact h) (by rw [hx]; exact hn)))
      clear hx HA HAT
      obtain ⟨x1, x2, x3⟩ := x
      simp only at k0 k1 k2 HOL HYE
      rw [show exOneB ⟨x1, x2, x3⟩ = (strB x1 && idxB x3 && exKindB x2) from rfl] at HNO HYE
      have C0 := Lib.hid (fun wz (hb : Below w0.heap.size w0 wz) => str_any x1 wz (HT.out.below (below_then HB.out hb)))
      generalize strB x1 = b0 at C0 HNO HYE
      have C1 := Lib.hid (fun wz (hb : Below w0.heap.size w0 wz) => idx_any x3 wz)
      generalize idxB x3 = b1 at C1 HNO HYE
      have C2 := Lib.hid (fun wz (hb : Below w0.heap.size w0 wz) => exkind_any x2 wz)
      generalize exKindB x2 = b2 at C2 HNO HYE
      have hnx := below_new (Below.refl w0.heap.size w0) (.cells #[.string x1, .int .i64 x2, .int .i64 x3] 62)
      have HC : Hid (∀ wz, Below (w0.alloc (.cells #[.string x1, .int .i64 x2, .int .i64 x3] 62)).heap.size (w0.alloc (.cells #[.string x1, .int .i64 x2, .int .i64 x3] 62)) wz → wz.cell? ⟨w0.heap.size, 0, none⟩ = some (.string x1) ∧ wz.cell? ⟨w0.heap.size, 1, none⟩ = some (.int .i64 x2) ∧ wz.cell? ⟨w0.heap.size, 2, none⟩ = some (.int .i64 x3)) := Lib.hid fun wz hb => by
        have h9 : ∀ i, wz.cell? ⟨w0.heap.size, i, none⟩ = (#[.string x1, .int .i64 x2, .int .i64 x3] : Array Value)[i]? := fun i => (hb.cell (p := ⟨w0.heap.size, i, none⟩) (by simp)).trans (World.cell?_alloc_new w0 _ _ i)
        exact ⟨h9 0, h9 1, h9 2⟩
      cases b0 with
      | false =>
        have HF := Lib.hid (HNO.out (by rfl))
        clear HNO HYE HOL HAC
        go_wp2_with (go_at_call 64; (with_reducible refine (C0.out _ hnx).mono ?_); rintro e w0' ⟨rfl, hb0⟩; have hn0 := below_then hnx hb0; have hbb0 := hb0; obtain ⟨j00, j01, j02⟩ := HC.out _ hbb0; clear hb0)
        go_ret
        exact ⟨ret_bool (by rw [HF.out]), below_then HB.out hn0⟩
      | true =>
        cases b1 with
        | false =>
          have HF := Lib.hid (HNO.out (by rfl))
          clear HNO HYE HOL HAC
          go_wp2_with (first | (go_at_call 64; (with_reducible refine (C0.out _ hnx).mono ?_); rintro e w0' ⟨rfl, hb0⟩; have hn0 := below_then hnx hb0; have hbb0 := hb0; obtain ⟨j00, j01, j02⟩ := HC.out _ hbb0; clear hb0) | (go_at_call 65; (with_reducible refine (C1.out _ hn0).mono ?_); rintro e w1' ⟨rfl, hb1⟩; have hn1 := below_then hn0 hb1; have hbb1 := (below_then hbb0 hb1); obtain ⟨j10, j11, j12⟩ := HC.out _ hbb1; clear hb1))
          go_ret
          exact ⟨ret_bool (by rw [HF.out]), below_then HB.out hn1⟩
        | true =>
          cases b2 with
          | false =>
            have HF := Lib.hid (HNO.out (by rfl))
            clear HNO HYE HOL HAC
            go_wp2_with (first | (go_at_call 64; (with_reducible refine (C0.out _ hnx).mono ?_); rintro e w0' ⟨rfl, hb0⟩; have hn0 := below_then hnx hb0; have hbb0 := hb0; obtain ⟨j00, j01, j02⟩ := HC.out _ hbb0; clear hb0) | (go_at_call 65; (with_reducible refine (C1.out _ hn0).mono ?_); rintro e w1' ⟨rfl, hb1⟩; have hn1 := below_then hn0 hb1; have hbb1 := (below_then hbb0 hb1); obtain ⟨j10, j11, j12⟩ := HC.out _ hbb1; clear hb1) | (go_at_call 68; (with_reducible refine (C2.out _ hn1).mono ?_); rintro e w2' ⟨rfl, hb2⟩; have hn2 := below_then hn1 hb2; have hbb2 := (below_then hbb1 hb2); obtain ⟨j20, j21, j22⟩ := HC.out _ hbb2; clear hb2))
            go_ret
            exact ⟨ret_bool (by rw [HF.out]), below_then HB.out hn2⟩
          | true =>
            have HY := Lib.hid (HYE.out rfl)
            clear HNO HYE
            have hkc : k ≤ c := by omega
            go_upto_region 6 with (first | (go_at_call 64; (with_reducible refine (C0.out _ hnx).mono ?_); rintro e w0' ⟨rfl, hb0⟩; have hn0 := below_then hnx hb0; have hbb0 := hb0; obtain ⟨j00, j01, j02⟩ := HC.out _ hbb0; clear hb0) | (go_at_call 65; (with_reducible refine (C1.out _ hn0).mono ?_); rintro e w1' ⟨rfl, hb1⟩; have hn1 := below_then hn0 hb1; have hbb1 := (below_then hbb0 hb1); obtain ⟨j10, j11, j12⟩ := HC.out _ hbb1; clear hb1) | (go_at_call 68; (with_reducible refine (C2.out _ hn1).mono ?_); rintro e w2' ⟨rfl, hb2⟩; have hn2 := below_then hn1 hb2; have hbb2 := (below_then hbb1 hb2); obtain ⟨j20, j21, j22⟩ := HC.out _ hbb2; clear hb2))
            have HB2 := Lib.hid (below_then HB.out hn2)
            have HX1 := Lib.hid (fun wz (hb : Below w2'.heap.size w2' wz) => (HC.out wz (below_then hbb2 hb)).1)
            clear hn0 hn1 hn2 hbb0 hbb1 hbb2 C0 C1 C2 HC k0 k1 k2 hnx
            try clear j00 j01 j02
            try clear j10 j11 j12
            try clear j20 j21 j22
            obtain ⟨w3, rfl⟩ : ∃ w3, w3 = w2' := ⟨_, rfl⟩
            generalize w0.heap.size = E at *
            go_wp2_with fail
            go_loopw [34] (fun i wr => ∃ j : Nat, j ≤ k ∧ i = .int .i64 (j : Int) ∧ Hid (Below w3.heap.size w3 wr) ∧ Hid (∀ q, q < j → nums (l.getD q exD).1 ≠ nums x1)) (fun i _ => k - (intOf i).toNat)
            case atStart => exact ⟨0, Nat.zero_le _, rfl, Lib.hid (Below.refl _ _), Lib.hid fun _ h => absurd h (Nat.not_lt_zero _)⟩
            case round =>
              obtain ⟨w4, rfl⟩ : ∃ w4, w4 = wr := ⟨_, rfl⟩
              obtain ⟨j, hj, rfl, HB4, HQ⟩ := hrel
              by_cases hlj : j < k
              · have hd2 : decide ((j : Int) < (k : Int)) = true := by simp; omega
                obtain ⟨y, hy, q0, q1, q2⟩ := HAC.out w4 (below_then HB2.out HB4.out) j (by omega)
                have HNE := Lib.hid (fun (h : nums y.1 ≠ nums x1) (q : Nat) (hq : q < j + 1) => (show nums (l.getD q exD).1 ≠ nums x1 from by
                  rcases Nat.lt_or_ge q j with h1 | h1
                  · exact HQ.out q h1
                  · rw [show q = j by omega, hy]; exact h))
                have HOJ := Lib.hid (fun (h : nums y.1 = nums x1) => HOL.out j hlj y hy h)
                clear hy
                obtain ⟨y1, y2, y3⟩ := y
                simp only at q0 q1 q2 HNE HOJ
                have xe := HX1.out (w4.alloc (.cells #[.string y1, .int .i64 y2, .int .i64 y3] 62)) (below_new HB4.out _)
                by_cases hs : nums y1 = nums x1
                · have ds := nums_is hs
                  have HF := Lib.hid (HOJ.out hs)
                  clear HNE HOJ hs
                  go_wp2
                  go_ret
                  exact ⟨ret_bool (by rw [HF.out]), below_then HB2.out (below_new HB4.out _)⟩
                · have ds := nums_ne hs
                  have HNE2 := Lib.hid (HNE.out hs)
                  clear HNE HOJ hs
                  go_wp2
                  go_roundw
                  case rel => exact ⟨j + 1, by omega, by go_num, Lib.hid (below_new HB4.out _), HNE2⟩
                  case measure => simp [intOf]; omega
              · have hd2 : decide ((j : Int) < (k : Int)) = false := by simp; omega
                obtain rfl : j = k := by omega
                have HY2 := Lib.hid (HY.out HQ.out)
                go_wp2
                go_roundw
                case rel => exact ⟨j + 1, by omega, by go_num, Lib.hid (below_then HB2.out HB4.out), HY2⟩
                case measure => simp [intOf]; omega
    · have hd : decide ((k : Int) < (n : Int)) = false := by simp; omega
      obtain rfl : k = n := by omega
      have HF := Lib.hid (exs_yes HN.out HA.out)
      go_wp2
      go_ret
      exact ⟨ret_bool (by rw [HF.out]), HB.out⟩
/-- A module's lists are no longer than the machine's memory. -/
def Few (m : Mdl) : Prop := m.types.length ≤ 281474976710656 ∧ m.imps.length ≤ 281474976710656 ∧ m.funs.length ≤ 281474976710656 ∧ m.mems.length ≤ 281474976710656 ∧ m.globs.length ≤ 281474976710656 ∧ m.exps.length ≤ 281474976710656 ∧ m.datas.length ≤ 281474976710656 ∧ m.cus.length ≤ 281474976710656
set_option maxRecDepth 100000 in
set_option maxHeartbeats 4000000 in
theorem fits_any (w : World) (v : Mv) (m : Mdl) (h : ModAt (fun k => k < w.heap.size) w v m) (hw : Few m) : Calls Tryd.prog 30 #[.agg v.cells] w (BoolPost (fitsB m) w) := by
  obtain ⟨A0, c0, A1, c1, A2, c2, A3, c3, A4, c4, A5, c5, A6, c6, A7, c7, rfl⟩ := mod_slices h
  clear h
  unfold Few at hw
  unfold fitsB
  simp only [Mv.cells]
  generalize m.types.length = n0 at *
  generalize m.imps.length = n1 at *
  generalize m.funs.length = n2 at *
  generalize m.mems.length = n3 at *
  generalize m.globs.length = n4 at *
  generalize m.exps.length = n5 at *
  generalize m.datas.length = n6 at *
  generalize m.cus.length = n7 at *
  obtain ⟨w0, w1, w2, w3, w4, w5, w6, w7⟩ := hw
  have e1 : IntKind.i64.wrap ((n1 : Int) + (n2 : Int)) = (n1 : Int) + (n2 : Int) := IntWalk.i64_in _ (by omega)
  by_cases h0 : n0 ≤ 64
  · rw [decide_eq_true h0]
    have d0 : decide ((n0 : Int) ≤ 64) = true := by simp; omega
    by_cases h1 : n1 + n2 ≤ 256
    · rw [decide_eq_true h1]
      have d1 : decide ((n1 : Int) + (n2 : Int) ≤ 256) = true := by simp; omega
      by_cases h2 : n3 ≤ 4
      · rw [decide_eq_true h2]
        have d2 : decide ((n3 : Int) ≤ 4) = true := by simp; omega
        by_cases h3 : n4 ≤ 256
        · rw [decide_eq_true h3]
          have d3 : decide ((n4 : Int) ≤ 256) = true := by simp; omega
          by_cases h4 : n6 ≤ 16
          · rw [decide_eq_true h4]
            have d4 : decide ((n6 : Int) ≤ 16) = true := by simp; omega
            by_cases h5 : n5 ≤ 256
            · rw [decide_eq_true h5]
              have d5 : decide ((n5 : Int) ≤ 256) = true := by simp; omega
              by_cases h6 : n7 ≤ 16
              · rw [decide_eq_true h6]
                have d6 : decide ((n7 : Int) ≤ 16) = true := by simp; omega
                simp only [Bool.and_true]
                clear w0 w1 w2 w3 w4 w5 w6 w7
                try clear h0
                try clear h1
                try clear h2
                try clear h3
                try clear h4
                try clear h5
                try clear h6
                go_enter Tryd.func30, Tryd.ntmps30
                go_wp2
                go_ret
                exact ⟨ret_bool (by rfl), (Below.refl _ _).alloc (Nat.le_refl _) _⟩
              · rw [decide_eq_false h6]
                have d6 : decide ((n7 : Int) ≤ 16) = false := by simp; omega
                simp only [Bool.and_true, Bool.and_false]
                clear w0 w1 w2 w3 w4 w5 w6 w7
                try clear h0
                try clear h1
                try clear h2
                try clear h3
                try clear h4
                try clear h5
                try clear h6
                go_enter Tryd.func30, Tryd.ntmps30
                go_wp2
                go_ret
                exact ⟨ret_bool (by rfl), (Below.refl _ _).alloc (Nat.le_refl _) _⟩
            · rw [decide_eq_false h5]
              have d5 : decide ((n5 : Int) ≤ 256) = false := by simp; omega
              simp only [Bool.and_true, Bool.and_false, Bool.false_and]
              clear w0 w1 w2 w3 w4 w5 w6 w7
              try clear h0
              try clear h1
              try clear h2
              try clear h3
              try clear h4
              try clear h5
              try clear h6
              go_enter Tryd.func30, Tryd.ntmps30
              go_wp2
              go_ret
              exact ⟨ret_bool (by rfl), (Below.refl _ _).alloc (Nat.le_refl _) _⟩
          · rw [decide_eq_false h4]
            have d4 : decide ((n6 : Int) ≤ 16) = false := by simp; omega
            simp only [Bool.and_true, Bool.and_false, Bool.false_and]
            clear w0 w1 w2 w3 w4 w5 w6 w7
            try clear h0
            try clear h1
            try clear h2
            try clear h3
            try clear h4
            try clear h5
            try clear h6
            go_enter Tryd.func30, Tryd.ntmps30
            go_wp2
            go_ret
            exact ⟨ret_bool (by rfl), (Below.refl _ _).alloc (Nat.le_refl _) _⟩
        · rw [decide_eq_false h3]
          have d3 : decide ((n4 : Int) ≤ 256) = false := by simp; omega
          simp only [Bool.and_true, Bool.and_false, Bool.false_and]
          clear w0 w1 w2 w3 w4 w5 w6 w7
          try clear h0
          try clear h1
          try clear h2
          try clear h3
          try clear h4
          try clear h5
          try clear h6
          go_enter Tryd.func30, Tryd.ntmps30
          go_wp2
          go_ret
          exact ⟨ret_bool (by rfl), (Below.refl _ _).alloc (Nat.le_refl _) _⟩
      · rw [decide_eq_false h2]
        have d2 : decide ((n3 : Int) ≤ 4) = false := by simp; omega
        simp only [Bool.and_true, Bool.and_false, Bool.false_and]
        clear w0 w1 w2 w3 w4 w5 w6 w7
        try clear h0
        try clear h1
        try clear h2
        try clear h3
        try clear h4
        try clear h5
        try clear h6
        go_enter Tryd.func30, Tryd.ntmps30
        go_wp2
        go_ret
        exact ⟨ret_bool (by rfl), (Below.refl _ _).alloc (Nat.le_refl _) _⟩
    · rw [decide_eq_false h1]
      have d1 : decide ((n1 : Int) + (n2 : Int) ≤ 256) = false := by simp; omega
      simp only [Bool.and_false, Bool.false_and]
      clear w0 w1 w2 w3 w4 w5 w6 w7
      try clear h0
      try clear h1
      try clear h2
      try clear h3
      try clear h4
      try clear h5
      try clear h6
      go_enter Tryd.func30, Tryd.ntmps30
      go_wp2
      go_ret
      exact ⟨ret_bool (by rfl), (Below.refl _ _).alloc (Nat.le_refl _) _⟩
  · rw [decide_eq_false h0]
    have d0 : decide ((n0 : Int) ≤ 64) = false := by simp; omega
    simp only [Bool.false_and]
    clear w0 w1 w2 w3 w4 w5 w6 w7
    try clear h0
    try clear h1
    try clear h2
    try clear h3
    try clear h4
    try clear h5
    try clear h6
    go_enter Tryd.func30, Tryd.ntmps30
    go_wp2
    go_ret
    exact ⟨ret_bool (by rfl), (Below.refl _ _).alloc (Nat.le_refl _) _⟩
def RightPost (m : Mdl) (w : World) (e : Ending) (w' : World) : Prop := e = .returned (.int .i64 (rightB m)) ∧ Below w.heap.size w w'
theorem ret_i64 {a b : Int} (h : a = b) : Ending.returned (.int .i64 a) = .returned (.int .i64 b) := by rw [h]
theorem right_full {m : Mdl} (h : fitsB m = false) : rightB m = 13 := by unfold rightB; rw [h]; rfl
theorem right_form {m : Mdl} (h : fitsB m = true) (h2 : partsB m = false) : rightB m = 12 := by unfold rightB; rw [h, h2]; rfl
theorem right_ok {m : Mdl} (h : fitsB m = true) (h2 : partsB m = true) : rightB m = 0 := by unfold rightB; rw [h, h2]; rfl
set_option maxRecDepth 100000 in
set_option maxHeartbeats 4000000 in
theorem right_mod (w : World) (ht : Tab w) (v : Mv) (m : Mdl) (h : ModAt (fun k => k < w.heap.size) w v m) (hw : Few m) : Calls Tryd.prog 21 #[.agg v.cells] w (RightPost m w) := by
  have HK := Lib.hid (fun wz (hb : Below w.heap.size w wz) => (show ModAt (fun k => k < wz.heap.size) wz v m from h.keep (Keeps.below hb fun _ hk => hk) fun _ hk => Nat.lt_of_lt_of_le hk hb.size))
  have HT := Lib.hid (fun wz (hb : Below w.heap.size w wz) => ht.below hb)
  have HFI := Lib.hid (fun wz (hb : Below w.heap.size w wz) => fits_any wz v m (HK.out wz hb) hw)
  have C0 := Lib.hid (fun wz (hb : Below w.heap.size w wz) => rtypes_any (fun k => k < wz.heap.size) wz (fun _ h => h) _ _ (HK.out wz hb).types)
  have C1 := Lib.hid (fun wz (hb : Below w.heap.size w wz) => rimports_any (fun k => k < wz.heap.size) wz (fun _ h => h) (HT.out wz hb) _ _ (HK.out wz hb).imps)
  have C2 := Lib.hid (fun wz (hb : Below w.heap.size w wz) => rfuncs_any (fun k => k < wz.heap.size) wz (fun _ h => h) _ _ (HK.out wz hb).funs)
  have C3 := Lib.hid (fun wz (hb : Below w.heap.size w wz) => rmems_any (fun k => k < wz.heap.size) wz (fun _ h => h) _ _ (HK.out wz hb).mems)
  have C4 := Lib.hid (fun wz (hb : Below w.heap.size w wz) => rglobs_any (fun k => k < wz.heap.size) wz (fun _ h => h) _ _ (HK.out wz hb).globs)
  have C5 := Lib.hid (fun wz (hb : Below w.heap.size w wz) => rexports_any (fun k => k < wz.heap.size) wz (fun _ h => h) (HT.out wz hb) _ _ (HK.out wz hb).exps)
  have C6 := Lib.hid (fun wz (hb : Below w.heap.size w wz) => rdatas_any (fun k => k < wz.heap.size) wz (fun _ h => h) _ _ (HK.out wz hb).datas)
  have C7 := Lib.hid (fun wz (hb : Below w.heap.size w wz) => rcustoms_any (fun k => k < wz.heap.size) wz (fun _ h => h) (HT.out wz hb) _ _ (HK.out wz hb).cus)
  have HP : Hid (partsB m = (m.types.all typB && m.imps.all impB && m.funs.all fncB && m.mems.all memB && m.globs.all globB && exsB m.exps && m.datas.all datB && m.cus.all cusB)) := Lib.hid rfl
  have HR1 := Lib.hid (right_full (m := m))
  have HR2 := Lib.hid (right_form (m := m))
  have HR3 := Lib.hid (right_ok (m := m))
  generalize m.types.all typB = b0 at C0 HP
  generalize m.imps.all impB = b1 at C1 HP
  generalize m.funs.all fncB = b2 at C2 HP
  generalize m.mems.all memB = b3 at C3 HP
  generalize m.globs.all globB = b4 at C4 HP
  generalize exsB m.exps = b5 at C5 HP
  generalize m.datas.all datB = b6 at C6 HP
  generalize m.cus.all cusB = b7 at C7 HP
  generalize fitsB m = bf at HFI HR1 HR2 HR3
  rw [HP.out] at HR2 HR3
  clear HP HT hw ht
  unfold RightPost
  generalize rightB m = R at HR1 HR2 HR3 ⊢
  obtain ⟨A0, c0, A1, c1, A2, c2, A3, c3, A4, c4, A5, c5, A6, c6, A7, c7, rfl⟩ := mod_slices h
  simp only at C0 C1 C2 C3 C4 C5 C6 C7
  simp only [Mv.cells] at HFI ⊢
  clear h HK
  generalize m.types.length = n0 at *
  generalize m.imps.length = n1 at *
  generalize m.funs.length = n2 at *
  generalize m.mems.length = n3 at *
  generalize m.globs.length = n4 at *
  generalize m.exps.length = n5 at *
  generalize m.datas.length = n6 at *
  generalize m.cus.length = n7 at *
  have hb0 := (Below.refl w.heap.size w).alloc (Nat.le_refl _) (.cells #[.slice A0 n0 c0, .slice A1 n1 c1, .slice A2 n2 c2, .slice A3 n3 c3, .slice A4 n4 c4, .slice A5 n5 c5, .slice A6 n6 c6, .slice A7 n7 c7] 32)
  have HB0 := Lib.hid hb0
  have HQ := Lib.hid (HFI.out _ hb0)
  have HBX := Lib.hid (fun wz hb => box8_new w (.slice A0 n0 c0) (.slice A1 n1 c1) (.slice A2 n2 c2) (.slice A3 n3 c3) (.slice A4 n4 c4) (.slice A5 n5 c5) (.slice A6 n6 c6) (.slice A7 n7 c7) (wz := wz) hb)
  clear hb0 HFI
  go_enter Tryd.func21, Tryd.ntmps21
  go_wp2_with fail
  obtain ⟨w1, hw1⟩ : ∃ w1, w1 = w.alloc (.cells #[.slice A0 n0 c0, .slice A1 n1 c1, .slice A2 n2 c2, .slice A3 n3 c3, .slice A4 n4 c4, .slice A5 n5 c5, .slice A6 n6 c6, .slice A7 n7 c7] 32) := ⟨_, rfl⟩
  rw [← hw1] at HB0 HQ HBX ⊢
  clear hw1
  go_at_call 30
  refine HQ.out.mono ?_
  rintro e w2 ⟨rfl, hb2⟩
  obtain ⟨x0, x1, x2, x3, x4, x5, x6, x7⟩ := HBX.out w2 hb2
  have HB12 := Lib.hid hb2
  have hq := below_then HB0.out hb2
  have HB2 := Lib.hid hq
  clear hb2 HQ
  cases bf with
  | false =>
    have HR := Lib.hid (HR1.out rfl)
    clear HR1 HR2 HR3
    go_wp2
    go_ret
    exact ⟨ret_i64 (by rw [HR.out]), HB2.out⟩
  | true =>
    cases b0 with
    | false =>
      have HR := Lib.hid (HR2.out rfl (by rfl))
      clear HR1 HR2 HR3
      go_wp2_with (go_at_call 31; (with_reducible refine (C0.out _ hq).mono ?_); rintro e y0 ⟨rfl, hb0⟩; have hq0 := below_then hq hb0; have hx0 := below_then (HB12.out) hb0; obtain ⟨z00, z01, z02, z03, z04, z05, z06, z07⟩ := HBX.out _ hx0; clear hb0)
      go_ret
      exact ⟨ret_i64 (by rw [HR.out]), hq0⟩
    | true =>
      cases b1 with
      | false =>
        have HR := Lib.hid (HR2.out rfl (by rfl))
        clear HR1 HR2 HR3
        go_wp2_with (first | (go_at_call 31; (with_reducible refine (C0.out _ hq).mono ?_); rintro e y0 ⟨rfl, hb0⟩; have hq0 := below_then hq hb0; have hx0 := below_then (HB12.out) hb0; obtain ⟨z00, z01, z02, z03, z04, z05, z06, z07⟩ := HBX.out _ hx0; clear hb0) | (go_at_call 32; (with_reducible refine (C1.out _ hq0).mono ?_); rintro e y1 ⟨rfl, hb1⟩; have hq1 := below_then hq0 hb1; have hx1 := below_then (hx0) hb1; obtain ⟨z10, z11, z12, z13, z14, z15, z16, z17⟩ := HBX.out _ hx1; clear hb1))
        go_ret
        exact ⟨ret_i64 (by rw [HR.out]), hq1⟩
      | true =>
        cases b2 with
        | false =>
          have HR := Lib.hid (HR2.out rfl (by rfl))
          clear HR1 HR2 HR3
          go_wp2_with (first | (go_at_call 31; (with_reducible refine (C0.out _ hq).mono ?_); rintro e y0 ⟨rfl, hb0⟩; have hq0 := below_then hq hb0; have hx0 := below_then (HB12.out) hb0; obtain ⟨z00, z01, z02, z03, z04, z05, z06, z07⟩ := HBX.out _ hx0; clear hb0) | (go_at_call 32; (with_reducible refine (C1.out _ hq0).mono ?_); rintro e y1 ⟨rfl, hb1⟩; have hq1 := below_then hq0 hb1; have hx1 := below_then (hx0) hb1; obtain ⟨z10, z11, z12, z13, z14, z15, z16, z17⟩ := HBX.out _ hx1; clear hb1) | (go_at_call 33; (with_reducible refine (C2.out _ hq1).mono ?_); rintro e y2 ⟨rfl, hb2⟩; have hq2 := below_then hq1 hb2; have hx2 := below_then (hx1) hb2; obtain ⟨z20, z21, z22, z23, z24, z25, z26, z27⟩ := HBX.out _ hx2; clear hb2))
          go_ret
          exact ⟨ret_i64 (by rw [HR.out]), hq2⟩
        | true =>
          cases b3 with
          | false =>
            have HR := Lib.hid (HR2.out rfl (by rfl))
            clear HR1 HR2 HR3
            go_wp2_with (first | (go_at_call 31; (with_reducible refine (C0.out _ hq).mono ?_); rintro e y0 ⟨rfl, hb0⟩; have hq0 := below_then hq hb0; have hx0 := below_then (HB12.out) hb0; obtain ⟨z00, z01, z02, z03, z04, z05, z06, z07⟩ := HBX.out _ hx0; clear hb0) | (go_at_call 32; (with_reducible refine (C1.out _ hq0).mono ?_); rintro e y1 ⟨rfl, hb1⟩; have hq1 := below_then hq0 hb1; have hx1 := below_then (hx0) hb1; obtain ⟨z10, z11, z12, z13, z14, z15, z16, z17⟩ := HBX.out _ hx1; clear hb1) | (go_at_call 33; (with_reducible refine (C2.out _ hq1).mono ?_); rintro e y2 ⟨rfl, hb2⟩; have hq2 := below_then hq1 hb2; have hx2 := below_then (hx1) hb2; obtain ⟨z20, z21, z22, z23, z24, z25, z26, z27⟩ := HBX.out _ hx2; clear hb2) | (go_at_call 34; (with_reducible refine (C3.out _ hq2).mono ?_); rintro e y3 ⟨rfl, hb3⟩; have hq3 := below_then hq2 hb3; have hx3 := below_then (hx2) hb3; obtain ⟨z30, z31, z32, z33, z34, z35, z36, z37⟩ := HBX.out _ hx3; clear hb3))
            go_ret
            exact ⟨ret_i64 (by rw [HR.out]), hq3⟩
          | true =>
            cases b4 with
            | false =>
              have HR := Lib.hid (HR2.out rfl (by rfl))
              clear HR1 HR2 HR3
              go_wp2_with (first | (go_at_call 31; (with_reducible refine (C0.out _ hq).mono ?_); rintro e y0 ⟨rfl, hb0⟩; have hq0 := below_then hq hb0; have hx0 := below_then (HB12.out) hb0; obtain ⟨z00, z01, z02, z03, z04, z05, z06, z07⟩ := HBX.out _ hx0; clear hb0) | (go_at_call 32; (with_reducible refine (C1.out _ hq0).mono ?_); rintro e y1 ⟨rfl, hb1⟩; have hq1 := below_then hq0 hb1; have hx1 := below_then (hx0) hb1; obtain ⟨z10, z11, z12, z13, z14, z15, z16, z17⟩ := HBX.out _ hx1; clear hb1) | (go_at_call 33; (with_reducible refine (C2.out _ hq1).mono ?_); rintro e y2 ⟨rfl, hb2⟩; have hq2 := below_then hq1 hb2; have hx2 := below_then (hx1) hb2; obtain ⟨z20, z21, z22, z23, z24, z25, z26, z27⟩ := HBX.out _ hx2; clear hb2) | (go_at_call 34; (with_reducible refine (C3.out _ hq2).mono ?_); rintro e y3 ⟨rfl, hb3⟩; have hq3 := below_then hq2 hb3; have hx3 := below_then (hx2) hb3; obtain ⟨z30, z31, z32, z33, z34, z35, z36, z37⟩ := HBX.out _ hx3; clear hb3) | (go_at_call 35; (with_reducible refine (C4.out _ hq3).mono ?_); rintro e y4 ⟨rfl, hb4⟩; have hq4 := below_then hq3 hb4; have hx4 := below_then (hx3) hb4; obtain ⟨z40, z41, z42, z43, z44, z45, z46, z47⟩ := HBX.out _ hx4; clear hb4))
              go_ret
              exact ⟨ret_i64 (by rw [HR.out]), hq4⟩
            | true =>
              cases b5 with
              | false =>
                have HR := Lib.hid (HR2.out rfl (by rfl))
                clear HR1 HR2 HR3
                go_wp2_with (first | (go_at_call 31; (with_reducible refine (C0.out _ hq).mono ?_); rintro e y0 ⟨rfl, hb0⟩; have hq0 := below_then hq hb0; have hx0 := below_then (HB12.out) hb0; obtain ⟨z00, z01, z02, z03, z04, z05, z06, z07⟩ := HBX.out _ hx0; clear hb0) | (go_at_call 32; (with_reducible refine (C1.out _ hq0).mono ?_); rintro e y1 ⟨rfl, hb1⟩; have hq1 := below_then hq0 hb1; have hx1 := below_then (hx0) hb1; obtain ⟨z10, z11, z12, z13, z14, z15, z16, z17⟩ := HBX.out _ hx1; clear hb1) | (go_at_call 33; (with_reducible refine (C2.out _ hq1).mono ?_); rintro e y2 ⟨rfl, hb2⟩; have hq2 := below_then hq1 hb2; have hx2 := below_then (hx1) hb2; obtain ⟨z20, z21, z22, z23, z24, z25, z26, z27⟩ := HBX.out _ hx2; clear hb2) | (go_at_call 34; (with_reducible refine (C3.out _ hq2).mono ?_); rintro e y3 ⟨rfl, hb3⟩; have hq3 := below_then hq2 hb3; have hx3 := below_then (hx2) hb3; obtain ⟨z30, z31, z32, z33, z34, z35, z36, z37⟩ := HBX.out _ hx3; clear hb3) | (go_at_call 35; (with_reducible refine (C4.out _ hq3).mono ?_); rintro e y4 ⟨rfl, hb4⟩; have hq4 := below_then hq3 hb4; have hx4 := below_then (hx3) hb4; obtain ⟨z40, z41, z42, z43, z44, z45, z46, z47⟩ := HBX.out _ hx4; clear hb4) | (go_at_call 36; (with_reducible refine (C5.out _ hq4).mono ?_); rintro e y5 ⟨rfl, hb5⟩; have hq5 := below_then hq4 hb5; have hx5 := below_then (hx4) hb5; obtain ⟨z50, z51, z52, z53, z54, z55, z56, z57⟩ := HBX.out _ hx5; clear hb5))
                go_ret
                exact ⟨ret_i64 (by rw [HR.out]), hq5⟩
              | true =>
                cases b6 with
                | false =>
                  have HR := Lib.hid (HR2.out rfl (by rfl))
                  clear HR1 HR2 HR3
                  go_wp2_with (first | (go_at_call 31; (with_reducible refine (C0.out _ hq).mono ?_); rintro e y0 ⟨rfl, hb0⟩; have hq0 := below_then hq hb0; have hx0 := below_then (HB12.out) hb0; obtain ⟨z00, z01, z02, z03, z04, z05, z06, z07⟩ := HBX.out _ hx0; clear hb0) | (go_at_call 32; (with_reducible refine (C1.out _ hq0).mono ?_); rintro e y1 ⟨rfl, hb1⟩; have hq1 := below_then hq0 hb1; have hx1 := below_then (hx0) hb1; obtain ⟨z10, z11, z12, z13, z14, z15, z16, z17⟩ := HBX.out _ hx1; clear hb1) | (go_at_call 33; (with_reducible refine (C2.out _ hq1).mono ?_); rintro e y2 ⟨rfl, hb2⟩; have hq2 := below_then hq1 hb2; have hx2 := below_then (hx1) hb2; obtain ⟨z20, z21, z22, z23, z24, z25, z26, z27⟩ := HBX.out _ hx2; clear hb2) | (go_at_call 34; (with_reducible refine (C3.out _ hq2).mono ?_); rintro e y3 ⟨rfl, hb3⟩; have hq3 := below_then hq2 hb3; have hx3 := below_then (hx2) hb3; obtain ⟨z30, z31, z32, z33, z34, z35, z36, z37⟩ := HBX.out _ hx3; clear hb3) | (go_at_call 35; (with_reducible refine (C4.out _ hq3).mono ?_); rintro e y4 ⟨rfl, hb4⟩; have hq4 := below_then hq3 hb4; have hx4 := below_then (hx3) hb4; obtain ⟨z40, z41, z42, z43, z44, z45, z46, z47⟩ := HBX.out _ hx4; clear hb4) | (go_at_call 36; (with_reducible refine (C5.out _ hq4).mono ?_); rintro e y5 ⟨rfl, hb5⟩; have hq5 := below_then hq4 hb5; have hx5 := below_then (hx4) hb5; obtain ⟨z50, z51, z52, z53, z54, z55, z56, z57⟩ := HBX.out _ hx5; clear hb5) | (go_at_call 37; (with_reducible refine (C6.out _ hq5).mono ?_); rintro e y6 ⟨rfl, hb6⟩; have hq6 := below_then hq5 hb6; have hx6 := below_then (hx5) hb6; obtain ⟨z60, z61, z62, z63, z64, z65, z66, z67⟩ := HBX.out _ hx6; clear hb6))
                  go_ret
                  exact ⟨ret_i64 (by rw [HR.out]), hq6⟩
                | true =>
                  cases b7 with
                  | false =>
                    have HR := Lib.hid (HR2.out rfl (by rfl))
                    clear HR1 HR2 HR3
                    go_wp2_with (first | (go_at_call 31; (with_reducible refine (C0.out _ hq).mono ?_); rintro e y0 ⟨rfl, hb0⟩; have hq0 := below_then hq hb0; have hx0 := below_then (HB12.out) hb0; obtain ⟨z00, z01, z02, z03, z04, z05, z06, z07⟩ := HBX.out _ hx0; clear hb0) | (go_at_call 32; (with_reducible refine (C1.out _ hq0).mono ?_); rintro e y1 ⟨rfl, hb1⟩; have hq1 := below_then hq0 hb1; have hx1 := below_then (hx0) hb1; obtain ⟨z10, z11, z12, z13, z14, z15, z16, z17⟩ := HBX.out _ hx1; clear hb1) | (go_at_call 33; (with_reducible refine (C2.out _ hq1).mono ?_); rintro e y2 ⟨rfl, hb2⟩; have hq2 := below_then hq1 hb2; have hx2 := below_then (hx1) hb2; obtain ⟨z20, z21, z22, z23, z24, z25, z26, z27⟩ := HBX.out _ hx2; clear hb2) | (go_at_call 34; (with_reducible refine (C3.out _ hq2).mono ?_); rintro e y3 ⟨rfl, hb3⟩; have hq3 := below_then hq2 hb3; have hx3 := below_then (hx2) hb3; obtain ⟨z30, z31, z32, z33, z34, z35, z36, z37⟩ := HBX.out _ hx3; clear hb3) | (go_at_call 35; (with_reducible refine (C4.out _ hq3).mono ?_); rintro e y4 ⟨rfl, hb4⟩; have hq4 := below_then hq3 hb4; have hx4 := below_then (hx3) hb4; obtain ⟨z40, z41, z42, z43, z44, z45, z46, z47⟩ := HBX.out _ hx4; clear hb4) | (go_at_call 36; (with_reducible refine (C5.out _ hq4).mono ?_); rintro e y5 ⟨rfl, hb5⟩; have hq5 := below_then hq4 hb5; have hx5 := below_then (hx4) hb5; obtain ⟨z50, z51, z52, z53, z54, z55, z56, z57⟩ := HBX.out _ hx5; clear hb5) | (go_at_call 37; (with_reducible refine (C6.out _ hq5).mono ?_); rintro e y6 ⟨rfl, hb6⟩; have hq6 := below_then hq5 hb6; have hx6 := below_then (hx5) hb6; obtain ⟨z60, z61, z62, z63, z64, z65, z66, z67⟩ := HBX.out _ hx6; clear hb6) | (go_at_call 38; (with_reducible refine (C7.out _ hq6).mono ?_); rintro e y7 ⟨rfl, hb7⟩; have hq7 := below_then hq6 hb7; have hx7 := below_then (hx6) hb7; obtain ⟨z70, z71, z72, z73, z74, z75, z76, z77⟩ := HBX.out _ hx7; clear hb7))
                    go_ret
                    exact ⟨ret_i64 (by rw [HR.out]), hq7⟩
                  | true =>
                    have HR := Lib.hid (HR3.out rfl (by rfl))
                    clear HR1 HR2 HR3
                    go_wp2_with (first | (go_at_call 31; (with_reducible refine (C0.out _ hq).mono ?_); rintro e y0 ⟨rfl, hb0⟩; have hq0 := below_then hq hb0; have hx0 := below_then (HB12.out) hb0; obtain ⟨z00, z01, z02, z03, z04, z05, z06, z07⟩ := HBX.out _ hx0; clear hb0) | (go_at_call 32; (with_reducible refine (C1.out _ hq0).mono ?_); rintro e y1 ⟨rfl, hb1⟩; have hq1 := below_then hq0 hb1; have hx1 := below_then (hx0) hb1; obtain ⟨z10, z11, z12, z13, z14, z15, z16, z17⟩ := HBX.out _ hx1; clear hb1) | (go_at_call 33; (with_reducible refine (C2.out _ hq1).mono ?_); rintro e y2 ⟨rfl, hb2⟩; have hq2 := below_then hq1 hb2; have hx2 := below_then (hx1) hb2; obtain ⟨z20, z21, z22, z23, z24, z25, z26, z27⟩ := HBX.out _ hx2; clear hb2) | (go_at_call 34; (with_reducible refine (C3.out _ hq2).mono ?_); rintro e y3 ⟨rfl, hb3⟩; have hq3 := below_then hq2 hb3; have hx3 := below_then (hx2) hb3; obtain ⟨z30, z31, z32, z33, z34, z35, z36, z37⟩ := HBX.out _ hx3; clear hb3) | (go_at_call 35; (with_reducible refine (C4.out _ hq3).mono ?_); rintro e y4 ⟨rfl, hb4⟩; have hq4 := below_then hq3 hb4; have hx4 := below_then (hx3) hb4; obtain ⟨z40, z41, z42, z43, z44, z45, z46, z47⟩ := HBX.out _ hx4; clear hb4) | (go_at_call 36; (with_reducible refine (C5.out _ hq4).mono ?_); rintro e y5 ⟨rfl, hb5⟩; have hq5 := below_then hq4 hb5; have hx5 := below_then (hx4) hb5; obtain ⟨z50, z51, z52, z53, z54, z55, z56, z57⟩ := HBX.out _ hx5; clear hb5) | (go_at_call 37; (with_reducible refine (C6.out _ hq5).mono ?_); rintro e y6 ⟨rfl, hb6⟩; have hq6 := below_then hq5 hb6; have hx6 := below_then (hx5) hb6; obtain ⟨z60, z61, z62, z63, z64, z65, z66, z67⟩ := HBX.out _ hx6; clear hb6) | (go_at_call 38; (with_reducible refine (C7.out _ hq6).mono ?_); rintro e y7 ⟨rfl, hb7⟩; have hq7 := below_then hq6 hb7; have hx7 := below_then (hx6) hb7; obtain ⟨z70, z71, z72, z73, z74, z75, z76, z77⟩ := HBX.out _ hx7; clear hb7))
                    go_ret
                    exact ⟨ret_i64 (by rw [HR.out]), hq7⟩
end Go.Proofs.YtinljaobdnkifaaDoor
namespace Go.Proofs.YtinljaobdnkifaaDoor
open Go.RowKit

def m00 : Mdl := ⟨[], [], [], [], [], [], [], []⟩
def v00 : Mv := ⟨.slice none 0 0, .slice none 0 0, .slice none 0 0, .slice none 0 0, .slice none 0 0, .slice none 0 0, .slice none 0 0, .slice none 0 0⟩
theorem cellsK_nil (K : Nat → Prop) (w : World) (size : Nat) (f : Nat → Nat → Value → Prop) : CellsK K w (.slice none 0 0) 0 size f := ⟨none, 0, rfl, Nat.le_refl _, Nat.zero_le _, fun _ => rfl, fun h => absurd h (Nat.lt_irrefl _)⟩
theorem at00 (K : Nat → Prop) (w : World) : ModAt K w v00 m00 := ⟨cellsK_nil _ _ _ _, cellsK_nil _ _ _ _, cellsK_nil _ _ _ _, cellsK_nil _ _ _ _, cellsK_nil _ _ _ _, cellsK_nil _ _ _ _, cellsK_nil _ _ _ _, cellsK_nil _ _ _ _⟩
def m22 : Mdl := ⟨[], [], [], [], [], [(⟨#[97]⟩, 0, 0), (⟨#[97]⟩, 0, 0)], [], []⟩
def v22 (g : Nat) : Mv := ⟨.slice none 0 0, .slice none 0 0, .slice none 0 0, .slice none 0 0, .slice none 0 0, .slice (some ⟨g, 0, none⟩) 2 2, .slice none 0 0, .slice none 0 0⟩
/-- The two exports lie at g. -/
def Two6 (w : World) (g : Nat) : Prop := w.cell? ⟨g, 0, none⟩ = some (.string ⟨#[97]⟩) ∧ w.cell? ⟨g, 1, none⟩ = some (.int .i64 0) ∧ w.cell? ⟨g, 2, none⟩ = some (.int .i64 0) ∧ w.cell? ⟨g, 3, none⟩ = some (.string ⟨#[97]⟩) ∧ w.cell? ⟨g, 4, none⟩ = some (.int .i64 0) ∧ w.cell? ⟨g, 5, none⟩ = some (.int .i64 0)
theorem Two6.below {w w' : World} {g : Nat} (h : Two6 w g) (hb : Below w.heap.size w w') : Two6 w' g := by
  have hg := World.block_lt_of_cell? _ _ h.1
  have hc : ∀ i, w'.cell? ⟨g, i, none⟩ = w.cell? ⟨g, i, none⟩ := fun i => hb.cell (p := ⟨g, i, none⟩) hg
  unfold Two6
  simp only [hc]
  exact h
theorem Two6.new (w : World) : Two6 (w.alloc (.cells #[.string ⟨#[97]⟩, .int .i64 0, .int .i64 0, .string ⟨#[97]⟩, .int .i64 0, .int .i64 0] 62)) w.heap.size := by
  have h := fun i => World.cell?_alloc_new w #[.string ⟨#[97]⟩, .int .i64 0, .int .i64 0, .string ⟨#[97]⟩, .int .i64 0, .int .i64 0] 62 i
  exact ⟨h 0, h 1, h 2, h 3, h 4, h 5⟩
theorem at22 (w : World) (g : Nat) (h : Two6 w g) : ModAt (fun k => k < w.heap.size) w (v22 g) m22 := by
  refine ⟨cellsK_nil _ _ _ _, cellsK_nil _ _ _ _, cellsK_nil _ _ _ _, cellsK_nil _ _ _ _, cellsK_nil _ _ _ _, ?_, cellsK_nil _ _ _ _, cellsK_nil _ _ _ _⟩
  refine ⟨_, 2, rfl, Nat.le_refl _, by unfold maxLen; omega, (fun h => by cases h), fun _ => ⟨g, 0, rfl, World.block_lt_of_cell? _ _ h.1, fun j i hj hi => ?_⟩⟩
  have hj2 : j < 2 := hj
  rcases (show (j = 0 ∨ j = 1) ∧ (i = 0 ∨ i = 1 ∨ i = 2) by omega) with ⟨rfl | rfl, rfl | rfl | rfl⟩
  · exact ⟨_, h.1, rfl⟩
  · exact ⟨_, h.2.1, rfl⟩
  · exact ⟨_, h.2.2.1, rfl⟩
  · exact ⟨_, h.2.2.2.1, rfl⟩
  · exact ⟨_, h.2.2.2.2.1, rfl⟩
  · exact ⟨_, h.2.2.2.2.2, rfl⟩
set_option maxRecDepth 100000 in
theorem sameTypes_nil (w : World) : Calls Tryd.prog 43 #[.slice none 0 0, .slice none 0 0] w (BoolPost true w) := by
  go_enter Tryd.func43, Tryd.ntmps43
  go_wp2_with fail
  go_loopw [14] (fun i wr => i = .int .i64 0 ∧ wr = w) (fun _ _ => 0)
  case atStart => exact ⟨rfl, rfl⟩
  case round =>
    obtain ⟨rfl, rfl⟩ := hrel
    go_wp2
    go_ret
    exact ⟨rfl, Below.refl _ _⟩
set_option maxRecDepth 100000 in
theorem equalImp_nil (w : World) : Calls Tryd.prog 44 #[.slice none 0 0, .slice none 0 0] w (BoolPost true w) := by
  go_enter Tryd.func44, Tryd.ntmps44
  go_wp2_with fail
  go_loopw [13] (fun i wr => i = .int .i64 0 ∧ wr = w) (fun _ _ => 0)
  case atStart => exact ⟨rfl, rfl⟩
  case round =>
    obtain ⟨rfl, rfl⟩ := hrel
    go_wp2
    go_ret
    exact ⟨rfl, Below.refl _ _⟩
set_option maxRecDepth 100000 in
theorem sameFuncs_nil (w : World) : Calls Tryd.prog 45 #[.slice none 0 0, .slice none 0 0] w (BoolPost true w) := by
  go_enter Tryd.func45, Tryd.ntmps45
  go_wp2_with fail
  go_loopw [14] (fun i wr => i = .int .i64 0 ∧ wr = w) (fun _ _ => 0)
  case atStart => exact ⟨rfl, rfl⟩
  case round =>
    obtain ⟨rfl, rfl⟩ := hrel
    go_wp2
    go_ret
    exact ⟨rfl, Below.refl _ _⟩
set_option maxRecDepth 100000 in
theorem equalMem_nil (w : World) : Calls Tryd.prog 46 #[.slice none 0 0, .slice none 0 0] w (BoolPost true w) := by
  go_enter Tryd.func46, Tryd.ntmps46
  go_wp2_with fail
  go_loopw [13] (fun i wr => i = .int .i64 0 ∧ wr = w) (fun _ _ => 0)
  case atStart => exact ⟨rfl, rfl⟩
  case round =>
    obtain ⟨rfl, rfl⟩ := hrel
    go_wp2
    go_ret
    exact ⟨rfl, Below.refl _ _⟩
set_option maxRecDepth 100000 in
theorem equalGlob_nil (w : World) : Calls Tryd.prog 47 #[.slice none 0 0, .slice none 0 0] w (BoolPost true w) := by
  go_enter Tryd.func47, Tryd.ntmps47
  go_wp2_with fail
  go_loopw [13] (fun i wr => i = .int .i64 0 ∧ wr = w) (fun _ _ => 0)
  case atStart => exact ⟨rfl, rfl⟩
  case round =>
    obtain ⟨rfl, rfl⟩ := hrel
    go_wp2
    go_ret
    exact ⟨rfl, Below.refl _ _⟩
set_option maxRecDepth 100000 in
theorem sameDatas_nil (w : World) : Calls Tryd.prog 49 #[.slice none 0 0, .slice none 0 0] w (BoolPost true w) := by
  go_enter Tryd.func49, Tryd.ntmps49
  go_wp2_with fail
  go_loopw [15] (fun i wr => i = .int .i64 0 ∧ wr = w) (fun _ _ => 0)
  case atStart => exact ⟨rfl, rfl⟩
  case round =>
    obtain ⟨rfl, rfl⟩ := hrel
    go_wp2
    go_ret
    exact ⟨rfl, Below.refl _ _⟩
set_option maxRecDepth 100000 in
theorem sameCustoms_nil (w : World) : Calls Tryd.prog 50 #[.slice none 0 0, .slice none 0 0] w (BoolPost true w) := by
  go_enter Tryd.func50, Tryd.ntmps50
  go_wp2_with fail
  go_loopw [14] (fun i wr => i = .int .i64 0 ∧ wr = w) (fun _ _ => 0)
  case atStart => exact ⟨rfl, rfl⟩
  case round =>
    obtain ⟨rfl, rfl⟩ := hrel
    go_wp2
    go_ret
    exact ⟨rfl, Below.refl _ _⟩
theorem neq_ex (w : World) : (binOp .neq 62 (.agg #[.string ⟨#[97]⟩, .int .i64 0, .int .i64 0]) (.agg #[.string ⟨#[97]⟩, .int .i64 0, .int .i64 0])).run Tryd.prog w = .ok (.bool false) w := by kernel_rfl
set_option maxRecDepth 100000 in
set_option maxHeartbeats 1000000 in
theorem equalEx_22 (w : World) (g : Nat) (h : Two6 w g) : Calls Tryd.prog 48 #[.slice (some ⟨g, 0, none⟩) 2 2, .slice (some ⟨g, 0, none⟩) 2 2] w (BoolPost true w) := by
  have H := Lib.hid h
  clear h
  go_enter Tryd.func48, Tryd.ntmps48
  go_wp2_with fail
  go_loopw [13] (fun i wr => (i = .int .i64 0 ∨ i = .int .i64 1 ∨ i = .int .i64 2) ∧ Hid (Below w.heap.size w wr)) (fun i _ => 2 - (intOf i).toNat)
  case atStart => exact ⟨.inl rfl, Lib.hid (Below.refl _ _)⟩
  case round =>
    obtain ⟨hi, HB⟩ := hrel
    obtain ⟨w1, rfl⟩ : ∃ w1, w1 = wr := ⟨_, rfl⟩
    obtain ⟨c0, c1, c2, c3, c4, c5⟩ := H.out.below HB.out
    have hnq := fun w => neq_ex w
    rcases hi with rfl | rfl | rfl
    · go_wp2_with fail
      go_quiet (fail)
      have HBQ := Lib.hid (below_drewN HB.out nq)
      go_wp2
      go_roundw
      case rel => exact ⟨.inr (.inl rfl), HBQ⟩
      case measure => simp [intOf]
    · go_wp2_with fail
      go_quiet (fail)
      have HBQ := Lib.hid (below_drewN HB.out nq)
      go_wp2
      go_roundw
      case rel => exact ⟨.inr (.inr rfl), HBQ⟩
      case measure => simp [intOf]
    · go_wp2
      go_ret
      exact ⟨rfl, HB.out⟩
theorem equalEx_20 (w : World) (g : Nat) : Calls Tryd.prog 48 #[.slice (some ⟨g, 0, none⟩) 2 2, .slice none 0 0] w (BoolPost false w) := by
  go_enter Tryd.func48, Tryd.ntmps48
  go_wp2
  go_ret
  exact ⟨rfl, Below.refl _ _⟩
set_option maxRecDepth 100000 in
set_option maxHeartbeats 2000000 in
theorem same_22 (w : World) (g : Nat) (h : Two6 w g) : Calls Tryd.prog 23 #[.agg (v22 g).cells, .agg (v22 g).cells] w (BoolPost true w) := by
  have hb0 := (Below.refl w.heap.size w).alloc (Nat.le_refl _) (.cells #[.slice none 0 0, .slice none 0 0, .slice none 0 0, .slice none 0 0, .slice none 0 0, .slice (some ⟨g, 0, none⟩) 2 2, .slice none 0 0, .slice none 0 0] 32)
  have hb1 := hb0.alloc (by simp) (.cells #[.slice none 0 0, .slice none 0 0, .slice none 0 0, .slice none 0 0, .slice none 0 0, .slice (some ⟨g, 0, none⟩) 2 2, .slice none 0 0, .slice none 0 0] 32)
  have HT := Lib.hid (fun wz (hb : Below ((w.alloc (.cells #[.slice none 0 0, .slice none 0 0, .slice none 0 0, .slice none 0 0, .slice none 0 0, .slice (some ⟨g, 0, none⟩) 2 2, .slice none 0 0, .slice none 0 0] 32)).alloc (.cells #[.slice none 0 0, .slice none 0 0, .slice none 0 0, .slice none 0 0, .slice none 0 0, .slice (some ⟨g, 0, none⟩) 2 2, .slice none 0 0, .slice none 0 0] 32)).heap.size ((w.alloc (.cells #[.slice none 0 0, .slice none 0 0, .slice none 0 0, .slice none 0 0, .slice none 0 0, .slice (some ⟨g, 0, none⟩) 2 2, .slice none 0 0, .slice none 0 0] 32)).alloc (.cells #[.slice none 0 0, .slice none 0 0, .slice none 0 0, .slice none 0 0, .slice none 0 0, .slice (some ⟨g, 0, none⟩) 2 2, .slice none 0 0, .slice none 0 0] 32)) wz) => (h.below hb1).below hb)
  have HC : Hid (∀ wz, Below ((w.alloc (.cells #[.slice none 0 0, .slice none 0 0, .slice none 0 0, .slice none 0 0, .slice none 0 0, .slice (some ⟨g, 0, none⟩) 2 2, .slice none 0 0, .slice none 0 0] 32)).alloc (.cells #[.slice none 0 0, .slice none 0 0, .slice none 0 0, .slice none 0 0, .slice none 0 0, .slice (some ⟨g, 0, none⟩) 2 2, .slice none 0 0, .slice none 0 0] 32)).heap.size ((w.alloc (.cells #[.slice none 0 0, .slice none 0 0, .slice none 0 0, .slice none 0 0, .slice none 0 0, .slice (some ⟨g, 0, none⟩) 2 2, .slice none 0 0, .slice none 0 0] 32)).alloc (.cells #[.slice none 0 0, .slice none 0 0, .slice none 0 0, .slice none 0 0, .slice none 0 0, .slice (some ⟨g, 0, none⟩) 2 2, .slice none 0 0, .slice none 0 0] 32)) wz → wz.cell? ⟨w.heap.size, 0, none⟩ = some (.slice none 0 0) ∧ wz.cell? ⟨w.heap.size, 1, none⟩ = some (.slice none 0 0) ∧ wz.cell? ⟨w.heap.size, 2, none⟩ = some (.slice none 0 0) ∧ wz.cell? ⟨w.heap.size, 3, none⟩ = some (.slice none 0 0) ∧ wz.cell? ⟨w.heap.size, 4, none⟩ = some (.slice none 0 0) ∧ wz.cell? ⟨w.heap.size, 5, none⟩ = some (.slice (some ⟨g, 0, none⟩) 2 2) ∧ wz.cell? ⟨w.heap.size, 6, none⟩ = some (.slice none 0 0) ∧ wz.cell? ⟨w.heap.size, 7, none⟩ = some (.slice none 0 0) ∧ wz.cell? ⟨w.heap.size + 1, 0, none⟩ = some (.slice none 0 0) ∧ wz.cell? ⟨w.heap.size + 1, 1, none⟩ = some (.slice none 0 0) ∧ wz.cell? ⟨w.heap.size + 1, 2, none⟩ = some (.slice none 0 0) ∧ wz.cell? ⟨w.heap.size + 1, 3, none⟩ = some (.slice none 0 0) ∧ wz.cell? ⟨w.heap.size + 1, 4, none⟩ = some (.slice none 0 0) ∧ wz.cell? ⟨w.heap.size + 1, 5, none⟩ = some (.slice (some ⟨g, 0, none⟩) 2 2) ∧ wz.cell? ⟨w.heap.size + 1, 6, none⟩ = some (.slice none 0 0) ∧ wz.cell? ⟨w.heap.size + 1, 7, none⟩ = some (.slice none 0 0)) := Lib.hid fun wz hb => by
    have e1 : (w.alloc (.cells #[.slice none 0 0, .slice none 0 0, .slice none 0 0, .slice none 0 0, .slice none 0 0, .slice (some ⟨g, 0, none⟩) 2 2, .slice none 0 0, .slice none 0 0] 32)).heap.size = w.heap.size + 1 := by simp
    obtain ⟨a0, a1, a2, a3, a4, a5, a6, a7⟩ := (box8_new w (.slice none 0 0) (.slice none 0 0) (.slice none 0 0) (.slice none 0 0) (.slice none 0 0) (.slice (some ⟨g, 0, none⟩) 2 2) (.slice none 0 0) (.slice none 0 0) (wz := (w.alloc (.cells #[.slice none 0 0, .slice none 0 0, .slice none 0 0, .slice none 0 0, .slice none 0 0, .slice (some ⟨g, 0, none⟩) 2 2, .slice none 0 0, .slice none 0 0] 32)).alloc (.cells #[.slice none 0 0, .slice none 0 0, .slice none 0 0, .slice none 0 0, .slice none 0 0, .slice (some ⟨g, 0, none⟩) 2 2, .slice none 0 0, .slice none 0 0] 32)) ((Below.refl _ _).alloc (Nat.le_refl _) _))
    have h2 := box8_new (w.alloc (.cells #[.slice none 0 0, .slice none 0 0, .slice none 0 0, .slice none 0 0, .slice none 0 0, .slice (some ⟨g, 0, none⟩) 2 2, .slice none 0 0, .slice none 0 0] 32)) (.slice none 0 0) (.slice none 0 0) (.slice none 0 0) (.slice none 0 0) (.slice none 0 0) (.slice (some ⟨g, 0, none⟩) 2 2) (.slice none 0 0) (.slice none 0 0) hb
    rw [e1] at h2
    have hc : ∀ i u, ((w.alloc (.cells #[.slice none 0 0, .slice none 0 0, .slice none 0 0, .slice none 0 0, .slice none 0 0, .slice (some ⟨g, 0, none⟩) 2 2, .slice none 0 0, .slice none 0 0] 32)).alloc (.cells #[.slice none 0 0, .slice none 0 0, .slice none 0 0, .slice none 0 0, .slice none 0 0, .slice (some ⟨g, 0, none⟩) 2 2, .slice none 0 0, .slice none 0 0] 32)).cell? ⟨w.heap.size, i, none⟩ = some u → wz.cell? ⟨w.heap.size, i, none⟩ = some u := fun i u hu => (hb.cell (p := ⟨w.heap.size, i, none⟩) (World.block_lt_of_cell? _ _ hu)).trans hu
    exact ⟨hc _ _ a0, hc _ _ a1, hc _ _ a2, hc _ _ a3, hc _ _ a4, hc _ _ a5, hc _ _ a6, hc _ _ a7, h2⟩
  have HB := Lib.hid hb1
  obtain ⟨k0, k1, k2, k3, k4, k5, k6, k7, k8, k9, k10, k11, k12, k13, k14, k15⟩ := HC.out _ (Below.refl _ _)
  clear hb0 hb1 h
  unfold v22
  simp only [Mv.cells]
  go_enter Tryd.func23, Tryd.ntmps23
  go_wp2_with fail
  go_at_call 43
  refine (sameTypes_nil _).mono ?_
  rintro e y0 ⟨rfl, hb⟩
  have hq := hb
  clear k0 k1 k2 k3 k4 k5 k6 k7 k8 k9 k10 k11 k12 k13 k14 k15
  obtain ⟨k0, k1, k2, k3, k4, k5, k6, k7, k8, k9, k10, k11, k12, k13, k14, k15⟩ := HC.out _ hq
  have HQ0 := Lib.hid hq
  clear hb hq
  go_wp2_with fail
  go_at_call 44
  refine (equalImp_nil _).mono ?_
  rintro e y1 ⟨rfl, hb⟩
  have hq := below_then HQ0.out hb
  clear k0 k1 k2 k3 k4 k5 k6 k7 k8 k9 k10 k11 k12 k13 k14 k15
  obtain ⟨k0, k1, k2, k3, k4, k5, k6, k7, k8, k9, k10, k11, k12, k13, k14, k15⟩ := HC.out _ hq
  have HQ1 := Lib.hid hq
  clear hb hq
  go_wp2_with fail
  go_at_call 45
  refine (sameFuncs_nil _).mono ?_
  rintro e y2 ⟨rfl, hb⟩
  have hq := below_then HQ1.out hb
  clear k0 k1 k2 k3 k4 k5 k6 k7 k8 k9 k10 k11 k12 k13 k14 k15
  obtain ⟨k0, k1, k2, k3, k4, k5, k6, k7, k8, k9, k10, k11, k12, k13, k14, k15⟩ := HC.out _ hq
  have HQ2 := Lib.hid hq
  clear hb hq
  go_wp2_with fail
  go_at_call 46
  refine (equalMem_nil _).mono ?_
  rintro e y3 ⟨rfl, hb⟩
  have hq := below_then HQ2.out hb
  clear k0 k1 k2 k3 k4 k5 k6 k7 k8 k9 k10 k11 k12 k13 k14 k15
  obtain ⟨k0, k1, k2, k3, k4, k5, k6, k7, k8, k9, k10, k11, k12, k13, k14, k15⟩ := HC.out _ hq
  have HQ3 := Lib.hid hq
  clear hb hq
  go_wp2_with fail
  go_at_call 47
  refine (equalGlob_nil _).mono ?_
  rintro e y4 ⟨rfl, hb⟩
  have hq := below_then HQ3.out hb
  clear k0 k1 k2 k3 k4 k5 k6 k7 k8 k9 k10 k11 k12 k13 k14 k15
  obtain ⟨k0, k1, k2, k3, k4, k5, k6, k7, k8, k9, k10, k11, k12, k13, k14, k15⟩ := HC.out _ hq
  have HQ4 := Lib.hid hq
  clear hb hq
  go_wp2_with fail
  go_at_call 48
  refine (equalEx_22 _ g (HT.out _ HQ4.out)).mono ?_
  rintro e y5 ⟨rfl, hb⟩
  have hq := below_then HQ4.out hb
  clear k0 k1 k2 k3 k4 k5 k6 k7 k8 k9 k10 k11 k12 k13 k14 k15
  obtain ⟨k0, k1, k2, k3, k4, k5, k6, k7, k8, k9, k10, k11, k12, k13, k14, k15⟩ := HC.out _ hq
  have HQ5 := Lib.hid hq
  clear hb hq
  go_wp2_with fail
  go_at_call 49
  refine (sameDatas_nil _).mono ?_
  rintro e y6 ⟨rfl, hb⟩
  have hq := below_then HQ5.out hb
  clear k0 k1 k2 k3 k4 k5 k6 k7 k8 k9 k10 k11 k12 k13 k14 k15
  obtain ⟨k0, k1, k2, k3, k4, k5, k6, k7, k8, k9, k10, k11, k12, k13, k14, k15⟩ := HC.out _ hq
  have HQ6 := Lib.hid hq
  clear hb hq
  go_wp2_with fail
  go_at_call 50
  refine (sameCustoms_nil _).mono ?_
  rintro e y7 ⟨rfl, hb⟩
  have hq := below_then HQ6.out hb
  clear k0 k1 k2 k3 k4 k5 k6 k7 k8 k9 k10 k11 k12 k13 k14 k15
  obtain ⟨k0, k1, k2, k3, k4, k5, k6, k7, k8, k9, k10, k11, k12, k13, k14, k15⟩ := HC.out _ hq
  have HQ7 := Lib.hid hq
  clear hb hq
  go_wp2_with fail
  go_ret
  exact ⟨rfl, below_then HB.out HQ7.out⟩
set_option maxRecDepth 100000 in
set_option maxHeartbeats 2000000 in
theorem same_20 (w : World) (g : Nat) (h : Two6 w g) : Calls Tryd.prog 23 #[.agg (v22 g).cells, .agg v00.cells] w (BoolPost false w) := by
  have hb0 := (Below.refl w.heap.size w).alloc (Nat.le_refl _) (.cells #[.slice none 0 0, .slice none 0 0, .slice none 0 0, .slice none 0 0, .slice none 0 0, .slice (some ⟨g, 0, none⟩) 2 2, .slice none 0 0, .slice none 0 0] 32)
  have hb1 := hb0.alloc (by simp) (.cells #[.slice none 0 0, .slice none 0 0, .slice none 0 0, .slice none 0 0, .slice none 0 0, .slice none 0 0, .slice none 0 0, .slice none 0 0] 32)
  have HT := Lib.hid (fun wz (hb : Below ((w.alloc (.cells #[.slice none 0 0, .slice none 0 0, .slice none 0 0, .slice none 0 0, .slice none 0 0, .slice (some ⟨g, 0, none⟩) 2 2, .slice none 0 0, .slice none 0 0] 32)).alloc (.cells #[.slice none 0 0, .slice none 0 0, .slice none 0 0, .slice none 0 0, .slice none 0 0, .slice none 0 0, .slice none 0 0, .slice none 0 0] 32)).heap.size ((w.alloc (.cells #[.slice none 0 0, .slice none 0 0, .slice none 0 0, .slice none 0 0, .slice none 0 0, .slice (some ⟨g, 0, none⟩) 2 2, .slice none 0 0, .slice none 0 0] 32)).alloc (.cells #[.slice none 0 0, .slice none 0 0, .slice none 0 0, .slice none 0 0, .slice none 0 0, .slice none 0 0, .slice none 0 0, .slice none 0 0] 32)) wz) => (h.below hb1).below hb)
  have HC : Hid (∀ wz, Below ((w.alloc (.cells #[.slice none 0 0, .slice none 0 0, .slice none 0 0, .slice none 0 0, .slice none 0 0, .slice (some ⟨g, 0, none⟩) 2 2, .slice none 0 0, .slice none 0 0] 32)).alloc (.cells #[.slice none 0 0, .slice none 0 0, .slice none 0 0, .slice none 0 0, .slice none 0 0, .slice none 0 0, .slice none 0 0, .slice none 0 0] 32)).heap.size ((w.alloc (.cells #[.slice none 0 0, .slice none 0 0, .slice none 0 0, .slice none 0 0, .slice none 0 0, .slice (some ⟨g, 0, none⟩) 2 2, .slice none 0 0, .slice none 0 0] 32)).alloc (.cells #[.slice none 0 0, .slice none 0 0, .slice none 0 0, .slice none 0 0, .slice none 0 0, .slice none 0 0, .slice none 0 0, .slice none 0 0] 32)) wz → wz.cell? ⟨w.heap.size, 0, none⟩ = some (.slice none 0 0) ∧ wz.cell? ⟨w.heap.size, 1, none⟩ = some (.slice none 0 0) ∧ wz.cell? ⟨w.heap.size, 2, none⟩ = some (.slice none 0 0) ∧ wz.cell? ⟨w.heap.size, 3, none⟩ = some (.slice none 0 0) ∧ wz.cell? ⟨w.heap.size, 4, none⟩ = some (.slice none 0 0) ∧ wz.cell? ⟨w.heap.size, 5, none⟩ = some (.slice (some ⟨g, 0, none⟩) 2 2) ∧ wz.cell? ⟨w.heap.size, 6, none⟩ = some (.slice none 0 0) ∧ wz.cell? ⟨w.heap.size, 7, none⟩ = some (.slice none 0 0) ∧ wz.cell? ⟨w.heap.size + 1, 0, none⟩ = some (.slice none 0 0) ∧ wz.cell? ⟨w.heap.size + 1, 1, none⟩ = some (.slice none 0 0) ∧ wz.cell? ⟨w.heap.size + 1, 2, none⟩ = some (.slice none 0 0) ∧ wz.cell? ⟨w.heap.size + 1, 3, none⟩ = some (.slice none 0 0) ∧ wz.cell? ⟨w.heap.size + 1, 4, none⟩ = some (.slice none 0 0) ∧ wz.cell? ⟨w.heap.size + 1, 5, none⟩ = some (.slice none 0 0) ∧ wz.cell? ⟨w.heap.size + 1, 6, none⟩ = some (.slice none 0 0) ∧ wz.cell? ⟨w.heap.size + 1, 7, none⟩ = some (.slice none 0 0)) := Lib.hid fun wz hb => by
    have e1 : (w.alloc (.cells #[.slice none 0 0, .slice none 0 0, .slice none 0 0, .slice none 0 0, .slice none 0 0, .slice (some ⟨g, 0, none⟩) 2 2, .slice none 0 0, .slice none 0 0] 32)).heap.size = w.heap.size + 1 := by simp
    obtain ⟨a0, a1, a2, a3, a4, a5, a6, a7⟩ := (box8_new w (.slice none 0 0) (.slice none 0 0) (.slice none 0 0) (.slice none 0 0) (.slice none 0 0) (.slice (some ⟨g, 0, none⟩) 2 2) (.slice none 0 0) (.slice none 0 0) (wz := (w.alloc (.cells #[.slice none 0 0, .slice none 0 0, .slice none 0 0, .slice none 0 0, .slice none 0 0, .slice (some ⟨g, 0, none⟩) 2 2, .slice none 0 0, .slice none 0 0] 32)).alloc (.cells #[.slice none 0 0, .slice none 0 0, .slice none 0 0, .slice none 0 0, .slice none 0 0, .slice none 0 0, .slice none 0 0, .slice none 0 0] 32)) ((Below.refl _ _).alloc (Nat.le_refl _) _))
    have h2 := box8_new (w.alloc (.cells #[.slice none 0 0, .slice none 0 0, .slice none 0 0, .slice none 0 0, .slice none 0 0, .slice (some ⟨g, 0, none⟩) 2 2, .slice none 0 0, .slice none 0 0] 32)) (.slice none 0 0) (.slice none 0 0) (.slice none 0 0) (.slice none 0 0) (.slice none 0 0) (.slice none 0 0) (.slice none 0 0) (.slice none 0 0) hb
    rw [e1] at h2
    have hc : ∀ i u, ((w.alloc (.cells #[.slice none 0 0, .slice none 0 0, .slice none 0 0, .slice none 0 0, .slice none 0 0, .slice (some ⟨g, 0, none⟩) 2 2, .slice none 0 0, .slice none 0 0] 32)).alloc (.cells #[.slice none 0 0, .slice none 0 0, .slice none 0 0, .slice none 0 0, .slice none 0 0, .slice none 0 0, .slice none 0 0, .slice none 0 0] 32)).cell? ⟨w.heap.size, i, none⟩ = some u → wz.cell? ⟨w.heap.size, i, none⟩ = some u := fun i u hu => (hb.cell (p := ⟨w.heap.size, i, none⟩) (World.block_lt_of_cell? _ _ hu)).trans hu
    exact ⟨hc _ _ a0, hc _ _ a1, hc _ _ a2, hc _ _ a3, hc _ _ a4, hc _ _ a5, hc _ _ a6, hc _ _ a7, h2⟩
  have HB := Lib.hid hb1
  obtain ⟨k0, k1, k2, k3, k4, k5, k6, k7, k8, k9, k10, k11, k12, k13, k14, k15⟩ := HC.out _ (Below.refl _ _)
  clear hb0 hb1 h
  unfold v22 v00
  simp only [Mv.cells]
  go_enter Tryd.func23, Tryd.ntmps23
  go_wp2_with fail
  go_at_call 43
  refine (sameTypes_nil _).mono ?_
  rintro e y0 ⟨rfl, hb⟩
  have hq := hb
  clear k0 k1 k2 k3 k4 k5 k6 k7 k8 k9 k10 k11 k12 k13 k14 k15
  obtain ⟨k0, k1, k2, k3, k4, k5, k6, k7, k8, k9, k10, k11, k12, k13, k14, k15⟩ := HC.out _ hq
  have HQ0 := Lib.hid hq
  clear hb hq
  go_wp2_with fail
  go_at_call 44
  refine (equalImp_nil _).mono ?_
  rintro e y1 ⟨rfl, hb⟩
  have hq := below_then HQ0.out hb
  clear k0 k1 k2 k3 k4 k5 k6 k7 k8 k9 k10 k11 k12 k13 k14 k15
  obtain ⟨k0, k1, k2, k3, k4, k5, k6, k7, k8, k9, k10, k11, k12, k13, k14, k15⟩ := HC.out _ hq
  have HQ1 := Lib.hid hq
  clear hb hq
  go_wp2_with fail
  go_at_call 45
  refine (sameFuncs_nil _).mono ?_
  rintro e y2 ⟨rfl, hb⟩
  have hq := below_then HQ1.out hb
  clear k0 k1 k2 k3 k4 k5 k6 k7 k8 k9 k10 k11 k12 k13 k14 k15
  obtain ⟨k0, k1, k2, k3, k4, k5, k6, k7, k8, k9, k10, k11, k12, k13, k14, k15⟩ := HC.out _ hq
  have HQ2 := Lib.hid hq
  clear hb hq
  go_wp2_with fail
  go_at_call 46
  refine (equalMem_nil _).mono ?_
  rintro e y3 ⟨rfl, hb⟩
  have hq := below_then HQ2.out hb
  clear k0 k1 k2 k3 k4 k5 k6 k7 k8 k9 k10 k11 k12 k13 k14 k15
  obtain ⟨k0, k1, k2, k3, k4, k5, k6, k7, k8, k9, k10, k11, k12, k13, k14, k15⟩ := HC.out _ hq
  have HQ3 := Lib.hid hq
  clear hb hq
  go_wp2_with fail
  go_at_call 47
  refine (equalGlob_nil _).mono ?_
  rintro e y4 ⟨rfl, hb⟩
  have hq := below_then HQ3.out hb
  clear k0 k1 k2 k3 k4 k5 k6 k7 k8 k9 k10 k11 k12 k13 k14 k15
  obtain ⟨k0, k1, k2, k3, k4, k5, k6, k7, k8, k9, k10, k11, k12, k13, k14, k15⟩ := HC.out _ hq
  have HQ4 := Lib.hid hq
  clear hb hq
  go_wp2_with fail
  go_at_call 48
  refine (equalEx_20 _ g).mono ?_
  rintro e y5 ⟨rfl, hb⟩
  have hq := below_then HQ4.out hb
  clear k0 k1 k2 k3 k4 k5 k6 k7 k8 k9 k10 k11 k12 k13 k14 k15
  obtain ⟨k0, k1, k2, k3, k4, k5, k6, k7, k8, k9, k10, k11, k12, k13, k14, k15⟩ := HC.out _ hq
  have HQ5 := Lib.hid hq
  clear hb hq
  go_wp2_with fail
  go_ret
  exact ⟨rfl, below_then HB.out HQ5.out⟩
end Go.Proofs.YtinljaobdnkifaaDoor
namespace Go.Proofs.YtinljaobdnkifaaDoor
open Go.RowKit

theorem short00 : Short m00 := ⟨Nat.zero_le _, Nat.zero_le _, Nat.zero_le _, (fun t ht => by cases ht), (fun f hf => by cases hf)⟩
theorem few00 : Few m00 := ⟨Nat.zero_le _, Nat.zero_le _, Nat.zero_le _, Nat.zero_le _, Nat.zero_le _, Nat.zero_le _, Nat.zero_le _, Nat.zero_le _⟩
theorem few22 : Few m22 := ⟨Nat.zero_le _, Nat.zero_le _, Nat.zero_le _, Nat.zero_le _, Nat.zero_le _, by show 2 ≤ _; omega, Nat.zero_le _, Nat.zero_le _⟩
theorem right00 : rightB m00 = 0 := by decide +kernel
theorem right22 : rightB m22 = 12 := by decide +kernel
set_option maxRecDepth 100000 in
set_option maxHeartbeats 4000000 in
theorem known6_any (w : World) (ht : Tab w) : Calls Tryd.prog 10 #[] w (BoolPost true w) := by
  have HK1 := Lib.hid (fun wz => (show Calls Tryd.prog 9 #[.agg v00.cells, .int .i64 (-2)] wz (TypPost (fun _ => False) (some ([], [127])) wz) from block_any6 wz v00 m00 (at00 _ _) short00 (-2)))
  have HK2 := Lib.hid (fun wz => (show Calls Tryd.prog 9 #[.agg v00.cells, .int .i64 (-5)] wz (TypPost (fun _ => False) none wz) from block_any6 wz v00 m00 (at00 _ _) short00 (-5)))
  have HR0 := Lib.hid (fun wz (hb : Below w.heap.size w wz) => (show Calls Tryd.prog 21 #[.agg v00.cells] wz (fun e w' => e = .returned (.int .i64 0) ∧ Below wz.heap.size wz w') from by have h := right_mod wz (ht.below hb) v00 m00 (at00 _ _) few00; unfold RightPost at h; rw [right00] at h; exact h))
  have HR2 := Lib.hid (fun wz (hb : Below w.heap.size w wz) g (h : Two6 wz g) => (show Calls Tryd.prog 21 #[.agg (v22 g).cells] wz (fun e w' => e = .returned (.int .i64 12) ∧ Below wz.heap.size wz w') from by have h := right_mod wz (ht.below hb) (v22 g) m22 (at22 wz g h) few22; unfold RightPost at h; rw [right22] at h; exact h))
  have HI1 := Lib.hid (fun wz => (show Calls Tryd.prog 22 #[.agg #[.int .i64 11, .int .i64 0, .int .i64 0, .int .u64 0, .slice none 0 0]] wz (BoolPost true wz) from inst_any (fun _ => False) wz (fun _ h => h.elim) ⟨11, 0, 0, 0, []⟩ _ (IntsK.nil _ _)))
  have HI2 := Lib.hid (fun wz => (show Calls Tryd.prog 22 #[.agg #[.int .i64 42, .int .i64 0, .int .i64 0, .int .u64 0, .slice none 0 0]] wz (BoolPost false wz) from inst_any (fun _ => False) wz (fun _ h => h.elim) ⟨42, 0, 0, 0, []⟩ _ (IntsK.nil _ _)))
  have HS1 := Lib.hid same_22
  have HS2 := Lib.hid same_20
  clear ht
  unfold v00 at HK1 HK2 HR0 HS2
  unfold v22 at HR2 HS1 HS2
  simp only [Mv.cells] at HK1 HK2 HR0 HR2 HS1 HS2
  go_enter Tryd.func10, Tryd.ntmps10
  go_wp2_with fail
  go_at_call 9
  refine (HK1.out _).mono ?_
  rintro e w1 ⟨p1, r1, rfl, hp1, hr1, hb1⟩
  obtain ⟨A1, c1, rfl, _, _⟩ := hp1.form
  obtain ⟨A2, c2, rfl, _, _⟩ := hr1.form
  have HB1 := Lib.hid hb1
  have hx := World.cell?_alloc_new w1 #[.slice A1 (List.length (α := Int) []) c1, .slice A2 (List.length [(127 : Int)]) c2] 35 1
  have HX := Lib.hid (hx : (w1.alloc (.cells #[.slice A1 0 c1, .slice A2 1 c2] 35)).cell? ⟨w1.heap.size, 1, none⟩ = some (.slice A2 1 c2))
  clear hp1 hr1 hb1 hx HK1
  simp only [Option.getD_some, List.length_nil, List.length_cons, Option.isSome_some, Nat.zero_add]
  go_wp2_with fail
  go_at_call 9
  refine (HK2.out _).mono ?_
  rintro e w2 ⟨p2, r2, rfl, hp2, hr2, hb2⟩
  obtain ⟨A3, c3, rfl, _, _⟩ := hp2.form
  obtain ⟨A4, c4, rfl, _, _⟩ := hr2.form
  simp only [Option.getD_none, List.length_nil, Option.isSome_none]
  have HX2 := Lib.hid ((hb2.cell (p := ⟨w1.heap.size, 1, none⟩) (World.block_lt_of_cell? _ _ HX.out)).trans HX.out)
  have HB2 := Lib.hid (below_then (below_new HB1.out _) hb2)
  clear hp2 hr2 hb2 HK2 HX
  have hb3 := below_new (below_new HB2.out (.cells #[.slice A3 0 c3, .slice A4 0 c4] 35)) (.cells #[.string ⟨#[97]⟩, .int .i64 0, .int .i64 0, .string ⟨#[97]⟩, .int .i64 0, .int .i64 0] 62)
  have ht6 := Two6.new (w2.alloc (.cells #[.slice A3 0 c3, .slice A4 0 c4] 35))
  obtain ⟨g, hg⟩ : ∃ g, g = (w2.alloc (.cells #[.slice A3 0 c3, .slice A4 0 c4] 35)).heap.size := ⟨_, rfl⟩
  have hg2 : g = w2.heap.size + 1 := by rw [hg]; simp
  rw [← hg] at ht6
  have HG := Lib.hid hg2
  have HB3 := Lib.hid hb3
  have HT6 := Lib.hid ht6
  have HX3 := Lib.hid (((below_new (below_new (Below.refl _ _) (.cells #[.slice A3 0 c3, .slice A4 0 c4] 35)) (.cells #[.string ⟨#[97]⟩, .int .i64 0, .int .i64 0, .string ⟨#[97]⟩, .int .i64 0, .int .i64 0] 62)).cell (p := ⟨w1.heap.size, 1, none⟩) (World.block_lt_of_cell? _ _ HX2.out)).trans HX2.out)
  clear hb3 ht6 hg2 HB2 HX2
  obtain ⟨W, hW⟩ : ∃ W, W = (w2.alloc (.cells #[.slice A3 0 c3, .slice A4 0 c4] 35)).alloc (.cells #[.string ⟨#[97]⟩, .int .i64 0, .int .i64 0, .string ⟨#[97]⟩, .int .i64 0, .int .i64 0] 62) := ⟨_, rfl⟩
  rw [← hW] at HB3 HT6 HX3
  have hWs : W.heap.size = w2.heap.size + 2 := by rw [hW]; simp
  have HWS := Lib.hid hWs
  have HBX := Lib.hid (fun wz hb => box8_new W (.slice none 0 0) (.slice none 0 0) (.slice none 0 0) (.slice none 0 0) (.slice none 0 0) (.slice (some ⟨g, 0, none⟩) 2 2) (.slice none 0 0) (.slice none 0 0) (wz := wz) hb)
  have HXX := Lib.hid (fun wz (hb : Below (W.alloc (.cells #[.slice none 0 0, .slice none 0 0, .slice none 0 0, .slice none 0 0, .slice none 0 0, .slice (some ⟨g, 0, none⟩) 2 2, .slice none 0 0, .slice none 0 0] 32)).heap.size (W.alloc (.cells #[.slice none 0 0, .slice none 0 0, .slice none 0 0, .slice none 0 0, .slice none 0 0, .slice (some ⟨g, 0, none⟩) 2 2, .slice none 0 0, .slice none 0 0] 32)) wz) => ((below_new (Below.refl W.heap.size W) (.cells #[.slice none 0 0, .slice none 0 0, .slice none 0 0, .slice none 0 0, .slice none 0 0, .slice (some ⟨g, 0, none⟩) 2 2, .slice none 0 0, .slice none 0 0] 32)).trans (hb.mono (by simp))).cell (p := ⟨w1.heap.size, 1, none⟩) (World.block_lt_of_cell? _ _ HX3.out) |>.trans HX3.out)
  have HQ := Lib.hid (below_new HB3.out (.cells #[.slice none 0 0, .slice none 0 0, .slice none 0 0, .slice none 0 0, .slice none 0 0, .slice (some ⟨g, 0, none⟩) 2 2, .slice none 0 0, .slice none 0 0] 32))
  have HT := Lib.hid (HT6.out.below (below_new (Below.refl _ _) (.cells #[.slice none 0 0, .slice none 0 0, .slice none 0 0, .slice none 0 0, .slice none 0 0, .slice (some ⟨g, 0, none⟩) 2 2, .slice none 0 0, .slice none 0 0] 32)))
  have HL := Lib.hid (Below.refl (W.alloc (.cells #[.slice none 0 0, .slice none 0 0, .slice none 0 0, .slice none 0 0, .slice none 0 0, .slice (some ⟨g, 0, none⟩) 2 2, .slice none 0 0, .slice none 0 0] 32)).heap.size (W.alloc (.cells #[.slice none 0 0, .slice none 0 0, .slice none 0 0, .slice none 0 0, .slice none 0 0, .slice (some ⟨g, 0, none⟩) 2 2, .slice none 0 0, .slice none 0 0] 32)))
  obtain ⟨k0, k1, k2, k3, k4, k5, k6, k7⟩ := HBX.out _ HL.out
  have kx := HXX.out _ HL.out
  clear hWs
  go_upto_region 4 with (fail)
  rw [show w2.heap.size + 1 = g from HG.out.symm]
  rw [← hW]
  rw [show g + 1 = W.heap.size by have h1 := HWS.out; have h2 := HG.out; omega]
  clear hW hg
  go_wp2_with fail
  go_at_call 21
  refine (HR0.out _ HQ.out).mono ?_
  rintro e y0 ⟨rfl, hb⟩
  have hq := below_then HQ.out hb
  have ht := HT.out.below hb
  have hx := HXX.out _ (below_then HL.out hb)
  have hbx := HBX.out _ (below_then HL.out hb)
  have hl := below_then HL.out hb
  clear HQ HT HL k0 k1 k2 k3 k4 k5 k6 k7 kx
  have HQ := Lib.hid hq
  have HT := Lib.hid ht
  have HL := Lib.hid hl
  have kx := hx
  obtain ⟨k0, k1, k2, k3, k4, k5, k6, k7⟩ := hbx
  clear hb hq ht hx hl
  go_wp2_with fail
  go_at_call 21
  refine (HR2.out _ HQ.out g HT.out).mono ?_
  rintro e y1 ⟨rfl, hb⟩
  have hq := below_then HQ.out hb
  have ht := HT.out.below hb
  have hx := HXX.out _ (below_then HL.out hb)
  have hbx := HBX.out _ (below_then HL.out hb)
  have hl := below_then HL.out hb
  clear HQ HT HL k0 k1 k2 k3 k4 k5 k6 k7 kx
  have HQ := Lib.hid hq
  have HT := Lib.hid ht
  have HL := Lib.hid hl
  have kx := hx
  obtain ⟨k0, k1, k2, k3, k4, k5, k6, k7⟩ := hbx
  clear hb hq ht hx hl
  go_wp2_with fail
  go_at_call 22
  refine (HI1.out _).mono ?_
  rintro e y2 ⟨rfl, hb⟩
  have hq := below_then HQ.out hb
  have ht := HT.out.below hb
  have hx := HXX.out _ (below_then HL.out hb)
  have hbx := HBX.out _ (below_then HL.out hb)
  have hl := below_then HL.out hb
  clear HQ HT HL k0 k1 k2 k3 k4 k5 k6 k7 kx
  have HQ := Lib.hid hq
  have HT := Lib.hid ht
  have HL := Lib.hid hl
  have kx := hx
  obtain ⟨k0, k1, k2, k3, k4, k5, k6, k7⟩ := hbx
  clear hb hq ht hx hl
  go_wp2_with fail
  go_at_call 22
  refine (HI2.out _).mono ?_
  rintro e y3 ⟨rfl, hb⟩
  have hq := below_then HQ.out hb
  have ht := HT.out.below hb
  have hx := HXX.out _ (below_then HL.out hb)
  have hbx := HBX.out _ (below_then HL.out hb)
  have hl := below_then HL.out hb
  clear HQ HT HL k0 k1 k2 k3 k4 k5 k6 k7 kx
  have HQ := Lib.hid hq
  have HT := Lib.hid ht
  have HL := Lib.hid hl
  have kx := hx
  obtain ⟨k0, k1, k2, k3, k4, k5, k6, k7⟩ := hbx
  clear hb hq ht hx hl
  go_wp2_with fail
  go_at_call 23
  refine (HS1.out _ g HT.out).mono ?_
  rintro e y4 ⟨rfl, hb⟩
  have hq := below_then HQ.out hb
  have ht := HT.out.below hb
  have hx := HXX.out _ (below_then HL.out hb)
  have hbx := HBX.out _ (below_then HL.out hb)
  have hl := below_then HL.out hb
  clear HQ HT HL k0 k1 k2 k3 k4 k5 k6 k7 kx
  have HQ := Lib.hid hq
  have HT := Lib.hid ht
  have HL := Lib.hid hl
  have kx := hx
  obtain ⟨k0, k1, k2, k3, k4, k5, k6, k7⟩ := hbx
  clear hb hq ht hx hl
  go_wp2_with fail
  go_at_call 23
  refine (HS2.out _ g HT.out).mono ?_
  rintro e y5 ⟨rfl, hb⟩
  have hq := below_then HQ.out hb
  have ht := HT.out.below hb
  have hx := HXX.out _ (below_then HL.out hb)
  have hbx := HBX.out _ (below_then HL.out hb)
  have hl := below_then HL.out hb
  clear HQ HT HL k0 k1 k2 k3 k4 k5 k6 k7 kx
  have HQ := Lib.hid hq
  have HT := Lib.hid ht
  have HL := Lib.hid hl
  have kx := hx
  obtain ⟨k0, k1, k2, k3, k4, k5, k6, k7⟩ := hbx
  clear hb hq ht hx hl
  go_wp2_with fail
  go_ret
  exact ⟨rfl, HQ.out⟩
end Go.Proofs.YtinljaobdnkifaaDoor
namespace Go.Proofs.YtinljaobdnkifaaDoor
open Go.RowKit

/-- A new row of ints with nothing in it yet, or nil. -/
def GrowPost (w : World) (e : Ending) (w' : World) : Prop := ∃ v, e = .returned v ∧ w'.ownsRow 0 3 1 v 0 [] ∧ (∀ g, v.ownBlock = some g → w.heap.size ≤ g) ∧ Below w.heap.size w w'
set_option maxRecDepth 100000 in
set_option maxHeartbeats 2000000 in
theorem grow_any (w : World) (n : Nat) (hn : n ≤ 1000000) : Calls Tryd.prog 29 #[.slice none 0 0, .int .i64 (n : Int)] w (GrowPost w) := by
  have h1 : decide ((n : Int) < 0) = false := by simp
  have h2 : IntKind.i64.wrap ((n : Int) - 0) = (n : Int) := by rw [Int.sub_zero]; exact IntWalk.i64_in _ (by omega)
  have h2' : IntKind.i64.wrap (n : Int) = (n : Int) := IntWalk.i64_in _ (by omega)
  rcases Nat.eq_zero_or_pos n with h0 | h0
  · subst h0
    go_enter Tryd.func29, Tryd.ntmps29
    go_wp2
    go_ret
    exact ⟨_, rfl, World.ownsRow_nil _ _ _ _, (fun g h => by cases h), Below.refl _ _⟩
  · have h3 : decide ((0 : Int) < (n : Int)) = true := by simp; omega
    obtain ⟨i0, hi, hz0, hz1, hz2⟩ := info_parts Tryd.infoInt
    have hG := grownCap_ge w n 0 3
    have hG2 := grownCap_le_maxLen w n 0 3 (by unfold maxLen; omega)
    obtain ⟨Z, hZ⟩ : ∃ Z, Z = Builtin.zeroCells (Value.int .i64 0).cells n ++ Builtin.zeroCells (Value.int .i64 0).cells (grownCap w n 0 3 - n) := ⟨_, rfl⟩
    have hZs : Z.size = grownCap w n 0 3 := by rw [hZ]; simp [Builtin.zeroCells, Value.cells]; omega
    obtain ⟨W2, hW2⟩ : ∃ W2, W2 = w.drew.alloc (.cells Z 3) := ⟨_, rfl⟩
    have hrz : ∀ ty, (Builtin.append_ #[22, 3] ty #[.slice none 0 0, .int .i64 (n : Int)]).run Tryd.prog w = .ok (.slice (some ⟨w.heap.size, 0, none⟩) n (grownCap w n 0 3)) W2 := fun ty => by
      have h := Lib.run_append_grow_zeros (P := Tryd.prog) w 22 3 ty 3 i0 (.int .i64 0) .i64 .i64 Tryd.underlying22 Tryd.underlying3 hi hz0 none 0 0 [] (run_firstCells_none w.drew i0.size 0 0 0) n (by omega) (by rw [hz1]; decide) (by omega) (by omega) (by rw [hz2]; omega) (by rw [Nat.zero_add]; exact growslice_fits (by omega) (by rw [hz2]; omega))
      rw [Nat.zero_add] at h
      rw [hW2, hZ]
      simpa using h
    obtain ⟨G, hGe⟩ : ∃ G, G = grownCap w n 0 3 := ⟨_, rfl⟩
    rw [← hGe] at hrz hG hG2 hZs
    have key : ∀ (x : World) (cs : Array Value), (x.alloc (.cells cs 3)).heap[x.heap.size]? = some (.cells cs 3 (0, 0)) := fun x cs => by simp [World.alloc, -World.alloc_eq]
    have hown : W2.ownsRow 0 3 1 (.slice (some ⟨w.heap.size, 0, none⟩) 0 G) 0 [] :=
      ⟨rfl, .inr ⟨w.heap.size, G, Z, rfl, Nat.zero_le _, by rw [hW2]; exact key w.drew Z, Nat.zero_le _, hG2, by rw [hZs, Nat.mul_one], by simp⟩⟩
    have hb : Below w.heap.size w W2 := by rw [hW2]; exact (Below.refl w.heap.size w).drew.alloc (Nat.le_refl _) _
    have HO := Lib.hid hown
    have HB := Lib.hid hb
    clear hown hb hGe hi hz0 hz1 hz2 hZ hW2 hZs key
    go_enter Tryd.func29, Tryd.ntmps29
    unfold maxLen at hG2
    go_wp2_with (at_builtin; refine Lib.wpList_append_run _ rfl _ _ _ _ rfl _ _ rfl rfl _ _ (hrz _) ?_)
    go_ret
    exact ⟨_, rfl, HO.out, fun g hg => by
      have e : some w.heap.size = some g := hg
      simp only [Option.some.injEq] at e
      omega, HB.out⟩
/-- A row of ints that the call owns. -/
def OwnI (W wr : World) (v : Value) (q : List Int) : Prop := (∃ A c, v = .slice A q.length c) ∧ wr.ownsRow 0 3 1 v q.length (q.map (Value.int .i64)) ∧ (∀ g, v.ownBlock = some g → W.heap.size ≤ g) ∧ Below W.heap.size W wr
theorem OwnI.push {W wr w' : World} {v v' : Value} {q more : List Int} (h : OwnI W wr v q) {m : Nat} {xs : List Value} (ho : w'.ownsRow 0 3 1 v' m xs) (hm : m = (q ++ more).length) (hx : xs = (q ++ more).map (Value.int .i64)) (hg : wr.grownBy w' v.ownBlock) (hat : v'.ownBlock = v.ownBlock ∨ v'.ownBlock = some wr.heap.size) : OwnI W w' v' (q ++ more) := by
  subst hm hx
  refine ⟨owns_slice ho, ho, fun g hg' => ?_, h.2.2.2.grown hg h.2.2.2.size h.2.2.1⟩
  rcases hat with h1 | h1
  · exact h.2.2.1 g (h1 ▸ hg')
  · have := h1.symm.trans hg'
    simp only [Option.some.injEq] at this
    have := h.2.2.2.size
    omega
/-- A list in new memory comes back; its capacity is no less than its length. -/
def LocC (l : List Int) (w : World) (e : Ending) (w' : World) : Prop := ∃ A c, e = .returned (.slice A l.length c) ∧ l.length ≤ c ∧ IntsK (fun k => w.heap.size ≤ k ∧ k < w'.heap.size) w' (.slice A l.length c) l ∧ Below w.heap.size w w'
theorem OwnI.loc {W wr : World} {v : Value} {q : List Int} (h : OwnI W wr v q) (hl : q.length ≤ 1000000) : LocC q W (.returned v) wr := by
  obtain ⟨⟨A, c, rfl⟩, ho, hn, hb⟩ := h
  refine ⟨A, c, rfl, ?_, owns_new (w := W) ho rfl rfl hl hn, hb⟩
  rcases ho.2 with ⟨he, h0⟩ | ⟨g, cap, cur, he, _, _, h3, _⟩
  · omega
  · simp only [Value.slice.injEq] at he
    omega
theorem LocC.nil {w w' : World} (hb : Below w.heap.size w w') : LocC [] w (.returned (.slice none 0 0)) w' := ⟨none, 0, rfl, Nat.le_refl _, IntsK.nil _ _, hb⟩
set_option maxRecDepth 100000 in
set_option maxHeartbeats 4000000 in
theorem concat_any (w : World) (g : Nat) (v1 v2 : Value) (l1 l2 : List Int) (k0 : w.cell? ⟨g, 0, none⟩ = some v1) (k1 : w.cell? ⟨g, 1, none⟩ = some v2) (h1 : IntsK (fun k => k < w.heap.size) w v1 l1) (h2 : IntsK (fun k => k < w.heap.size) w v2 l2) (hl1 : l1.length ≤ 100000) (hl2 : l2.length ≤ 100000) :
    Calls Tryd.prog 20 #[.slice (some ⟨g, 0, none⟩) 2 2] w (LocC (l1 ++ l2) w) := by
  have HN1 := Lib.hid (fun wz (hb : Below w.heap.size w wz) => (h1.keep (K' := fun k => k < wz.heap.size) (Keeps.below hb fun _ hk => hk) fun _ hk => Nat.lt_of_lt_of_le hk hb.size).news)
  have HN2 := Lib.hid (fun wz (hb : Below w.heap.size w wz) => (h2.keep (K' := fun k => k < wz.heap.size) (Keeps.below hb fun _ hk => hk) fun _ hk => Nat.lt_of_lt_of_le hk hb.size).news)
  obtain ⟨A1, c1, hv1, _, _⟩ := h1.form
  obtain ⟨A2, c2, hv2, _, _⟩ := h2.form
  rw [hv1] at HN1 k0
  rw [hv2] at HN2 k1
  clear h1 h2 hv1 hv2
  obtain ⟨n1, hn1⟩ : ∃ n, l1.length = n := ⟨_, rfl⟩
  obtain ⟨n2, hn2⟩ : ∃ n, l2.length = n := ⟨_, rfl⟩
  rw [hn1] at HN1 k0 hl1
  rw [hn2] at HN2 k1 hl2
  have HL1 := Lib.hid hn1
  have HL2 := Lib.hid hn2
  clear hn1 hn2
  have e1 : IntKind.i64.wrap (0 + (n1 : Int)) = (n1 : Int) := by rw [Int.zero_add]; exact IntWalk.i64_in _ (by omega)
  have e1' : IntKind.i64.wrap (n1 : Int) = (n1 : Int) := IntWalk.i64_in _ (by omega)
  have e2 : IntKind.i64.wrap ((n1 : Int) + (n2 : Int)) = ((n1 + n2 : Nat) : Int) := by rw [show (n1 : Int) + (n2 : Int) = ((n1 + n2 : Nat) : Int) by omega]; exact IntWalk.i64_in _ (by omega)
  have HG := Lib.hid (fun wz => grow_any wz (n1 + n2) (by omega))
  obtain ⟨n3, hn3⟩ : ∃ n, n1 + n2 = n := ⟨_, rfl⟩
  rw [hn3] at e2 HG
  have HN3 := Lib.hid hn3
  clear hn3
  have d1 : decide ((n1 : Int) < 0) = false := by simp
  have d3 : decide ((n3 : Int) < 0) = false := by simp
  have hkg := World.block_lt_of_cell? _ _ k0
  have HK := Lib.hid (fun wz (hb : Below w.heap.size w wz) => And.intro ((hb.cell (p := ⟨g, 0, none⟩) hkg).trans k0) ((hb.cell (p := ⟨g, 1, none⟩) hkg).trans k1))
  go_enter Tryd.func20, Tryd.ntmps20
  go_wp2_with fail
  go_loopw [3, 11] (fun sz i wr => wr = w ∧ ((i = .int .i64 0 ∧ sz = .int .i64 0) ∨ (i = .int .i64 1 ∧ sz = .int .i64 (n1 : Int)) ∨ (i = .int .i64 2 ∧ sz = .int .i64 (n3 : Int)))) (fun _ i _ => 2 - (intOf i).toNat)
  case atStart => exact ⟨rfl, .inl ⟨rfl, rfl⟩⟩
  case round =>
    obtain ⟨rfl, hrel⟩ := hrel
    rcases hrel with ⟨rfl, rfl⟩ | ⟨rfl, rfl⟩ | ⟨rfl, rfl⟩
    · go_wp2
      go_roundw
      case rel => exact ⟨by trivial, .inr (.inl ⟨rfl, rfl⟩)⟩
      case measure => simp [intOf]
    · go_wp2
      go_roundw
      case rel => exact ⟨by trivial, .inr (.inr ⟨rfl, rfl⟩)⟩
      case measure => simp [intOf]
    · obtain ⟨w0, rfl⟩ : ∃ w0, w0 = wr := ⟨_, rfl⟩
      clear e1 e1' e2 d1 d3
      go_wp2_with fail
      go_at_call 29
      refine (HG.out w0).mono ?_
      rintro e w1 ⟨v, rfl, ho, hnw, hb⟩
      obtain ⟨B1, b1, rfl⟩ := owns_slice ho
      have HO : Hid (OwnI w0 w1 (.slice B1 0 b1) []) := Lib.hid ⟨⟨_, _, rfl⟩, ho, hnw, hb⟩
      clear ho hnw hb k0 k1
      go_wp2_with fail
      go_loopw [6, 27] (fun nv i wr => ∃ (k : Nat) (q : List Int) (A : Option Addr) (c : Nat), i = .int .i64 (k : Int) ∧ ((k = 0 ∧ q = []) ∨ (k = 1 ∧ q = l1) ∨ (k = 2 ∧ q = l1 ++ l2)) ∧ nv = .slice A q.length c ∧ Hid (OwnI w0 wr (.slice A q.length c) q)) (fun _ i _ => 2 - (intOf i).toNat)
      case atStart => exact ⟨0, [], B1, b1, rfl, .inl ⟨rfl, rfl⟩, rfl, HO⟩
      case round =>
        obtain ⟨k, q, A, c, rfl, hq, rfl, HQ⟩ := hrel
        obtain ⟨k0, k1⟩ := HK.out _ HQ.out.2.2.2
        obtain ⟨w2, rfl⟩ : ∃ w2, w2 = wr := ⟨_, rfl⟩
        rcases hq with ⟨rfl, rfl⟩ | ⟨rfl, rfl⟩ | ⟨rfl, rfl⟩
        · simp only [List.length_nil] at HQ ⊢
          go_wp2_with (at_builtin; refine wpList_append_row rfl (.tmp 31) (.tmp 32) 22 3 rfl _ 1 8 Tryd.underlying22 Tryd.infoInt rfl (by decide) (by decide) (.slice A 0 c) 0 [] (by rfl) HQ.out.2.1 _ n1 (l1.map (Value.int .i64)) (by rfl) (by rw [List.length_map, HL1.out, Nat.mul_one]) (HN1.out _ HQ.out.2.2.2) (ones_int _) (by omega) ?_; intro v3 w3 ho3 hg3 hat3; obtain ⟨B3, b3, rfl⟩ := owns_slice ho3)
          have HP := Lib.hid (HQ.out.push (more := l1) ho3 (by rw [List.nil_append, HL1.out]; omega) (by rw [List.nil_append]; rfl) hg3 hat3)
          rw [List.nil_append] at HP
          clear ho3 hg3 hat3
          go_roundw
          case rel => exact ⟨1, l1, B3, b3, by go_num, .inr (.inl ⟨rfl, rfl⟩), by rw [HL1.out], by rw [HL1.out]; first | exact HP | (rw [Nat.zero_add] at HP; exact HP)⟩
          case measure => simp [intOf]
        · rw [HL1.out] at HQ ⊢
          go_wp2_with (at_builtin; refine wpList_append_row rfl (.tmp 31) (.tmp 32) 22 3 rfl _ 1 8 Tryd.underlying22 Tryd.infoInt rfl (by decide) (by decide) (.slice A n1 c) n1 (q.map (Value.int .i64)) (by rfl) (by have h := HQ.out.2.1; rw [HL1.out] at h; exact h) _ n2 (l2.map (Value.int .i64)) (by rfl) (by rw [List.length_map, HL2.out, Nat.mul_one]) (HN2.out _ HQ.out.2.2.2) (ones_int _) (by omega) ?_; intro v3 w3 ho3 hg3 hat3; obtain ⟨B3, b3, rfl⟩ := owns_slice ho3)
          have HP := Lib.hid (HQ.out.push (more := l2) ho3 (by rw [List.length_append, HL1.out, HL2.out]) (by rw [List.map_append]) hg3 hat3)
          clear ho3 hg3 hat3
          go_roundw
          case rel => exact ⟨2, q ++ l2, B3, b3, by go_num, .inr (.inr ⟨rfl, rfl⟩), by rw [List.length_append, HL1.out, HL2.out], by rw [List.length_append, HL1.out, HL2.out]; exact HP⟩
          case measure => simp [intOf]
        · have HF := Lib.hid (HQ.out.loc (by rw [List.length_append, HL1.out, HL2.out]; omega))
          clear HQ
          generalize (l1 ++ l2).length = n9 at HF ⊢
          go_wp2
          go_ret
          exact HF.out
theorem locB_none {m : Mdl} {f : Int} (h : fsigB m f = none) : locB m f = [] := by unfold locB; rw [h]
theorem locB_imp {m : Mdl} {f : Int} {t : List Int × List Int} (h : fsigB m f = some t) (hf : f < m.imps.length) : locB m f = [] := by unfold locB; rw [h]; simp only; rw [if_pos hf]
theorem locB_fun {m : Mdl} {d : Nat} {t : List Int × List Int} (h : fsigB m ((m.imps.length + d : Nat) : Int) = some t) : locB m ((m.imps.length + d : Nat) : Int) = t.1 ++ (m.funs.getD d fnc0).loc := by
  unfold locB; rw [h]; simp only; rw [if_neg (by omega), show (((m.imps.length + d : Nat) : Int) - m.imps.length).toNat = d by omega]
theorem fsigB_some_lt {m : Mdl} {f : Int} {t : List Int × List Int} (h : fsigB m f = some t) : 0 ≤ f ∧ f < m.imps.length + m.funs.length := by
  rcases (show (f < 0 ∨ (m.imps.length : Int) + m.funs.length ≤ f) ∨ (0 ≤ f ∧ f < m.imps.length + m.funs.length) by omega) with h1 | h1
  · rw [fsigB_none h1] at h; cases h
  · exact h1
theorem typeB_mem {m : Mdl} {k : Int} {t : List Int × List Int} (h : typeB m k = some t) : t ∈ m.types := by
  unfold typeB at h
  split at h
  · rename_i hk
    simp only [Option.some.injEq] at h
    rw [← h]
    exact getD_mem' _ _ _ (by omega)
  · cases h
theorem fsigB_mem {m : Mdl} {f : Int} {t : List Int × List Int} (h : fsigB m f = some t) : t ∈ m.types := by
  unfold fsigB at h
  split at h
  · cases h
  · split at h
    · exact typeB_mem h
    · exact typeB_mem h
set_option maxRecDepth 100000 in
set_option maxHeartbeats 4000000 in
theorem locals_any (w : World) (v : Mv) (m : Mdl) (h : ModAt (fun k => k < w.heap.size) w v m) (hs : Short m) (f : Int) (hf : -9223372036854775808 ≤ f ∧ f ≤ 9223372036854775807) :
    Calls Tryd.prog 7 #[.agg v.cells, .int .i64 f] w (LocC (locB m f) w) := by
  have HSG := Lib.hid (fun wz (hb : Below w.heap.size w wz) => sig_any wz v m (h.keep (Keeps.below hb fun _ hk => hk) fun _ hk => Nat.lt_of_lt_of_le hk hb.size) hs f hf)
  have h2 := h.funs
  obtain ⟨A0, c0, A1, c1, A2, c2, A3, c3, A4, c4, A5, c5, A6, c6, A7, c7, rfl⟩ := mod_slices h
  simp only [Mv.cells] at HSG ⊢
  simp only at h2
  have hl1 := hs.2.1
  have hl2 := hs.2.2.1
  have HTY := Lib.hid hs.2.2.2.1
  have HFL := Lib.hid hs.2.2.2.2
  clear h hs
  have HLN := Lib.hid (locB_none (m := m) (f := f))
  have HLI := Lib.hid (fun t => locB_imp (m := m) (f := f) (t := t))
  have HSL := Lib.hid (fun t => fsigB_some_lt (m := m) (f := f) (t := t))
  have HSM := Lib.hid (fun t => fsigB_mem (m := m) (f := f) (t := t))
  have HLF := Lib.hid (fun (d : Nat) t (hd : f = ((m.imps.length + d : Nat) : Int)) (hsg : fsigB m f = some t) => (show locB m f = t.1 ++ (m.funs.getD d fnc0).loc by subst hd; exact locB_fun hsg))
  obtain ⟨ts, hts⟩ : ∃ ts, fsigB m f = ts := ⟨_, rfl⟩
  rw [hts] at HSG HLN HLI HSL HSM HLF
  generalize locB m f = lo at HLN HLI HLF ⊢
  generalize m.types.length = n0 at *
  obtain ⟨n1, hn1⟩ : ∃ n, m.imps.length = n := ⟨_, rfl⟩
  obtain ⟨n2, hn2⟩ : ∃ n, m.funs.length = n := ⟨_, rfl⟩
  rw [hn1] at hl1 HSG HLI HSL HLF ⊢
  rw [hn2] at hl2 HSG HSL ⊢
  have HN2 := Lib.hid hn2
  generalize m.mems.length = n3 at *
  generalize m.exps.length = n5 at *
  generalize m.globs.length = n4 at *
  generalize m.datas.length = n6 at *
  generalize m.cus.length = n7 at *
  have H2 := Lib.hid h2
  have hb0 := (Below.refl w.heap.size w).alloc (Nat.le_refl _) (.cells #[.slice A0 n0 c0, .slice A1 n1 c1, .slice A2 n2 c2, .slice A3 n3 c3, .slice A4 n4 c4, .slice A5 n5 c5, .slice A6 n6 c6, .slice A7 n7 c7] 32)
  have HQ := Lib.hid (HSG.out _ hb0)
  have HB0 := Lib.hid hb0
  have HBX := Lib.hid (fun wz hb => box8_new w (.slice A0 n0 c0) (.slice A1 n1 c1) (.slice A2 n2 c2) (.slice A3 n3 c3) (.slice A4 n4 c4) (.slice A5 n5 c5) (.slice A6 n6 c6) (.slice A7 n7 c7) (wz := wz) hb)
  clear h2 hn1 hn2 hts hb0 HSG hf
  go_enter Tryd.func7, Tryd.ntmps7
  go_wp2_with fail
  go_at_call 5
  refine HQ.out.mono ?_
  rintro e w1 ⟨p', r', rfl, hi1, hi2, hb1⟩
  obtain ⟨P1, e1, hq1, _, _⟩ := hi1.form
  obtain ⟨P2, e2, hq2, _, _⟩ := hi2.form
  rw [hq1] at hi1 ⊢
  rw [hq2] at hi2 ⊢
  obtain ⟨b0, b1, b2, _⟩ := HBX.out _ (below_new hb1 (.cells #[.slice P1 (ts.getD ([], [])).1.length e1, .slice P2 (ts.getD ([], [])).2.length e2] 35))
  have HB1 := Lib.hid (below_then HB0.out hb1)
  have HI1 := Lib.hid (hi1.keep (K' := fun k => k < w1.heap.size) (Keeps.refl _ _) fun k hk => hk.elim False.elim fun h => h.2)
  clear hi1 hi2 hq1 hq2 HQ hb1 HB0 HBX
  cases ts with
  | none =>
    have HE := Lib.hid (HLN.out rfl)
    clear HLN HLI HSL HSM HLF
    simp only [Option.isSome_none, Option.getD_none, List.length_nil] at *
    go_wp2
    go_ret
    rw [HE.out]
    exact LocC.nil (below_new HB1.out _)
  | some t =>
    obtain ⟨hf0, hf1⟩ := HSL.out t rfl
    simp only [Option.isSome_some, Option.getD_some] at *
    by_cases hlt : f < n1
    · have HE := Lib.hid (HLI.out t rfl hlt)
      have d0 : decide (f < (n1 : Int)) = true := decide_eq_true hlt
      clear HLN HLI HSL HSM HLF hlt
      go_wp2
      go_ret
      rw [HE.out]
      exact LocC.nil (below_new HB1.out _)
    · obtain ⟨d, hd⟩ : ∃ d : Nat, f = ((n1 + d : Nat) : Int) := ⟨(f - n1).toNat, by omega⟩
      have HE := Lib.hid (HLF.out d t hd rfl)
      have hdn : d < n2 := by omega
      have htm := HTY.out t (HSM.out t rfl)
      have hfm := HFL.out _ (getD_mem' m.funs d fnc0 (by rw [HN2.out]; exact hdn))
      obtain ⟨g2, o2, cc2, he, _, _⟩ := CellsK.some_ H2.out (by rw [HN2.out]; omega)
      simp only [Value.slice.injEq] at he
      obtain ⟨rfl, -, rfl⟩ := he
      obtain ⟨u, ku, hu⟩ := CellsK.at_ H2.out d 1 (by rw [HN2.out]; exact hdn) (by decide)
      have hul : IntsK (fun k => k < w.heap.size) w u (m.funs.getD d fnc0).loc := hu
      generalize (m.funs.getD d fnc0).loc = ll at HE hul hfm
      obtain ⟨Al, cl, hue, _, _⟩ := hul.form
      rw [hue] at ku hul
      have d0 : decide (f < (n1 : Int)) = false := by simp; omega
      have d1 : IntKind.i64.wrap (f - (n1 : Int)) = (d : Int) := by rw [show f - (n1 : Int) = (d : Int) by omega]; exact IntWalk.i64_in _ (by omega)
      have d2 : (0 : Int) ≤ (d : Int) ∧ (d : Int) < (n2 : Int) := by omega
      generalize t.2.length = np2 at *
      obtain ⟨W, hW⟩ : ∃ W, W = w1.alloc (.cells #[.slice P1 t.1.length e1, .slice P2 np2 e2] 35) := ⟨_, rfl⟩
      have hbw1 : Below w1.heap.size w1 W := by rw [hW]; exact (Below.refl _ _).alloc (Nat.le_refl _) _
      have hk5 : W.cell? ⟨w1.heap.size, 0, none⟩ = some (.slice P1 t.1.length e1) := by rw [hW, World.cell?_alloc_new]; rfl
      have b1' := b1
      have b2' := b2
      rw [← hW] at b1' b2'
      have kul : W.cell? ⟨g2, o2 + d * 3 + 1, none⟩ = some (.slice Al ll.length cl) := ((below_then HB1.out hbw1).cell (p := ⟨g2, o2 + d * 3 + 1, none⟩) (World.block_lt_of_cell? _ _ ku)).trans ku
      have HBW := Lib.hid (below_then HB1.out hbw1)
      obtain ⟨n8, hn8⟩ : ∃ n, t.1.length = n := ⟨_, rfl⟩
      obtain ⟨n9, hn9⟩ : ∃ n, ll.length = n := ⟨_, rfl⟩
      have HCC := Lib.hid (concat_any (W.drew.alloc (.cells #[.slice P1 t.1.length e1, .slice Al ll.length cl] 22)) W.heap.size (.slice P1 t.1.length e1) (.slice Al ll.length cl) t.1 ll (by exact World.cell?_alloc_new W.drew _ _ 0) (by exact World.cell?_alloc_new W.drew _ _ 1)
        (HI1.out.keep (Keeps.below ((below_new hbw1.drew _)) fun _ hk => hk) fun k hk => Nat.lt_of_lt_of_le hk (below_new hbw1.drew _).size)
        (hul.keep (Keeps.below (below_new HBW.out.drew _) fun _ hk => hk) fun k hk => Nat.lt_of_lt_of_le hk (below_new HBW.out.drew _).size) htm.1 hfm)
      rw [hn8] at HCC hk5
      rw [hn9] at HCC kul
      rw [hn8] at hW b1 b2 ⊢
      have HF : Hid (∀ wz, Below W.drew.heap.size W.drew wz → wz.cell? ⟨w.heap.size, 1, none⟩ = some (.slice A1 n1 c1) ∧ wz.cell? ⟨w.heap.size, 2, none⟩ = some (.slice (some ⟨g2, o2, none⟩) n2 c2) ∧ wz.cell? ⟨w1.heap.size, 0, none⟩ = some (.slice P1 n8 e1) ∧ wz.cell? ⟨g2, o2 + d * 3 + 1, none⟩ = some (.slice Al n9 cl)) := Lib.hid fun wz hb =>
        ⟨(hb.cell (p := ⟨w.heap.size, 1, none⟩) (World.block_lt_of_cell? _ _ b1')).trans b1', (hb.cell (p := ⟨w.heap.size, 2, none⟩) (World.block_lt_of_cell? _ _ b2')).trans b2', (hb.cell (p := ⟨w1.heap.size, 0, none⟩) (World.block_lt_of_cell? _ _ hk5)).trans hk5, (hb.cell (p := ⟨g2, o2 + d * 3 + 1, none⟩) (World.block_lt_of_cell? _ _ kul)).trans kul⟩
      clear HLN HLI HSL HSM HLF hlt hd H2 ku hul hu hue hbw1 htm hfm HTY HFL hn8 hn9 HI1 hf0 hf1 b0
      go_upto_region 4 with (fail)
      rw [← hW]
      clear hW
      go_wp2_with fail
      go_region_held3 (fun w' => w'.cell? ⟨w.heap.size, 1, none⟩ = some (.slice A1 n1 c1) ∧ w'.cell? ⟨w.heap.size, 2, none⟩ = some (.slice (some ⟨g2, o2, none⟩) n2 c2) ∧ w'.cell? ⟨w1.heap.size, 0, none⟩ = some (.slice P1 n8 e1) ∧ w'.cell? ⟨g2, o2 + d * 3 + 1, none⟩ = some (.slice Al n9 cl))
        (first | exact HF.out _ (below_new (Below.refl _ _) _) | exact HF.out _ (below_then (below_new (Below.refl _ _) _) hb9) | go_keep)
        ((go_at_call 20; refine HCC.out.mono ?_; rintro e w9 ⟨P9, e9, rfl, hc9, hi9, hb9⟩))
      all_goals
        have hsz9 := (below_new (o := .cells #[.slice P1 n8 e1, .slice Al n9 cl] 22) HBW.out.drew).size
        have hfin : LocC lo w (.returned (.slice P9 (t.1 ++ ll).length e9)) w9 := by rw [HE.out]; exact ⟨_, _, rfl, hc9, IntsK.keep hi9 (Keeps.refl _ _) (fun k hk => And.intro (Nat.le_trans hsz9 hk.1) hk.2), below_then (below_new HBW.out.drew _) hb9⟩
        have HFIN := Lib.hid hfin
        clear hfin hsz9 hi9 hb9 hc9
        rw [List.length_append] at HFIN
        go_wp2
        go_ret
        exact HFIN.out
end Go.Proofs.YtinljaobdnkifaaDoor
namespace Go.Proofs.YtinljaobdnkifaaDoor
open Go.RowKit
section
variable {P : Program} {ops : Array Oper} {C : World → Prop}
theorem wp_region_class {id : Nat} {Q : Exit → Act → World → Prop} {a : Act} {w : World} {l : List Oper} {C : World → Prop} (hm : P.follows .mixedOrders = true) (hB : Region.lexB .any l.toArray = true) (hC : C w.drew)
    (h : wpQuiet P l.toArray C (fun a' => ∀ w', C w' → Q .normal a' w') l a) : (Code.region id l.toArray true).wp P Q a w :=
  wp_region_quiet (C := C) hm hB hC (by simpa using h)
theorem WpQ.take {Q : Act → Prop} {a : Act} {o : Oper} {rest : List Oper} {v : Value} (hw : Region.wanted o (yielded ops a.tmps) = true) (h : ∀ w, C w → o.quietAt P a C w v) (hk : wpQuiet P ops C Q rest (a.put o.dst v)) : wpQuiet P ops C Q (o :: rest) a := by
  show if _ then _ else _
  rw [if_pos hw]
  exact ⟨v, h, hk⟩
theorem WpQ.skip {Q : Act → Prop} {a : Act} {o : Oper} {rest : List Oper} (hw : Region.wanted o (yielded ops a.tmps) = false) (hk : wpQuiet P ops C Q rest (a.put o.dst undef)) : wpQuiet P ops C Q (o :: rest) a := by
  show if _ then _ else _
  rw [if_neg (by rw [hw]; simp)]
  exact hk
end
end Go.Proofs.YtinljaobdnkifaaDoor
