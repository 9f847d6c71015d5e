/- A part of the proof. -/
import Derived.Test.YteohmkceapblkaaDoorJ35
import Derived.Test.YteohmkceapblkaaDoorJ36
namespace Go.Proofs.YteohmkceapblkaaDoor
open Go.RowKit
theorem num_ways (op : Int) (h : numB op = true) : op = 69 ∨ (70 ≤ op ∧ op ≤ 79) ∨ op = 80 ∨ (81 ≤ op ∧ op ≤ 90) ∨ (97 ≤ op ∧ op ≤ 102) ∨ (103 ≤ op ∧ op ≤ 105) ∨ (106 ≤ op ∧ op ≤ 120) ∨ (121 ≤ op ∧ op ≤ 123) ∨ (124 ≤ op ∧ op ≤ 138) ∨ (153 ≤ op ∧ op ≤ 159) ∨ (160 ≤ op ∧ op ≤ 166) ∨ op = 167 ∨ op = 170 ∨ op = 171 ∨ op = 172 ∨ op = 173 ∨ op = 176 ∨ op = 177 ∨ op = 183 ∨ op = 184 ∨ (185 ≤ op ∧ op ≤ 186) ∨ op = 189 ∨ op = 191 ∨ op = 192 ∨ op = 193 ∨ (194 ≤ op ∧ op ≤ 196) ∨ op = 64514 ∨ op = 64515 ∨ op = 64518 ∨ op = 64519 := by
  have e : isB op = true ∨ isF op = true := by simpa [numB] using h
  rcases e with e | e
  · have := of_decide_eq_true e; omega
  · have := of_decide_eq_true e; omega
theorem rnum_any (op : Int) (w : World) : Calls Tryd.prog 4 #[.int .i64 op] w (RNumPost op w) := by
  by_cases h : numB op = true
  case neg => exact rnum_no op (by simpa using h) w
  rcases num_ways op h with rfl | ⟨h0, h1⟩ | rfl | ⟨h0, h1⟩ | ⟨h0, h1⟩ | ⟨h0, h1⟩ | ⟨h0, h1⟩ | ⟨h0, h1⟩ | ⟨h0, h1⟩ | ⟨h0, h1⟩ | ⟨h0, h1⟩ | rfl | rfl | rfl | rfl | rfl | rfl | rfl | rfl | rfl | ⟨h0, h1⟩ | rfl | rfl | rfl | rfl | ⟨h0, h1⟩ | rfl | rfl | rfl | rfl
  · exact rnum_69 w
  · exact rnum_70 op h0 h1 w
  · exact rnum_80 w
  · exact rnum_81 op h0 h1 w
  · exact rnum_97 op h0 h1 w
  · exact rnum_103 op h0 h1 w
  · exact rnum_106 op h0 h1 w
  · exact rnum_121 op h0 h1 w
  · exact rnum_124 op h0 h1 w
  · exact rnum_153 op h0 h1 w
  · exact rnum_160 op h0 h1 w
  · exact rnum_167 w
  · exact rnum_170 w
  · exact rnum_171 w
  · exact rnum_172 w
  · exact rnum_173 w
  · exact rnum_176 w
  · exact rnum_177 w
  · exact rnum_183 w
  · exact rnum_184 w
  · exact rnum_185 op h0 h1 w
  · exact rnum_189 w
  · exact rnum_191 w
  · exact rnum_192 w
  · exact rnum_193 w
  · exact rnum_194 op h0 h1 w
  · exact rnum_64514 w
  · exact rnum_64515 w
  · exact rnum_64518 w
  · exact rnum_64519 w
end Go.Proofs.YteohmkceapblkaaDoor
