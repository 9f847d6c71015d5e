/-
  Rows of bytes in memory.
-/
import Derived.Test.YtljhdibnnaepdaaProg
import Derived.Test.YtljhdibnnaepdaaBase
import Derived.Test.YtljhdibnnaepdaaLSpec
namespace Go.Proofs.Ytljhdibnnaepdaa
open Go.RowKit

/-- A byte as a value. -/
def byt (x : Nat) : Value := .int .u8 (x : Int)
/-- The slice at A, of so many bytes, reads as l. -/
def Bytes (w : World) (A : Option Addr) (l : List Nat) : Prop :=
  (∀ x ∈ l, x < 256) ∧ (0 < l.length → ∃ g o : Nat, A = some ⟨g, o, none⟩ ∧ g < w.heap.size ∧ ∀ j, j < l.length → w.cell? ⟨g, o + j, none⟩ = some (.int .u8 (l.getD j 0 : Nat)))
theorem Bytes.nil (w : World) (A : Option Addr) : Bytes w A [] := ⟨by simp, fun h => by simp at h⟩
theorem Bytes.below {w w' : World} {A : Option Addr} {l : List Nat} (h : Bytes w A l) (hb : Below w.heap.size w w') : Bytes w' A l :=
  ⟨h.1, fun hl => by
    obtain ⟨g, o, r1, r2, r3⟩ := h.2 hl
    exact ⟨g, o, r1, Nat.lt_of_lt_of_le r2 hb.size, fun j hj => (hb.cell (p := ⟨g, o + j, none⟩) r2).trans (r3 j hj)⟩⟩
theorem getD_lt {l : List Nat} {b : Nat} (hb : 0 < b) (h : ∀ x ∈ l, x < b) (j : Nat) : l.getD j 0 < b := by
  rcases Nat.lt_or_ge j l.length with hj | hj
  · have e : l.getD j 0 = l[j] := by simp [hj]
    rw [e]; exact h _ (List.getElem_mem hj)
  · simp [List.getD, hj, hb]
/-- A part of it. -/
theorem Bytes.part {w : World} {A : Option Addr} {l : List Nat} (h : Bytes w A l) (k m : Nat) (hm : k + m ≤ l.length) (A' : Option Addr) (hA : ∀ g o : Nat, 0 < m → A = some ⟨g, o, none⟩ → A' = some ⟨g, o + k, none⟩) : Bytes w A' ((l.drop k).take m) := by
  refine ⟨fun x hx => h.1 x (List.mem_of_mem_drop (List.mem_of_mem_take hx)), fun hl => ?_⟩
  have hm' : 0 < m := by simp at hl; omega
  obtain ⟨g, o, rfl, r2, r3⟩ := h.2 (by omega)
  refine ⟨g, o + k, hA g o hm' rfl, r2, fun j hj => ?_⟩
  have hj' : j < m := by simp at hj; omega
  have e : ((l.drop k).take m).getD j 0 = l.getD (k + j) 0 := by simp [List.getD, hj']
  rw [e, Nat.add_assoc]
  exact r3 (k + j) (by omega)
theorem Try.info_byte : (Try.prog.info? 5).map (fun i => (i.zero, i.size, i.bytes)) = some (some (.int .u8 0), 1, 1) := by kernel_rfl
/-- What the call owns reads as it holds. -/
theorem bytes_owned {w : World} {base : Nat} {e : TypeId} {v : Value} {l : List Nat} (h : w.ownsRow base e 1 v l.length (l.map byt)) (hl : ∀ x ∈ l, x < 256) : ∃ A c, v = .slice A l.length c ∧ l.length ≤ c ∧ Bytes w A l := by
  rcases h.2 with ⟨rfl, h0⟩ | ⟨g, cap, cur, rfl, _, hcur, hc, _⟩
  · rw [h0]
    exact ⟨none, 0, rfl, Nat.le_refl _, hl, fun h => by omega⟩
  · refine ⟨_, cap, rfl, hc, hl, fun _ => ⟨g, 0, rfl, (Array.getElem?_eq_some_iff.1 hcur).1, fun j hj => ?_⟩⟩
    have h3 := h.cells (g := g) rfl j (byt (l.getD j 0)) (by simp [hj])
    rw [add_lit0] at h3
    rw [Nat.zero_add]
    exact h3
theorem bytes_one (l : List Nat) : ∀ u ∈ l.map byt, u.oneCell' = true := by
  intro u hu; obtain ⟨x, _, rfl⟩ := List.mem_map.1 hu; rfl
end Go.Proofs.Ytljhdibnnaepdaa
