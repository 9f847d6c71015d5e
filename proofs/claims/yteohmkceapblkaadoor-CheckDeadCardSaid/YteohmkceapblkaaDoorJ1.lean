/- A part of the proof. -/
import Derived.WalkKit
import Derived.WalkLawsBesides
import Derived.Lib.Hide
import Derived.Below
import Derived.Deep.AppendLies
import Derived.Deep.QuietTactic
import Derived.BigQuiet
import Derived.WalkSmall
import Derived.Test.YteohmkceapblkaaDoorProg
namespace Go.Proofs.YteohmkceapblkaaDoor
section
open Go.RowKit
def BoolPost (b : Bool) (w : World) (e : Ending) (w' : World) : Prop := e = .returned (.bool b) ∧ Below w.heap.size w w'
def ValPost (v : Value) (w : World) (e : Ending) (w' : World) : Prop := e = .returned v ∧ Below w.heap.size w w'
theorem below_then {a b c : World} (h : Below a.heap.size a b) (k : Below b.heap.size b c) : Below a.heap.size a c := h.trans (k.mono h.size)
theorem below_drewN {B : Nat} {a w : World} (h : Below B a w) (n : Nat) : Below B a (w.drewN n) := ⟨h.os, h.tape, h.output, h.size, h.block⟩
theorem below_new {w w1 : World} (h : Below w.heap.size w w1) (o : Obj) : Below w.heap.size w (w1.alloc o) := h.alloc h.size o
theorem ret_bool {b c : Bool} (h : b = c) : Ending.returned (.bool b) = .returned (.bool c) := by rw [h]
theorem ret_int {k : IntKind} {a b : Int} (h : a = b) : Ending.returned (.int k a) = .returned (.int k b) := by rw [h]
theorem owns_below {w w' : World} {base : Nat} {e : TypeId} {size : Nat} {v : Value} {n : Nat} {xs : List Value} (h : w.ownsRow base e size v n xs) (hb : Below w.heap.size w w') : w'.ownsRow base e size v n xs := by
  obtain ⟨h1, h2⟩ := h
  refine ⟨h1, ?_⟩
  rcases h2 with h2 | ⟨g, cap, cur, r1, r2, r3, r4⟩
  · exact .inl h2
  · have hg : g < w.heap.size := (Array.getElem?_eq_some_iff.1 r3).1
    exact .inr ⟨g, cap, cur, r1, r2, (hb.block g hg).trans r3, r4⟩
theorem add_lit0 (g j : Nat) : (⟨g, 0, none⟩ : Addr).add j = ⟨g, j, none⟩ := by unfold Addr.add; split <;> simp_all
theorem info_parts {P : Program} {t : TypeId} {z : Value} {s b : Nat} (h : (P.info? t).map (fun i => (i.zero, i.size, i.bytes)) = some (some z, s, b)) :
    ∃ i, P.info? t = some i ∧ i.zero = some z ∧ i.size = s ∧ i.bytes = b := by
  cases hi : P.info? t with
  | none => rw [hi] at h; cases h
  | some i =>
    rw [hi] at h
    have h1 : (i.zero, i.size, i.bytes) = (some z, s, b) := by simpa using h
    exact ⟨i, rfl, congrArg Prod.fst h1, congrArg (·.2.1) h1, congrArg (·.2.2) h1⟩
end
section
open Go.RowKit
def Bytes (w : World) (A : Option Addr) (l : List Nat) : Prop :=
  (∀ x ∈ l, x < 256) ∧ (0 < l.length → ∃ g o : Nat, A = some ⟨g, o, none⟩ ∧ g < w.heap.size ∧ ∀ j, j < l.length → w.cell? ⟨g, o + j, none⟩ = some (.int .u8 (l.getD j 0 : Nat)))
theorem Bytes.nil (w : World) (A : Option Addr) : Bytes w A [] := ⟨by simp, fun h => by simp at h⟩
theorem Bytes.below {w w' : World} {A : Option Addr} {l : List Nat} (h : Bytes w A l) (hb : Below w.heap.size w w') : Bytes w' A l :=
  ⟨h.1, fun hl => by
    obtain ⟨g, o, r1, r2, r3⟩ := h.2 hl
    exact ⟨g, o, r1, Nat.lt_of_lt_of_le r2 hb.size, fun j hj => (hb.cell (p := ⟨g, o + j, none⟩) r2).trans (r3 j hj)⟩⟩
theorem getD_lt {l : List Nat} {b : Nat} (hb : 0 < b) (h : ∀ x ∈ l, x < b) (j : Nat) : l.getD j 0 < b := by
  rcases Nat.lt_or_ge j l.length with hj | hj
  · have e : l.getD j 0 = l[j] := by simp [hj]
    rw [e]; exact h _ (List.getElem_mem hj)
  · simp [List.getD, hj, hb]
theorem Bytes.part {w : World} {A : Option Addr} {l : List Nat} (h : Bytes w A l) (k m : Nat) (hm : k + m ≤ l.length) (A' : Option Addr) (hA : ∀ g o : Nat, 0 < m → A = some ⟨g, o, none⟩ → A' = some ⟨g, o + k, none⟩) : Bytes w A' ((l.drop k).take m) := by
  refine ⟨fun x hx => h.1 x (List.mem_of_mem_drop (List.mem_of_mem_take hx)), fun hl => ?_⟩
  have hm' : 0 < m := by simp at hl; omega
  obtain ⟨g, o, rfl, r2, r3⟩ := h.2 (by omega)
  refine ⟨g, o + k, hA g o hm' rfl, r2, fun j hj => ?_⟩
  have hj' : j < m := by simp at hj; omega
  have e : ((l.drop k).take m).getD j 0 = l.getD (k + j) 0 := by simp [List.getD, hj']
  rw [e, Nat.add_assoc]
  exact r3 (k + j) (by omega)
end
section
def contB (x : Nat) : Bool := decide (128 ≤ x) && decide (x < 192)
def moreB (x : Nat) : Nat := if 192 ≤ x ∧ x < 224 then 1 else if 224 ≤ x ∧ x < 240 then 2 else if 240 ≤ x ∧ x < 248 then 3 else 0
def maskB (k : Nat) : Nat := if k = 1 then 32 else if k = 2 then 16 else 8
def leastB (k : Nat) : Nat := if k = 1 then 128 else if k = 2 then 2048 else 65536
def taccB (v : Nat) : List Nat → Nat
  | [] => v
  | y :: l => taccB (v * 64 + y % 64) l
def badV (k v : Nat) : Bool := decide (v < leastB k ∨ (55296 ≤ v ∧ v < 57344) ∨ 1114112 ≤ v)
def tvalB (x k : Nat) (t : List Nat) : Nat := taccB (x % maskB k) (t.take k)
def charB : List Nat → Nat
  | [] => 0
  | x :: t => if x < 128 then 1 else if moreB x = 0 ∨ t.length < moreB x ∨ (t.take (moreB x)).all contB = false ∨ badV (moreB x) (tvalB x (moreB x) t) = true then 0 else moreB x + 1
def charsB (l : List Nat) : Option Nat :=
  if l = [] then some 0 else if h : charB l = 0 then none else (charsB (l.drop (charB l))).map (· + 1)
termination_by l.length
decreasing_by
  rename_i h0
  have : 0 < l.length := List.length_pos_iff.2 h0
  rw [List.length_drop]; omega
def joinI (m : Nat) : Option Nat → Int
  | none => -1
  | some t => ((m + t : Nat) : Int)
def cntI (l : List Nat) : Int := joinI 0 (charsB l)
theorem charB_cons (x : Nat) (t : List Nat) : charB (x :: t) = if x < 128 then 1 else if moreB x = 0 ∨ t.length < moreB x ∨ (t.take (moreB x)).all contB = false ∨ badV (moreB x) (tvalB x (moreB x) t) = true then 0 else moreB x + 1 := rfl
theorem charB_more {x : Nat} {t : List Nat} (hx : ¬ x < 128) (hc : charB (x :: t) ≠ 0) :
    charB (x :: t) = moreB x + 1 ∧ moreB x ≠ 0 ∧ moreB x ≤ t.length ∧ (t.take (moreB x)).all contB = true ∧ badV (moreB x) (tvalB x (moreB x) t) = false := by
  rw [charB_cons, if_neg hx] at hc ⊢
  split at hc
  · exact absurd rfl hc
  · rename_i h
    rw [if_neg h]
    refine ⟨rfl, fun h0 => h (.inl h0), ?_, ?_, ?_⟩
    · rcases Nat.lt_or_ge t.length (moreB x) with h1 | h1
      · exact absurd (.inr (.inl h1)) h
      · exact h1
    · cases h1 : (t.take (moreB x)).all contB with
      | true => rfl
      | false => exact absurd (.inr (.inr (.inl h1))) h
    · cases h1 : badV (moreB x) (tvalB x (moreB x) t) with
      | false => rfl
      | true => exact absurd (.inr (.inr (.inr h1))) h
theorem charB_good {x : Nat} {t : List Nat} (hx : ¬ x < 128) (h1 : moreB x ≠ 0) (h2 : moreB x ≤ t.length) (h3 : (t.take (moreB x)).all contB = true) (h4 : badV (moreB x) (tvalB x (moreB x) t) = false) :
    charB (x :: t) = moreB x + 1 := by
  rw [charB_cons, if_neg hx, if_neg]
  rintro (h | h | h | h)
  · exact h1 h
  · omega
  · rw [h3] at h; cases h
  · rw [h4] at h; cases h
theorem charB_one {x : Nat} {t : List Nat} (hx : x < 128) : charB (x :: t) = 1 := by rw [charB_cons, if_pos hx]
theorem charB_none {x : Nat} {t : List Nat} (hx : ¬ x < 128) (h : moreB x = 0 ∨ t.length < moreB x ∨ (t.take (moreB x)).all contB = false ∨ badV (moreB x) (tvalB x (moreB x) t) = true) : charB (x :: t) = 0 := by
  rw [charB_cons, if_neg hx, if_pos h]
theorem moreB_le (x : Nat) : moreB x ≤ 3 := by unfold moreB; split; · omega
                                               · split; · omega
                                                 · split <;> omega
theorem charB_le (l : List Nat) : charB l ≤ l.length ∧ charB l ≤ 4 := by
  cases l with
  | nil => exact ⟨Nat.le_refl _, Nat.zero_le _⟩
  | cons x t =>
    by_cases hx : x < 128
    · rw [charB_one hx]; simp
    · by_cases h : charB (x :: t) = 0
      · rw [h]; simp
      · obtain ⟨h1, h2, h3, _⟩ := charB_more hx h
        have := moreB_le x
        rw [h1]; simp; omega
theorem cons_of {l : List Nat} (h : 0 < l.length) : l = l.getD 0 0 :: l.drop 1 := by
  cases l with
  | nil => simp at h
  | cons x t => simp
theorem accB_snoc (l : List Nat) : ∀ (v y : Nat), taccB v (l ++ [y]) = taccB v l * 64 + y % 64 := by
  induction l with
  | nil => intro v y; rfl
  | cons a l ih => intro v y; exact ih _ y
theorem accB_take (t : List Nat) (j : Nat) (h : j < t.length) (v : Nat) : taccB v (t.take (j + 1)) = taccB v (t.take j) * 64 + t.getD j 0 % 64 := by
  have e : t.take (j + 1) = t.take j ++ [t.getD j 0] := by
    rw [List.take_succ_eq_append_getElem h]; simp [List.getD, h]
  rw [e, accB_snoc]
theorem accB_lt (l : List Nat) : ∀ v, taccB v l < (v + 1) * 64 ^ l.length := by
  induction l with
  | nil => intro v; simp [taccB]
  | cons y l ih =>
    intro v
    have := ih (v * 64 + y % 64)
    have h2 : v * 64 + y % 64 + 1 ≤ (v + 1) * 64 := by omega
    have h3 : (v * 64 + y % 64 + 1) * 64 ^ l.length ≤ (v + 1) * 64 * 64 ^ l.length := Nat.mul_le_mul_right _ h2
    simp only [taccB, List.length_cons]
    rw [Nat.pow_succ, Nat.mul_comm (64 ^ l.length) 64, ← Nat.mul_assoc]
    omega
theorem accB_small (x k j : Nat) (t : List Nat) (hj : j ≤ 3) : taccB (x % maskB k) (t.take j) < 8388608 := by
  have h := accB_lt (t.take j) (x % maskB k)
  have hm : x % maskB k + 1 ≤ 32 := by
    unfold maskB
    split
    · omega
    · split <;> omega
  have hl : (t.take j).length ≤ 3 := by rw [List.length_take]; omega
  have h2 : (64 : Nat) ^ (t.take j).length ≤ 64 ^ 3 := Nat.pow_le_pow_right (by decide) hl
  have h3 : (x % maskB k + 1) * 64 ^ (t.take j).length ≤ 32 * 64 ^ 3 := Nat.mul_le_mul hm h2
  omega
theorem all_take_succ {t : List Nat} {j : Nat} (h : j < t.length) (ha : (t.take j).all contB = true) (hc : contB (t.getD j 0) = true) : (t.take (j + 1)).all contB = true := by
  have e : t.take (j + 1) = t.take j ++ [t.getD j 0] := by
    rw [List.take_succ_eq_append_getElem h]; simp [List.getD, h]
  rw [e, List.all_append, ha]; simp only [List.all_cons, List.all_nil, hc, Bool.and_self]
theorem all_take_no {t : List Nat} {j k : Nat} (h : j < t.length) (hk : j < k) (hc : contB (t.getD j 0) = false) : (t.take k).all contB = false := by
  rw [Bool.eq_false_iff]
  intro ha
  have h1 := List.all_eq_true.1 ha (t.getD j 0) (List.mem_iff_getElem?.2 ⟨j, by rw [List.getElem?_take, if_pos hk]; simp [List.getD, h]⟩)
  rw [hc] at h1; cases h1
theorem joinI_end (m : Nat) : joinI m (charsB []) = m := by rw [charsB]; simp [joinI]
theorem joinI_bad {l : List Nat} (h : 0 < l.length) (hc : charB l = 0) (m : Nat) : joinI m (charsB l) = -1 := by
  rw [charsB, if_neg (by rintro rfl; simp at h), dif_pos hc]; rfl
theorem joinI_step {l : List Nat} (h : 0 < l.length) (hc : charB l ≠ 0) (m : Nat) : joinI m (charsB l) = joinI (m + 1) (charsB (l.drop (charB l))) := by
  rw [charsB, if_neg (by rintro rfl; simp at h), dif_neg hc]
  cases charsB (l.drop (charB l)) with
  | none => rfl
  | some t => simp only [Option.map_some, joinI]; omega
end
end Go.Proofs.YteohmkceapblkaaDoor
