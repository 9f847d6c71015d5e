/-
  Strings as rows of bytes; rows of strings; contracts of slices.Index and slices.Contains on them, of HasPrefix, CutPrefix.
-/
import Derived.Test.YtmcippkhfjgkoaaDoorLrow
import Derived.Test.YtmcippkhfjgkoaaDoorTSpec
import Derived.Lib.Strings
import Derived.Laws.Strings3
import Derived.Lib.Walk
import Derived.WalkSpells
namespace Go.Proofs.YtmcippkhfjgkoaaDoor
open Go.RowKit

/-- A string's bytes as numbers. -/
def nums (s : ByteArray) : List Nat := s.data.toList.map UInt8.toNat
theorem map_toNat_inj : ∀ (a b : List UInt8), a.map UInt8.toNat = b.map UInt8.toNat → a = b
  | [], [], _ => rfl
  | [], _ :: _, h => by cases h
  | _ :: _, [], h => by cases h
  | x :: a, y :: b, h => by
    simp only [List.map_cons, List.cons.injEq] at h
    rw [UInt8.toNat_inj.1 h.1, map_toNat_inj a b h.2]
theorem nums_beq (s t : ByteArray) : (s.toList == t.toList) = decide (nums s = nums t) := by
  rw [Lib.toList_data, Lib.toList_data]
  unfold nums
  rw [Bool.eq_iff_iff]
  simp only [beq_iff_eq, decide_eq_true_eq]
  exact ⟨fun h => by rw [h], map_toNat_inj _ _⟩
theorem nums_lt (s : ByteArray) : ∀ x ∈ nums s, x < 256 := by
  intro x hx
  obtain ⟨b, _, rfl⟩ := List.mem_map.1 hx
  exact UInt8.toNat_lt b
theorem nums_length (s : ByteArray) : (nums s).length = s.size := by
  unfold nums; rw [List.length_map, Lib.size_eq]
theorem nums_append (s t : ByteArray) : nums (s ++ t) = nums s ++ nums t := by
  unfold nums
  rw [show (s ++ t).data = s.data ++ t.data from ByteArray.data_append]
  simp
theorem nums_extract (s : ByteArray) (a b : Nat) : nums (s.extract a b) = ((nums s).drop a).take (b - a) := by
  unfold nums
  rw [Lib.extract_data, List.map_take, List.map_drop]
theorem nums_ne {s t : ByteArray} (h : nums s ≠ nums t) : (s.toList == t.toList) = false := by rw [nums_beq, decide_eq_false h]
theorem nums_is {s t : ByteArray} (h : nums s = nums t) : (s.toList == t.toList) = true := by rw [nums_beq, decide_eq_true h]

/-- The slice at A, of so many strings, reads as T. -/
def Names (w : World) (A : Option Addr) (T : List ByteArray) : Prop :=
  0 < T.length → ∃ g o : Nat, A = some ⟨g, o, none⟩ ∧ g < w.heap.size ∧ ∀ j, j < T.length → w.cell? ⟨g, o + j, none⟩ = some (.string (T.getD j ByteArray.empty))
theorem Names.nil (w : World) (A : Option Addr) : Names w A [] := fun h => by simp at h
theorem Names.below {w w' : World} {A : Option Addr} {T : List ByteArray} (h : Names w A T) (hb : Below w.heap.size w w') : Names w' A T := fun hl => by
  obtain ⟨g, o, r1, r2, r3⟩ := h hl
  exact ⟨g, o, r1, Nat.lt_of_lt_of_le r2 hb.size, fun j hj => (hb.cell (p := ⟨g, o + j, none⟩) r2).trans (r3 j hj)⟩
/-- Is s among T's strings? -/
def hasS (T : List ByteArray) (s : ByteArray) : Bool := decide (nums s ∈ T.map nums)
theorem hasS_hit {T : List ByteArray} {s : ByteArray} {k : Nat} (hk : k < T.length) (h : nums s = nums (T.getD k ByteArray.empty)) : hasS T s = true := by
  unfold hasS
  rw [decide_eq_true_eq, h, List.mem_map]
  refine ⟨T[k], List.getElem_mem hk, ?_⟩
  congr 1
  simp [List.getD, hk]
theorem hasS_miss {T : List ByteArray} {s : ByteArray} (h : ∀ k, k < T.length → nums s ≠ nums (T.getD k ByteArray.empty)) : hasS T s = false := by
  unfold hasS
  rw [decide_eq_false_iff_not, List.mem_map]
  rintro ⟨t, ht, he⟩
  obtain ⟨k, hk, rfl⟩ := List.mem_iff_getElem.1 ht
  refine h k hk ?_
  rw [← he]
  congr 1
  simp [List.getD, hk]

abbrev IdxPost (b : Bool) (w : World) (e : Ending) (w' : World) : Prop := (∃ i : Int, e = .returned (.int .i64 i) ∧ decide (0 ≤ i) = b) ∧ w = w'
theorem index_any (A : Option Addr) (n cap : Nat) (T : List ByteArray) (hT : T.length = n) (hn : n ≤ 1000000) (s : ByteArray) (w : World) (hA : Names w A T) :
    Calls Tryd.prog 21 #[.slice A n cap, .string s] w (IdxPost (hasS T s) w) := by
  have HT := Lib.hid hT
  have HA := Lib.hid hA
  clear hT hA
  go_enter Tryd.func21, Tryd.ntmps21
  go_wp2
  go_loop [8] (fun i => ∃ k : Nat, k ≤ n ∧ i = .int .i64 (k : Int) ∧ Hid (∀ j, j < k → nums s ≠ nums (T.getD j ByteArray.empty))) (fun i => n - (intOf i).toNat)
  case atStart => exact ⟨0, Nat.zero_le _, rfl, Lib.hid (fun j hj => by omega)⟩
  case round =>
    obtain ⟨k, hk, rfl, hne⟩ := hrel
    by_cases hlt : k < n
    · obtain ⟨g, o, rfl, _, hc⟩ := HA.out (by rw [HT.out]; omega)
      have c0 := hc k (by rw [HT.out]; exact hlt)
      have hit := hasS_hit (T := T) (s := s) (k := k) (by rw [HT.out]; exact hlt)
      have hn2 := hne.out
      generalize hx : T.getD k ByteArray.empty = x at c0 hit
      have HXX := Lib.hid hx
      clear hc hx
      by_cases he : nums s = nums x
      · have h1 := nums_is he
        have HH := Lib.hid (hit he)
        clear hit he hn2
        go_wp2
        go_ret
        refine ⟨⟨_, rfl, ?_⟩, rfl⟩
        rw [HH.out]; simp
      · have h1 := nums_ne he
        have HE := Lib.hid he
        clear hit he hn2
        go_wp2
        go_round
        case rel =>
          refine ⟨k + 1, by omega, by go_num, Lib.hid (fun j hj => ?_)⟩
          by_cases hjk : j = k
          · subst hjk; rw [HXX.out]; exact HE.out
          · exact hne.out j (by omega)
        case measure => simp [intOf]; omega
    · obtain rfl : k = n := by omega
      have HH := Lib.hid (hasS_miss (T := T) (s := s) (fun j hj => hne.out j (by rw [HT.out] at hj; exact hj)))
      go_wp2
      go_ret
      refine ⟨⟨_, rfl, ?_⟩, rfl⟩
      rw [HH.out]; rfl
theorem contains_any (A : Option Addr) (n cap : Nat) (T : List ByteArray) (hT : T.length = n) (hn : n ≤ 1000000) (s : ByteArray) (b : Bool) (hb : hasS T s = b) (w : World) (hA : Names w A T) :
    Calls Tryd.prog 15 #[.slice A n cap, .string s] w fun e w' => e = .returned (.bool b) ∧ w = w' := by
  have H := Lib.hid (index_any A n cap T hT hn s w hA)
  rw [hb] at H
  clear hb
  go_enter Tryd.func15, Tryd.ntmps15
  go_wp2_with (go_at_call 21; refine H.out.mono ?_; rintro e w' ⟨⟨i, rfl, hi⟩, rfl⟩)
  all_goals go_ret
  all_goals exact ⟨rfl, rfl⟩
end Go.Proofs.YtmcippkhfjgkoaaDoor
