/-
  Contract of text.number; slices.Index on bools.
-/
import Derived.Test.YtmcippkhfjgkoaaDoorTstr
import Derived.Lib.ConvBytes
import Derived.Lib.UnsafeStr
import Derived.Laws.AppendOwn
namespace Go.Proofs.YtmcippkhfjgkoaaDoor
open Go.RowKit

theorem below_bytes (w : World) (e : TypeId) (s : ByteArray) : Below w.heap.size w (Lib.bytesWorld w e s) := by
  unfold Lib.bytesWorld
  refine Lib.below_freeze ((below_drewN (Below.refl _ _) 1).alloc ?_ _) (p := ⟨w.heap.size, _, none⟩) (Nat.le_refl _) 1
  exact Nat.le_refl _
theorem bytes_conv (w : World) (s : ByteArray) : Bytes (Lib.bytesWorld w 5 s) (some ⟨w.heap.size, 0, none⟩) (nums s) := by
  refine ⟨nums_lt s, fun h => ⟨w.heap.size, 0, rfl, by rw [Lib.bytesWorld_size]; omega, fun j hj => ?_⟩⟩
  rw [nums_length] at hj
  rw [Nat.zero_add, Lib.bytesWorld_cell w _ s j hj]
  congr 2
  unfold nums
  rw [Lib.size_eq, Array.length_toList] at hj
  cases h2 : s.data[j]? with
  | none => rw [Array.getElem?_eq_none_iff] at h2; omega
  | some b => simp [List.getD, h2]
abbrev NumPost (v : Nat) (w : World) (e : Ending) (w' : World) : Prop := ValPost (.int .i64 (v : Int)) w e w'
theorem conv_any (w : World) (s : ByteArray) : (convert 9 23 (.string s)).run Tryd.prog w = .ok (.slice (some ⟨w.heap.size, 0, none⟩) s.size (grownCap w s.size 0 5)) (Lib.bytesWorld w 5 s) :=
  Lib.run_convert_string_bytes w 9 23 5 s Tryd.underlying9 Tryd.underlying23 Tryd.underlying5

theorem first_byte (s : ByteArray) (h : 0 < s.size) : ((s[0]'h).toNat : Int) = ((nums s).getD 0 0 : Nat) := by
  obtain ⟨⟨l⟩⟩ := s
  cases l with
  | nil => exact absurd h (by decide)
  | cons x t => rfl
theorem size_pos_list {s : ByteArray} (h : 0 < s.size) : s.toList.isEmpty = false ∧ ¬ s.toList = [] := by
  have h2 : ¬ s.toList = [] := fun he => by
    rw [Lib.toList_data] at he
    rw [Lib.size_eq, he] at h
    simp at h
  exact ⟨by simpa using h2, h2⟩
set_option maxHeartbeats 1000000 in
theorem number_any (s : ByteArray) (hs : s.size ≤ 9223372036854775807) (most : Nat) (hm : most < 100) (w : World) :
    Calls Tryd.prog 17 #[.string s, .int .i64 (most : Int)] w (NumPost (numB (nums s) most) w) := by
  by_cases he : s.size = 0
  · have hl : nums s = [] := List.eq_nil_of_length_eq_zero (by rw [nums_length]; exact he)
    have h1 : s.toList = [] := by rw [Lib.toList_data]; exact List.eq_nil_of_length_eq_zero (by rw [← Lib.size_eq]; exact he)
    have h2 : s.toList.isEmpty = true := by rw [h1]; rfl
    have HR := Lib.hid (num_zero (most := most) (.inl hl))
    clear hl
    go_enter Tryd.func17, Tryd.ntmps17
    go_wp2
    go_ret
    exact ⟨ret_int (by rw [HR.out]; rfl), Below.refl _ _⟩
  · have hpos : 0 < s.size := by omega
    obtain ⟨h1, h2⟩ := size_pos_list hpos
    have h3 := first_byte s hpos
    have hlen := nums_length s
    have hby := fun w => bytes_conv w s
    have hconv := fun w => conv_any w s
    have hzero := num_zero (l := nums s) (most := most)
    generalize nums s = l at h3 hlen hby hzero ⊢
    have HBY := Lib.hid hby
    have HLEN := Lib.hid hlen
    obtain ⟨a, ha⟩ : ∃ a, l.getD 0 0 = a := ⟨_, rfl⟩
    rw [ha] at h3 hzero
    have HA := Lib.hid ha
    clear he hby hlen ha
    by_cases h48 : a = 48
    · have HR := Lib.hid (hzero (.inr h48))
      have h4 : ((a : Int) == 48) = true := by simp; omega
      clear h48 hzero
      go_enter Tryd.func17, Tryd.ntmps17
      go_wp2
      go_ret
      exact ⟨ret_int (by rw [HR.out]; rfl), Below.refl _ _⟩
    · have H48 := Lib.hid h48
      have h4 : ((a : Int) == 48) = false := by simp; omega
      have hnx := below_bytes w 5 s
      have HB := Lib.hid (HBY.out w)
      clear hzero h48
      go_enter Tryd.func17, Tryd.ntmps17
      go_wp2
      clear hconv
      generalize Lib.bytesWorld w 5 s = wb at hnx HB ⊢
      go_loop [5, 18] (fun v i => ∃ j v' : Nat, j ≤ s.size ∧ i = .int .i64 (j : Int) ∧ v = .int .i64 (v' : Int) ∧ v' < 100 ∧ Hid (NumAt l most j v')) (fun _ i => s.size - (intOf i).toNat)
      case atStart => exact ⟨0, 0, Nat.zero_le _, rfl, rfl, by decide, Lib.hid (.inl ⟨rfl, rfl⟩)⟩
      case round =>
        obtain ⟨j, v, hj, rfl, rfl, hv, hat⟩ := hrel
        by_cases hlt : j < s.size
        · obtain ⟨g, o, hgo, _, hc⟩ := HB.out.2 (by rw [HLEN.out]; exact hpos)
          simp only [Option.some.injEq, Addr.mk.injEq] at hgo
          obtain ⟨rfl, rfl, _⟩ := hgo
          have c0 := hc j (by rw [HLEN.out]; exact hlt)
          rw [Nat.zero_add] at c0
          have hy := getD_lt (by decide) HB.out.1 j
          have hnot := num_not (l := l) (most := most) (j := j) (by rw [HLEN.out]; exact hlt)
          have hst := fun y hy hd => num_step (y := y) hm (by rw [HLEN.out]; exact hlt) hy hd (by rw [HA.out]; exact H48.out) hat.out
          obtain ⟨y, hyy⟩ : ∃ y, l.getD j 0 = y := ⟨_, rfl⟩
          have hst := hst y hyy
          rw [hyy] at c0 hy hnot
          clear hc hyy
          by_cases y1 : y < 48
          · have d1 : decide ((y : Int) < 48) = true := by simp; omega
            have HR := Lib.hid (hnot (.inl y1))
            clear hnot hst y1
            go_wp2
            go_ret
            exact ⟨ret_int (by rw [HR.out]; rfl), hnx⟩
          · have d1 : decide ((y : Int) < 48) = false := by simp; omega
            by_cases y2 : 57 < y
            · have d2 : decide ((57 : Int) < (y : Int)) = true := by simp; omega
              have HR := Lib.hid (hnot (.inr y2))
              clear hnot hst y2
              go_wp2
              go_ret
              exact ⟨ret_int (by rw [HR.out]; rfl), hnx⟩
            · have d2 : decide ((57 : Int) < (y : Int)) = false := by simp; omega
              obtain ⟨s1, s2⟩ := hst ⟨by omega, by omega⟩
              obtain ⟨q, hq⟩ : ∃ q : Nat, y = 48 + q := ⟨y - 48, by omega⟩
              rw [show y - 48 = q by omega] at s1 s2
              have HQ := Lib.hid hq
              have H1 := Lib.hid s1
              have H2 := Lib.hid s2
              clear hnot hst s1 s2 hq
              by_cases hbig : most < 10 * v + q
              · have d3 : decide ((most : Int) < 10 * (v : Int) + ((y : Int) - 48)) = true := by simp; have := HQ.out; omega
                have HR := Lib.hid (H2.out hbig)
                clear hbig
                go_wp2
                go_ret
                exact ⟨ret_int (by rw [HR.out]; rfl), hnx⟩
              · have d3 : decide ((most : Int) < 10 * (v : Int) + ((y : Int) - 48)) = false := by simp; have := HQ.out; omega
                have HR := Lib.hid (H1.out (by omega))
                go_wp2
                go_round
                case rel => exact ⟨j + 1, 10 * v + q, by omega, by go_num, congrArg (Value.int .i64) (by have := HQ.out; omega), by omega, HR⟩
                case measure => simp [intOf]; omega
        · obtain rfl : j = s.size := by omega
          have HR := Lib.hid (num_end (l := l) (v := v) hm (by rw [HLEN.out]; exact hpos) (by rw [HLEN.out]; exact hat.out))
          go_wp2
          go_ret
          exact ⟨ret_int (by rw [HR.out]), hnx⟩
end Go.Proofs.YtmcippkhfjgkoaaDoor
