/-
  Contract of text.Fresh: of at most 90 names.
-/
import Derived.Test.YtmcippkhfjgkoaaDoorTcut
import Derived.Test.YtmcippkhfjgkoaaDoorTito
import Derived.Test.YtmcippkhfjgkoaaDoorTnum
import Derived.Test.YtmcippkhfjgkoaaDoorTbool
namespace Go.Proofs.YtmcippkhfjgkoaaDoor
open Go.RowKit

/-- Which numbers are in use, of the first k names. -/
def UsedIs (T : List ByteArray) (want : ByteArray) (n k : Nat) (U : List Bool) : Prop :=
  U.length = n + 1 ∧ ∀ j, 1 ≤ j → j ≤ n → (U.getD j false = true ↔ nums want ++ decB j ∈ (T.take k).map nums)
theorem used_start (T : List ByteArray) (want : ByteArray) (n : Nat) : UsedIs T want n 0 (List.replicate (n + 1) false) :=
  ⟨List.length_replicate, fun j _ _ => by simp [List.getD, List.getElem?_replicate]; split <;> rfl⟩
theorem take_one_more {T : List ByteArray} {k : Nat} (hk : k < T.length) : T.take (k + 1) = T.take k ++ [T.getD k ByteArray.empty] := by
  rw [List.take_succ_eq_append_getElem hk]; simp [List.getD, hk]
theorem used_miss {T : List ByteArray} {want : ByteArray} {n k : Nat} {U : List Bool} (h : UsedIs T want n k U) (hk : k < T.length) (hno : preS (T.getD k ByteArray.empty) want = false) : UsedIs T want n (k + 1) U := by
  refine ⟨h.1, fun j h1 h2 => (h.2 j h1 h2).trans ?_⟩
  rw [take_one_more hk, List.map_append, List.mem_append]
  refine ⟨.inl, fun h3 => h3.elim id fun h4 => ?_⟩
  simp only [List.map_cons, List.map_nil, List.mem_singleton] at h4
  exact absurd h4.symm (preS_no hno _)
theorem used_hit {T : List ByteArray} {want : ByteArray} {n k : Nat} {U : List Bool} (h : UsedIs T want n k U) (hk : k < T.length) (hn : n < 100) (s : ByteArray) (hs : nums (T.getD k ByteArray.empty) = nums want ++ nums s) : UsedIs T want n (k + 1) (U.set (numB (nums s) n) true) := by
  refine ⟨by rw [List.length_set]; exact h.1, fun j h1 h2 => ?_⟩
  have hle := numB_le (nums s) n
  have hlen := h.1
  rw [take_one_more hk, List.map_append, List.mem_append, ← h.2 j h1 h2]
  simp only [List.map_cons, List.map_nil, List.mem_singleton]
  have e : (nums want ++ decB j = nums (T.getD k ByteArray.empty)) ↔ numB (nums s) n = j := by
    rw [numB_dec (nums s) n j h1 h2 hn, hs, List.append_cancel_left_eq]
    exact eq_comm
  rw [e]
  rw [List.getD_eq_getElem?_getD, List.getElem?_set]
  by_cases hj : numB (nums s) n = j
  · rw [if_pos hj, if_pos (by omega)]
    simp [hj]
  · rw [if_neg hj, ← List.getD_eq_getElem?_getD]
    simp [hj]

/-- It is not taken: it is what was wanted. -/
theorem fresh_free (A : Option Addr) (n cap : Nat) (T : List ByteArray) (hT : T.length = n) (hn : n ≤ 90) (want : ByteArray) (w : World) (hA : Names w A T) (hno : hasS T want = false) :
    Calls Tryd.prog 11 #[.slice A n cap, .string want] w (ValPost (.string want) w) := by
  have H := Lib.hid (fun w (hA : Names w A T) => contains_any A n cap T hT (by omega) want _ hno w hA)
  have HA := Lib.hid hA
  clear hA hno hT
  go_enter Tryd.func11, Tryd.ntmps11
  go_wp2_with (go_at_call 15; refine (H.out _ HA.out).mono ?_; rintro e w' ⟨rfl, rfl⟩)
  go_ret
  exact ⟨rfl, Below.refl _ _⟩

theorem dec_size {s : ByteArray} {n : Nat} (h : nums s = decB n) : s.size ≤ 2 := by
  rw [← nums_length, h]; unfold decB; split <;> simp
/-- A text comes back whose bytes are these; the world has at most new blocks. -/
def NamePost (l : List Nat) (w : World) (e : Ending) (w' : World) : Prop := ∃ s : ByteArray, e = .returned (.string s) ∧ nums s = l ∧ Below w.heap.size w w'
set_option maxRecDepth 10000 in
set_option maxHeartbeats 2000000 in
theorem fresh_taken (A : Option Addr) (n cap : Nat) (T : List ByteArray) (hT : T.length = n) (hn : n ≤ 90) (hsz : ∀ j, (T.getD j ByteArray.empty).size ≤ 9223372036854775807) (want : ByteArray) (hws : want.size ≤ 1000) (i : Nat) (hi0 : 1 ≤ i) (hi : i ≤ n) (hno : nums want ++ decB i ∉ T.map nums) (hyes : ∀ j, 1 ≤ j → j < i → nums want ++ decB j ∈ T.map nums)
    (w : World) (hA : Names w A T) (hin : hasS T want = true) :
    Calls Tryd.prog 11 #[.slice A n cap, .string want] w (NamePost (nums want ++ decB i) w) := by
  have H := Lib.hid (fun w (hA : Names w A T) => contains_any A n cap T hT (by omega) want _ hin w hA)
  have HA := Lib.hid hA
  have HT := Lib.hid hT
  have HSZ := Lib.hid hsz
  have HNO := Lib.hid hno
  have HYES := Lib.hid hyes
  have hmk := Lib.hid (fun W => run_make_bools (n + 1) (by omega) W)
  clear hA hin hT hsz hno hyes
  go_enter Tryd.func11, Tryd.ntmps11
  go_wp2_with (go_at_call 15; refine (H.out _ HA.out).mono ?_; rintro e w' ⟨rfl, rfl⟩; have hmk2 : ∀ W, (Instr.makeSlice 34 (.int .i64 ((n : Int) + 1)) (.int .i64 ((n : Int) + 1))).run Tryd.prog W = .ok (.slice (some ⟨W.heap.size, 0, none⟩) (n + 1) (n + 1)) (W.alloc (.cells (Array.replicate (n + 1) (.bool false)) 4)) := hmk.out)
  clear hmk2 hmk
  have hh := heldU_made w w (n + 1) (Below.refl _ _)
  generalize w.alloc (.cells (Array.replicate (n + 1) (.bool false)) 4) = wm at hh ⊢
  go_loopw [21] (fun i wr => ∃ (k : Nat) (U : List Bool), k ≤ n ∧ i = .int .i64 (k : Int) ∧ HeldU w w.heap.size U wr ∧ Hid (UsedIs T want n k U)) (fun i _ => n - (intOf i).toNat)
  case atStart => exact ⟨0, _, Nat.zero_le _, rfl, hh, Lib.hid (used_start T want n)⟩
  case round =>
    clear hh
    obtain ⟨wo, rfl⟩ : ∃ wo : World, wo = wr := ⟨_, rfl⟩
    obtain ⟨k, U, hk, rfl, hh, hu⟩ := hrel
    by_cases hlt : k < n
    · obtain ⟨g, o, rfl, _, hc⟩ := HA.out.below hh.acc (by rw [HT.out]; omega)
      have c0 := hc k (by rw [HT.out]; exact hlt)
      have hsx := HSZ.out k
      have hm := used_miss (want := want) hu.out (by rw [HT.out]; exact hlt)
      have hy := used_hit (want := want) hu.out (by rw [HT.out]; exact hlt) (by omega)
      have hul := hu.out.1
      generalize T.getD k ByteArray.empty = x at c0 hsx hm hy
      have hn2 := number_any (x.extract want.size x.size) (by rw [ByteArray.size_extract]; omega) n (by omega)
      have hq := numB_le (nums (x.extract want.size x.size)) n
      have hy := fun h => hy (x.extract want.size x.size) h
      generalize numB (nums (x.extract want.size x.size)) n = q at hn2 hq hy
      have HM := Lib.hid hm
      have HY := Lib.hid hy
      have HN2 := Lib.hid hn2
      have HUL := Lib.hid hul
      clear hc hm hy hn2 hu hul
      go_wp2_with (first
        | (go_at_call 16; refine (cut_any x want _).mono ?_; rintro e w' ⟨⟨rfl, hp⟩ | ⟨rfl, hp⟩, rfl⟩)
        | (go_at_call 17; refine (HN2.out _).mono ?_; rintro e w' ⟨rfl, hb⟩; replace hh := hh.next hb; have hc1 := hh.cell q (by rw [HUL.out]; omega); have hf1 := hh.frozen q; clear hb))
      · have hh2 := hh.set q true
        clear hh
        go_roundw
        case rel => exact ⟨k + 1, U.set q true, by omega, by go_num, hh2, Lib.hid (HY.out (preS_yes hp))⟩
        case measure => simp [intOf]; omega
      · go_roundw
        case rel => exact ⟨k + 1, U, by omega, by go_num, hh, Lib.hid (HM.out hp)⟩
        case measure => simp [intOf]; omega
    · obtain rfl : k = n := by omega
      obtain ⟨q, rfl⟩ : ∃ q, i = q + 1 := ⟨i - 1, by omega⟩
      have hul := hu.out.1
      have hiff := hu.out.2
      rw [List.take_of_length_le (by rw [HT.out]; exact Nat.le_refl _)] at hiff
      have hx := indexU_any w.heap.size 1 k k q (by omega) (by omega) wo (fun j hj => by
        rw [hh.cell (1 + j) (by rw [hul]; omega), (hiff (1 + j) (by omega) (by omega)).2 (HYES.out (1 + j) (by omega) (by omega))]) (by
        rw [hh.cell (1 + q) (by rw [hul]; omega)]
        cases hb : U.getD (1 + q) false with
        | false => rfl
        | true => exact absurd ((hiff (1 + q) (by omega) (by omega)).1 hb) (by rw [Nat.add_comm]; exact HNO.out))
      have hit := fun W => itoa_any (q + 1) (by omega) W
      rw [show ((q + 1 : Nat) : Int) = 1 + (q : Int) by omega] at hit
      have HX := Lib.hid hx
      have HIT := Lib.hid hit
      have hacc := hh.acc
      clear hul hiff hx hit hu hh
      go_wp2_with (first
        | (go_at_call 19; refine HX.out.mono ?_; rintro e w' ⟨rfl, rfl⟩)
        | (go_at_call 18; refine (HIT.out _).mono ?_; rintro e w' ⟨⟨s, rfl, hs⟩, rfl⟩; have hss := dec_size hs))
      go_ret
      exact ⟨_, rfl, by rw [← hs]; exact nums_append want s, hacc⟩
end Go.Proofs.YtmcippkhfjgkoaaDoor
