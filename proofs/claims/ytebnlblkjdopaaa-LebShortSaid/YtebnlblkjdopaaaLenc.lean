/-
  Contracts of U and S, the program's and the document's: what they write.
-/
import Derived.Test.YtebnlblkjdopaaaLrow
import Derived.Laws.BitsAllLaws
import Derived.Laws.BitsLemmas
namespace Go.Proofs.Ytebnlblkjdopaaa
open Go.RowKit

/-- A row of the call's own comes back, that reads as l. -/
def EncPost (l : List Nat) (w : World) (e : Ending) (w' : World) : Prop := ∃ v : Value, e = .returned v ∧ w'.ownsRow w.heap.size 5 1 v l.length (l.map byt) ∧ Below w.heap.size w w'

/-! ### The bytes as the walk spells them -/
theorem or128 : ∀ k : Fin 256, Go.bits .or .u8 (k.val : Int) 128 = ((k.val % 128 + 128 : Nat) : Int) := by decide +kernel
theorem byte_or (m : Nat) : Go.bits .or .u8 ((m : Int) % 256) 128 = ((m % 128 + 128 : Nat) : Int) := by
  have h := or128 ⟨m % 256, by omega⟩
  have e : (((m % 256 : Nat)) : Int) = (m : Int) % 256 := by omega
  simp only [e] at h
  rw [h]; omega
theorem byte_add (m : Nat) : (m : Int) % 128 + 128 = ((m % 128 + 128 : Nat) : Int) := by omega
theorem byte_orS (m : Int) : Go.bits .or .u8 (m % 256) 128 = (((m % 128 + 128).toNat : Nat) : Int) := by
  have h := or128 ⟨(m % 256).toNat, by omega⟩
  have e : ((((m % 256).toNat : Nat)) : Int) = m % 256 := by omega
  simp only [e] at h
  rw [h]; omega
theorem not128 : ∀ k : Fin 256, Go.bits .andNot .u8 (k.val : Int) 128 = ((k.val % 128 : Nat) : Int) := by decide +kernel
theorem byte_low (m : Int) : Go.bits .andNot .u8 (m % 256) 128 = (((m % 128).toNat : Nat) : Int) := by
  have h := not128 ⟨(m % 256).toNat, by omega⟩
  have e : ((((m % 256).toNat : Nat)) : Int) = m % 256 := by omega
  simp only [e] at h
  rw [h]; omega
theorem and127 (m : Int) : Go.bits .and .i64 m 127 = m % 128 := by
  have h : BitVec.ofInt 64 m &&& BitVec.ofInt 64 127 = BitVec.ofInt 64 (m % 128) := by
    apply BitVec.eq_of_toNat_eq
    rw [BitVec.toNat_and, BitVec.toNat_ofInt, BitVec.toNat_ofInt, BitVec.toNat_ofInt]
    have e : ((127 : Int) % ((2 ^ 64 : Nat) : Int)).toNat = 2 ^ 7 - 1 := by decide
    rw [e, Nat.and_two_pow_sub_one_eq_mod]
    omega
  show IntKind.i64.wrap ((BitVec.ofInt 64 m &&& BitVec.ofInt 64 127).toNat : Int) = _
  rw [h, BitVec.toNat_ofInt, IntKind.wrap_i64]
  omega
theorem or128S (m : Int) : Go.bits .or .u8 (m % 128) 128 = (((m % 128 + 128).toNat : Nat) : Int) := by
  have h := or128 ⟨(m % 128).toNat, by omega⟩
  have e : ((((m % 128).toNat : Nat)) : Int) = m % 128 := by omega
  simp only [e] at h
  rw [h]; omega
theorem low127 (m : Int) : m % 128 = (((m % 128).toNat : Nat) : Int) := by omega

/-- One byte more. -/
theorem own_snoc {w : World} {base : Nat} {v : Value} {l : List Nat} {x : Nat} (h : w.ownsRow base 5 1 v (l.length + 1) (l.map byt ++ [byt x])) : w.ownsRow base 5 1 v (l ++ [x]).length ((l ++ [x]).map byt) := by simpa using h
theorem one_new (w : World) (x : Nat) (t : TypeId) : ∀ j u, [byt x][j]? = some u → (w.alloc (.cells #[.int .u8 (x : Int)] t)).cell? ((⟨w.heap.size, 0, none⟩ : Addr).add j) = some u := cell_one_new w (byt x) t

set_option maxRecDepth 10000 in
set_option maxHeartbeats 1000000 in
theorem u_any (n : Nat) (hn : n < 18446744073709551616) (w : World) : Calls Try.prog 7 #[.int .u64 (n : Int)] w (EncPost (encU n) w) := by
  obtain ⟨i0, hi, hz0, hz1, hz2⟩ := info_parts Try.info_byte
  have hlen := encU_len10 n hn
  obtain ⟨L, hL⟩ : ∃ L, encU n = L := ⟨_, rfl⟩
  rw [hL] at hlen ⊢
  have HLEN := Lib.hid hlen
  have HL := Lib.hid hL
  clear hL hlen hn
  go_enter Try.func7, Try.ntmps7
  go_wp2
  go_loopw [0, 3] (fun i v wr => ∃ (m : Nat) (acc : List Nat), i = .int .u64 (m : Int) ∧ wr.ownsRow w.heap.size 5 1 v acc.length (acc.map byt) ∧ Below w.heap.size w wr ∧ Hid (acc ++ encU m = L)) (fun i _ _ => (intOf i).toNat)
  case atStart => exact ⟨n, [], rfl, World.ownsRow_nil _ _ _ _, Below.refl _ _, Lib.hid HL.out⟩
  case round =>
    obtain ⟨m, acc, rfl, hown, hnx, hacc⟩ := hrel
    have hb : acc.length < 10 := by
      have h1 := congrArg List.length hacc.out
      have h2 := rowB_pos (encU_row m)
      have h3 := HLEN.out
      rw [List.length_append] at h1
      omega
    by_cases h : m < 128
    · have hx := encU_lo h
      have HX := Lib.hid hx
      clear hx
      go_wp2_with (at_builtin; refine wpList_append_own _ rfl _ _ 23 rfl w.heap.size 5 i0 (.int .u8 0) 1 1 Try.underlying23 hi hz0 hz1 hz2 rfl (by decide) _ _ _ rfl (hown.alloc _) ⟨wr.heap.size, 0, none⟩ 1 1 [byt m] rfl rfl ?c1 ?c2 ?c3 ?c4 ?c5 ?_)
      case c1 => exact one_new _ _ _
      case c2 => exact bytes_one [_]
      case c3 => unfold maxLen; omega
      case c4 => omega
      case c5 => have := hnx.size; simp; omega
      · intro v' w1 hown' hgrow _
        have hnx1 : Below w.heap.size w w1 := (hnx.alloc hnx.size _).grown hgrow (by have := hnx.size; simp; omega) (fun k hk => (hown.lt k hk).1)
        go_wp2
        go_ret
        refine ⟨_, rfl, ?_, hnx1⟩
        rw [← hacc.out, HX.out]
        exact own_snoc hown'
    · have hx := encU_hi h
      have hv := byte_or m
      obtain ⟨x, hxe⟩ : ∃ x : Nat, (m % 128 + 128) = x := ⟨_, rfl⟩
      rw [hxe] at hx hv
      have HX := Lib.hid hx
      clear hx hxe
      all_goals
        go_wp2_with (at_builtin; refine wpList_append_own _ rfl _ _ 23 rfl w.heap.size 5 i0 (.int .u8 0) 1 1 Try.underlying23 hi hz0 hz1 hz2 rfl (by decide) _ _ _ rfl (hown.alloc _) ⟨wr.heap.size, 0, none⟩ 1 1 [byt x] rfl rfl ?c1 ?c2 ?c3 ?c4 ?c5 ?_)
        case c1 => exact one_new _ _ _
        case c2 => exact bytes_one [_]
        case c3 => unfold maxLen; omega
        case c4 => omega
        case c5 => have := hnx.size; simp; omega
        · intro v' w1 hown' hgrow _
          have hnx1 : Below w.heap.size w w1 := (hnx.alloc hnx.size _).grown hgrow (by have := hnx.size; simp; omega) (fun k hk => (hown.lt k hk).1)
          have hown1 := own_snoc hown'
          have hacc1 : Hid ((acc ++ [x]) ++ encU (m / 128) = L) := Lib.hid (by rw [← hacc.out, HX.out]; simp)
          clear hown hgrow hown' hnx hacc hv
          go_wp2
          go_roundw
          case rel => exact ⟨m / 128, acc ++ [x], by go_num, hown1, hnx1, hacc1⟩
          case measure => simp [intOf]; omega

set_option maxRecDepth 10000 in
set_option maxHeartbeats 1000000 in
theorem ru_any (n : Nat) (hn : n < 18446744073709551616) (w : World) : Calls Try.prog 8 #[.int .u64 (n : Int)] w (EncPost (encU n) w) := by
  obtain ⟨i0, hi, hz0, hz1, hz2⟩ := info_parts Try.info_byte
  have hlen := encU_len10 n hn
  obtain ⟨L, hL⟩ : ∃ L, encU n = L := ⟨_, rfl⟩
  rw [hL] at hlen ⊢
  have HLEN := Lib.hid hlen
  have HL := Lib.hid hL
  have HN := Lib.hid hn
  clear hL hlen hn
  go_enter Try.func8, Try.ntmps8
  go_wp2
  go_loopw [0, 3] (fun i v wr => ∃ (m : Nat) (acc : List Nat), i = .int .u64 (m : Int) ∧ wr.ownsRow w.heap.size 5 1 v acc.length (acc.map byt) ∧ Below w.heap.size w wr ∧ Hid (acc ++ encU m = L) ∧ Hid (m < 18446744073709551616)) (fun i _ _ => (intOf i).toNat)
  case atStart => exact ⟨n, [], rfl, World.ownsRow_nil _ _ _ _, Below.refl _ _, Lib.hid HL.out, Lib.hid HN.out⟩
  case round =>
    obtain ⟨m, acc, rfl, hown, hnx, hacc, hmx⟩ := hrel
    have hb : acc.length < 10 := by
      have h1 := congrArg List.length hacc.out
      have h2 := rowB_pos (encU_row m)
      have h3 := HLEN.out
      rw [List.length_append] at h1
      omega
    by_cases h : m < 128
    · have hx := encU_lo h
      have HX := Lib.hid hx
      clear hx
      go_wp2_with (at_builtin; refine wpList_append_own _ rfl _ _ 23 rfl w.heap.size 5 i0 (.int .u8 0) 1 1 Try.underlying23 hi hz0 hz1 hz2 rfl (by decide) _ _ _ rfl (hown.alloc _) ⟨wr.heap.size, 0, none⟩ 1 1 [byt m] rfl rfl ?c1 ?c2 ?c3 ?c4 ?c5 ?_)
      case c1 => exact one_new _ _ _
      case c2 => exact bytes_one [_]
      case c3 => unfold maxLen; omega
      case c4 => omega
      case c5 => have := hnx.size; simp; omega
      · intro v' w1 hown' hgrow _
        have hnx1 : Below w.heap.size w w1 := (hnx.alloc hnx.size _).grown hgrow (by have := hnx.size; simp; omega) (fun k hk => (hown.lt k hk).1)
        go_wp2
        go_ret
        refine ⟨_, rfl, ?_, hnx1⟩
        rw [← hacc.out, HX.out]
        exact own_snoc hown'
    · have hx := encU_hi h
      have hv := byte_add m
      have hv2 : IntKind.u64.wrap ((m : Int) / 128) = (m : Int) / 128 := by have := hmx.out; rw [IntKind.wrap_u64]; omega
      obtain ⟨x, hxe⟩ : ∃ x : Nat, (m % 128 + 128) = x := ⟨_, rfl⟩
      rw [hxe] at hx hv
      have HX := Lib.hid hx
      clear hx hxe
      all_goals
        go_wp2_with (at_builtin; refine wpList_append_own _ rfl _ _ 23 rfl w.heap.size 5 i0 (.int .u8 0) 1 1 Try.underlying23 hi hz0 hz1 hz2 rfl (by decide) _ _ _ rfl (hown.alloc _) ⟨wr.heap.size, 0, none⟩ 1 1 [byt x] rfl rfl ?c1 ?c2 ?c3 ?c4 ?c5 ?_)
        case c1 => exact one_new _ _ _
        case c2 => exact bytes_one [_]
        case c3 => unfold maxLen; omega
        case c4 => omega
        case c5 => have := hnx.size; simp; omega
        · intro v' w1 hown' hgrow _
          have hnx1 : Below w.heap.size w w1 := (hnx.alloc hnx.size _).grown hgrow (by have := hnx.size; simp; omega) (fun k hk => (hown.lt k hk).1)
          have hown1 := own_snoc hown'
          have hacc1 : Hid ((acc ++ [x]) ++ encU (m / 128) = L) := Lib.hid (by rw [← hacc.out, HX.out]; simp)
          clear hown hgrow hown' hnx hacc hv
          go_wp2
          go_roundw
          case rel => exact ⟨m / 128, acc ++ [x], by go_num, hown1, hnx1, hacc1, Lib.hid (by have := hmx.out; omega)⟩
          case measure => simp [intOf]; omega

set_option maxRecDepth 10000 in
set_option maxHeartbeats 1000000 in
theorem s_any (n : Int) (hn0 : -9223372036854775808 ≤ n) (hn1 : n ≤ 9223372036854775807) (w : World) : Calls Try.prog 9 #[.int .i64 n] w (EncPost (encS n) w) := by
  obtain ⟨i0, hi, hz0, hz1, hz2⟩ := info_parts Try.info_byte
  have hlen := encS_len10 n hn0 hn1
  obtain ⟨L, hL⟩ : ∃ L, encS n = L := ⟨_, rfl⟩
  rw [hL] at hlen ⊢
  have HLEN := Lib.hid hlen
  have HL := Lib.hid hL
  clear hL hlen hn0 hn1
  go_enter Try.func9, Try.ntmps9
  go_wp2
  go_loopw [0, 3] (fun i v wr => ∃ (m : Int) (acc : List Nat), i = .int .i64 m ∧ wr.ownsRow w.heap.size 5 1 v acc.length (acc.map byt) ∧ Below w.heap.size w wr ∧ Hid (acc ++ encS m = L)) (fun i _ _ => (intOf i).natAbs)
  case atStart => exact ⟨n, [], rfl, World.ownsRow_nil _ _ _ _, Below.refl _ _, Lib.hid HL.out⟩
  case round =>
    obtain ⟨m, acc, rfl, hown, hnx, hacc⟩ := hrel
    have hb : acc.length < 10 := by
      have h1 := congrArg List.length hacc.out
      have h2 := rowB_pos (encS_row m)
      have h3 := HLEN.out
      rw [List.length_append] at h1
      omega
    by_cases h : -64 ≤ m ∧ m < 64
    · have hx := encS_lo h
      have hv := byte_low m
      obtain ⟨h0, h1⟩ := h
      obtain ⟨x, hxe⟩ : ∃ x : Nat, (m % 128).toNat = x := ⟨_, rfl⟩
      rw [hxe] at hx hv
      clear hxe
      have HX := Lib.hid hx
      clear hx
      go_wp2_with (at_builtin; refine wpList_append_own _ rfl _ _ 23 rfl w.heap.size 5 i0 (.int .u8 0) 1 1 Try.underlying23 hi hz0 hz1 hz2 rfl (by decide) _ _ _ rfl (hown.alloc _) ⟨wr.heap.size, 0, none⟩ 1 1 [byt x] rfl rfl ?c1 ?c2 ?c3 ?c4 ?c5 ?_)
      case c1 => exact one_new _ _ _
      case c2 => exact bytes_one [_]
      case c3 => unfold maxLen; omega
      case c4 => omega
      case c5 => have := hnx.size; simp; omega
      · intro v' w1 hown' hgrow _
        have hnx1 : Below w.heap.size w w1 := (hnx.alloc hnx.size _).grown hgrow (by have := hnx.size; simp; omega) (fun k hk => (hown.lt k hk).1)
        go_wp2
        go_ret
        refine ⟨_, rfl, ?_, hnx1⟩
        rw [← hacc.out, HX.out]
        exact own_snoc hown'
    · have hx := encS_hi h
      have hv := byte_orS m
      obtain ⟨x, hxe⟩ : ∃ x : Nat, (m % 128 + 128).toNat = x := ⟨_, rfl⟩
      rw [hxe] at hx hv
      have HX := Lib.hid hx
      clear hx hxe
      have h' : m < -64 ∨ 64 ≤ m := by omega
      clear h
      rcases h' with h | h
      all_goals
        go_wp2_with (at_builtin; refine wpList_append_own _ rfl _ _ 23 rfl w.heap.size 5 i0 (.int .u8 0) 1 1 Try.underlying23 hi hz0 hz1 hz2 rfl (by decide) _ _ _ rfl (hown.alloc _) ⟨wr.heap.size, 0, none⟩ 1 1 [byt x] rfl rfl ?c1 ?c2 ?c3 ?c4 ?c5 ?_)
        case c1 => exact one_new _ _ _
        case c2 => exact bytes_one [_]
        case c3 => unfold maxLen; omega
        case c4 => omega
        case c5 => have := hnx.size; simp; omega
        · intro v' w1 hown' hgrow _
          have hnx1 : Below w.heap.size w w1 := (hnx.alloc hnx.size _).grown hgrow (by have := hnx.size; simp; omega) (fun k hk => (hown.lt k hk).1)
          have hown1 := own_snoc hown'
          have hacc1 : Hid ((acc ++ [x]) ++ encS (m / 128) = L) := Lib.hid (by rw [← hacc.out, HX.out]; simp)
          clear hown hgrow hown' hnx hacc hv
          go_wp2
          go_roundw
          case rel => exact ⟨m / 128, acc ++ [x], by go_num, hown1, hnx1, hacc1⟩
          case measure => simp [intOf]; omega

set_option maxRecDepth 10000 in
set_option maxHeartbeats 1000000 in
theorem rs_any (n : Int) (hn0 : -9223372036854775808 ≤ n) (hn1 : n ≤ 9223372036854775807) (w : World) : Calls Try.prog 10 #[.int .i64 n] w (EncPost (encS n) w) := by
  obtain ⟨i0, hi, hz0, hz1, hz2⟩ := info_parts Try.info_byte
  have hlen := encS_len10 n hn0 hn1
  obtain ⟨L, hL⟩ : ∃ L, encS n = L := ⟨_, rfl⟩
  rw [hL] at hlen ⊢
  have HLEN := Lib.hid hlen
  have HL := Lib.hid hL
  clear hL hlen hn0 hn1
  go_enter Try.func10, Try.ntmps10
  go_wp2
  go_loopw [0, 3] (fun i v wr => ∃ (m : Int) (acc : List Nat), i = .int .i64 m ∧ wr.ownsRow w.heap.size 5 1 v acc.length (acc.map byt) ∧ Below w.heap.size w wr ∧ Hid (acc ++ encS m = L)) (fun i _ _ => (intOf i).natAbs)
  case atStart => exact ⟨n, [], rfl, World.ownsRow_nil _ _ _ _, Below.refl _ _, Lib.hid HL.out⟩
  case round =>
    obtain ⟨m, acc, rfl, hown, hnx, hacc⟩ := hrel
    have hb : acc.length < 10 := by
      have h1 := congrArg List.length hacc.out
      have h2 := rowB_pos (encS_row m)
      have h3 := HLEN.out
      rw [List.length_append] at h1
      omega
    by_cases h : -64 ≤ m ∧ m < 64
    · have hx := encS_lo h
      have hv := and127 m
      have hv2 := low127 m
      obtain ⟨h0, h1⟩ := h
      obtain ⟨x, hxe⟩ : ∃ x : Nat, (m % 128).toNat = x := ⟨_, rfl⟩
      rw [hxe] at hx hv2
      clear hxe
      have HX := Lib.hid hx
      clear hx
      go_wp2_with (at_builtin; refine wpList_append_own _ rfl _ _ 23 rfl w.heap.size 5 i0 (.int .u8 0) 1 1 Try.underlying23 hi hz0 hz1 hz2 rfl (by decide) _ _ _ rfl (hown.alloc _) ⟨wr.heap.size, 0, none⟩ 1 1 [byt x] rfl rfl ?c1 ?c2 ?c3 ?c4 ?c5 ?_)
      case c1 => exact one_new _ _ _
      case c2 => exact bytes_one [_]
      case c3 => unfold maxLen; omega
      case c4 => omega
      case c5 => have := hnx.size; simp; omega
      · intro v' w1 hown' hgrow _
        have hnx1 : Below w.heap.size w w1 := (hnx.alloc hnx.size _).grown hgrow (by have := hnx.size; simp; omega) (fun k hk => (hown.lt k hk).1)
        go_wp2
        go_ret
        refine ⟨_, rfl, ?_, hnx1⟩
        rw [← hacc.out, HX.out]
        exact own_snoc hown'
    · have hx := encS_hi h
      have hv := and127 m
      have hv2 := or128S m
      obtain ⟨x, hxe⟩ : ∃ x : Nat, (m % 128 + 128).toNat = x := ⟨_, rfl⟩
      rw [hxe] at hx hv2
      have HX := Lib.hid hx
      clear hx hxe
      have h' : m < -64 ∨ 64 ≤ m := by omega
      clear h
      rcases h' with h | h
      all_goals
        go_wp2_with (at_builtin; refine wpList_append_own _ rfl _ _ 23 rfl w.heap.size 5 i0 (.int .u8 0) 1 1 Try.underlying23 hi hz0 hz1 hz2 rfl (by decide) _ _ _ rfl (hown.alloc _) ⟨wr.heap.size, 0, none⟩ 1 1 [byt x] rfl rfl ?c1 ?c2 ?c3 ?c4 ?c5 ?_)
        case c1 => exact one_new _ _ _
        case c2 => exact bytes_one [_]
        case c3 => unfold maxLen; omega
        case c4 => omega
        case c5 => have := hnx.size; simp; omega
        · intro v' w1 hown' hgrow _
          have hnx1 : Below w.heap.size w w1 := (hnx.alloc hnx.size _).grown hgrow (by have := hnx.size; simp; omega) (fun k hk => (hown.lt k hk).1)
          have hown1 := own_snoc hown'
          have hacc1 : Hid ((acc ++ [x]) ++ encS (m / 128) = L) := Lib.hid (by rw [← hacc.out, HX.out]; simp)
          clear hown hgrow hown' hnx hacc hv hv2
          go_wp2
          go_roundw
          case rel => exact ⟨m / 128, acc ++ [x], by go_num, hown1, hnx1, hacc1⟩
          case measure => simp [intOf]; omega
end Go.Proofs.Ytebnlblkjdopaaa
