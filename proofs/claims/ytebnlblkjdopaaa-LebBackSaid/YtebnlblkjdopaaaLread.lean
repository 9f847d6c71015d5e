/-
  Contracts of leb.ReadU, leb.ReadS.
-/
import Derived.Test.YtebnlblkjdopaaaLlen
namespace Go.Proofs.Ytebnlblkjdopaaa
open Go.RowKit

/-- What comes back: the number, its end, whether it is one. -/
def rU (l : List Nat) (p bits : Int) : Value := .tuple #[.int .u64 (numU l p bits), .int .i64 (endU l p bits), .bool (okU l p bits)]
def rS (l : List Nat) (p bits : Int) : Value := .tuple #[.int .i64 (numS l p bits), .int .i64 (endS l p bits), .bool (okS l p bits)]
theorem rU_none {l : List Nat} {p bits : Int} (h : lenR l p bits = 0) : rU l p bits = .tuple #[.int .u64 0, .int .i64 0, .bool false] := by
  simp [rU, numU, endU, okU, h]
theorem rS_none {l : List Nat} {p bits : Int} (h : lenR l p bits = 0) : rS l p bits = .tuple #[.int .i64 0, .int .i64 0, .bool false] := by
  simp [rS, numS, endS, okS, h]
theorem rU_bad {l : List Nat} {p bits : Int} (h : badU (lastN (found l p bits)) (roomN (lenR l p bits) bits) = true) : rU l p bits = .tuple #[.int .u64 0, .int .i64 0, .bool false] := by
  simp [rU, numU, endU, okU, h]
theorem rS_bad {l : List Nat} {p bits : Int} (h : badS (lastN (found l p bits)) (roomN (lenR l p bits) bits) = true) : rS l p bits = .tuple #[.int .i64 0, .int .i64 0, .bool false] := by
  simp [rS, numS, endS, okS, h]
theorem rU_good {l : List Nat} {p bits : Int} (h0 : 1 ≤ lenR l p bits) (h : badU (lastN (found l p bits)) (roomN (lenR l p bits) bits) = false) :
    rU l p bits = .tuple #[.int .u64 ((valU (found l p bits) % 18446744073709551616 : Nat) : Int), .int .i64 (p + lenR l p bits), .bool true] := by
  have : okU l p bits = true := by unfold okU; rw [h]; simp; omega
  simp [rU, numU, endU, this]
theorem rS_good {l : List Nat} {p bits : Int} (h0 : 1 ≤ lenR l p bits) (h : badS (lastN (found l p bits)) (roomN (lenR l p bits) bits) = false) :
    rS l p bits = .tuple #[.int .i64 (wrap64 (valS (found l p bits))), .int .i64 (p + lenR l p bits), .bool true] := by
  have : okS l p bits = true := by unfold okS; rw [h]; simp; omega
  simp [rS, numS, endS, this]

theorem badU_int (x r : Nat) : ((x : Int) / 2 ^ r != 0) = badU x r := by
  unfold badU
  have e : (x : Int) / 2 ^ r = ((x / 2 ^ r : Nat) : Int) := by push_cast; rfl
  rw [e]
  generalize x / 2 ^ r = t
  rw [Bool.eq_iff_iff]; simp
abbrev RoomSays (c r : Nat) (bits : Int) : Prop := ∀ w : World, Calls Try.prog 22 #[.int .i64 (c : Int), .int .i64 bits] w fun e w' => e = .returned (.int .i64 (r : Int)) ∧ w = w'
abbrev LenSays (A : Option Addr) (n cap : Nat) (p bits : Int) (c : Nat) (w : World) : Prop := Calls Try.prog 21 #[.slice A n cap, .int .i64 p, .int .i64 bits] w (LenPost c w)
abbrev JoinSays (A : Option Addr) (n cap V : Nat) (w : World) : Prop := ∀ w1 : World, Below w.heap.size w w1 → Calls Try.prog 23 #[.slice A n cap] w1 fun e w' => e = .returned (.int .u64 (V : Int)) ∧ w1 = w'

set_option maxRecDepth 10000 in
theorem readU_none (A : Option Addr) (n cap : Nat) (p bits : Int) (w : World) (hlen : LenSays A n cap p bits 0 w) :
    Calls Try.prog 16 #[.slice A n cap, .int .i64 p, .int .i64 bits] w (ValPost (.tuple #[.int .u64 0, .int .i64 0, .bool false]) w) := by
  have HLEN := Lib.hid hlen
  clear hlen
  go_enter Try.func16, Try.ntmps16
  go_wp2_with (go_at_call 21; refine HLEN.out.mono ?_; rintro e w' ⟨rfl, rfl⟩)
  go_quiet (fail)
  go_wp2
  go_ret3
  exact ⟨rfl, below_drewN (Below.refl _ _) _⟩

set_option maxRecDepth 10000 in
theorem readU_some (g o n cap k c q x r V : Nat) (bits : Int) (hn : n ≤ 1000000) (hc : n ≤ cap) (c0 : 1 ≤ c) (c1 : k + c ≤ n) (hq : k + c = q + 1) (hr : r ≤ 7)
    (w : World) (hlen : LenSays (some ⟨g, o, none⟩) n cap k bits c w) (hroom : RoomSays c r bits) (hjoin : JoinSays (some ⟨g, o + k, none⟩) c (cap - k) V w)
    (hcell : w.cell? ⟨g, o + q, none⟩ = some (.int .u8 (x : Int))) (b : Bool) (hbad : badU x r = b) :
    Calls Try.prog 16 #[.slice (some ⟨g, o, none⟩) n cap, .int .i64 (k : Int), .int .i64 bits] w
      (ValPost (if b then .tuple #[.int .u64 0, .int .i64 0, .bool false] else .tuple #[.int .u64 (V : Int), .int .i64 ((k : Int) + c), .bool true]) w) := by
  have HLEN := Lib.hid hlen
  have HROOM := Lib.hid hroom
  have HJOIN := Lib.hid hjoin
  have hc0 : ((c : Int) == 0) = false := by simp; omega
  have hi : (k : Int) + c - 1 = q := by omega
  have hb := badU_int x r
  rw [hbad] at hb
  clear hlen hroom hjoin hbad hq
  cases b with
  | true =>
    go_enter Try.func16, Try.ntmps16
    go_wp2_with (go_at_call 21; refine HLEN.out.mono ?_; rintro e w' ⟨rfl, rfl⟩)
    go_quiet ((go_at_call 22; exact Calls.quiet_of_same ((HROOM.out _).mono fun _ _ h => ⟨h.1, h.2.symm⟩)))
    go_wp2
    go_ret3
    exact ⟨rfl, below_drewN (Below.refl _ _) _⟩
  | false =>
    go_enter Try.func16, Try.ntmps16
    go_wp2_with (go_at_call 21; refine HLEN.out.mono ?_; rintro e w' ⟨rfl, rfl⟩)
    go_quiet ((go_at_call 22; exact Calls.quiet_of_same ((HROOM.out _).mono fun _ _ h => ⟨h.1, h.2.symm⟩)))
    go_wp2_with (go_at_call 23; refine (HJOIN.out _ (below_drewN (Below.refl _ _) _)).mono ?_; rintro e w' ⟨rfl, rfl⟩)
    go_ret3
    exact ⟨rfl, below_drewN (Below.refl _ _) _⟩
/-- Bytes that were found read so where they lie. -/
theorem found_bytes {w : World} {g o k : Nat} {l : List Nat} {bits : Int} (h : Bytes w (some ⟨g, o, none⟩) l) (h2 : k + lenR l k bits ≤ l.length) : Bytes w (some ⟨g, o + k, none⟩) (found l k bits) := by
  unfold found
  exact h.part k _ h2 _ (fun g' o' _ he => by simp only [Option.some.injEq, Addr.mk.injEq] at he; obtain ⟨rfl, rfl, _⟩ := he; rfl)

/-- ReadU, for any slice, any offset, any number of bits. -/
theorem readU_any (A : Option Addr) (n cap : Nat) (l : List Nat) (hl : l.length = n) (hc : n ≤ cap) (hn : n ≤ 1000000) (p bits : Int) (w : World) (hb : Bytes w A l) :
    Calls Try.prog 16 #[.slice A n cap, .int .i64 p, .int .i64 bits] w (ValPost (rU l p bits) w) := by
  have hlen := length_any A n cap l hl hc hn p bits w hb
  rcases lenR_ways l p bits with h0 | ⟨k, rfl, b0, b1, c0, cm, c1, _⟩
  · rw [rU_none h0]
    rw [h0] at hlen
    exact readU_none A n cap p bits w hlen
  · obtain ⟨g, o, rfl, _, hcell⟩ := hb.2 (by omega)
    have hmb := mostN_bits bits b0 b1
    have hf := found_bytes hb c1
    have hfl := found_len l k bits c1
    have hcl := hcell (k + lenR l k bits - 1) (by omega)
    have h := readU_some g o n cap k (lenR l k bits) (k + lenR l k bits - 1) (l.getD (k + lenR l k bits - 1) 0) (roomN (lenR l k bits) bits) (valU (found l k bits) % 18446744073709551616) bits hn hc c0 (by omega) (by omega) (by unfold roomN; omega) w hlen
      (fun w => room_any _ bits c0 (by omega) b0 b1 (by omega) w)
      (fun w1 h1 => join_any _ _ _ (found l k bits) hfl (by omega) w1 (hf.below h1))
      hcl _ rfl
    have hx := found_last l k bits c0 c1
    rw [← hx] at h
    cases hbd : badU (lastN (found l k bits)) (roomN (lenR l k bits) bits) with
    | true => rw [hbd] at h; rw [rU_bad hbd]; exact h
    | false => rw [hbd] at h; rw [rU_good c0 hbd]; exact h
end Go.Proofs.Ytebnlblkjdopaaa
