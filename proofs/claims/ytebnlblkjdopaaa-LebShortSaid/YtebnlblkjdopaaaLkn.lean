/-
  Bytes as strings; contract of what the statements about leb share: 'known' is always true.
-/
import Derived.Test.YtebnlblkjdopaaaLenc
import Derived.Test.YtebnlblkjdopaaaLreadS
import Derived.Laws.BytesArg
namespace Go.Proofs.Ytebnlblkjdopaaa
open Go.RowKit

/-! ### Bytes as strings -/
def strB (l : List Nat) : ByteArray := strOfNums (l.map fun x : Nat => (x : Int))
abbrev Says (v : Value) (l : List Nat) (w : World) : Prop := (convert 23 9 v).run Try.prog w = .ok (.string (strB l)) w
theorem bytes_says {w : World} {g o : Nat} {l : List Nat} (h : Bytes w (some ⟨g, o, none⟩) l) (n c : Nat) (hn : l.length = n) : Says (.slice (some ⟨g, o, none⟩) n c) l w := by
  refine run_convert_bytes_arg w 23 5 Try.underlying23 Try.underlying5 g o n c (l.map fun x : Nat => (x : Int)) (by simpa using hn) ?_ 9 Try.underlying9
  intro i hi
  obtain ⟨g', o', he, _, hc⟩ := h.2 (by omega)
  simp only [Option.some.injEq, Addr.mk.injEq] at he
  obtain ⟨rfl, rfl, _⟩ := he
  rw [hc i (by omega)]
  have hi' : i < l.length := by omega
  simp [List.getD, hi']

/-- What U and S give, written out. -/
def EncIs (l : List Nat) (w : World) (e : Ending) (w' : World) : Prop := ∃ g cap : Nat, e = .returned (.slice (some ⟨g, 0, none⟩) l.length cap) ∧
  w'.ownsRow w.heap.size 5 1 (.slice (some ⟨g, 0, none⟩) l.length cap) l.length (l.map byt) ∧ l.length ≤ cap ∧ Bytes w' (some ⟨g, 0, none⟩) l ∧ w.heap.size ≤ g ∧ g < w'.heap.size ∧ Below w.heap.size w w'
theorem enc_is {f : FuncId} {args : Array Value} {l : List Nat} {w : World} (h : Calls Try.prog f args w (EncPost l w)) (h0 : 0 < l.length) (hl : ∀ x ∈ l, x < 256) : Calls Try.prog f args w (EncIs l w) :=
  h.mono fun e w' hp => by
    obtain ⟨v, rfl, hown, hb⟩ := hp
    obtain ⟨g, cap, rfl, hg0, hg1⟩ := hown.form h0
    obtain ⟨A, c, hv, hc, hby⟩ := bytes_owned hown hl
    simp only [Value.slice.injEq] at hv
    obtain ⟨rfl, _, rfl⟩ := hv
    exact ⟨g, cap, rfl, hown, hc, hby, hg0, hg1, hb⟩
theorem u_is (n : Nat) (hn : n < 18446744073709551616) (w : World) : Calls Try.prog 7 #[.int .u64 (n : Int)] w (EncIs (encU n) w) := enc_is (u_any n hn w) (rowB_pos (encU_row n)) (encU_bytes n)
theorem ru_is (n : Nat) (hn : n < 18446744073709551616) (w : World) : Calls Try.prog 8 #[.int .u64 (n : Int)] w (EncIs (encU n) w) := enc_is (ru_any n hn w) (rowB_pos (encU_row n)) (encU_bytes n)
theorem s_is (n : Int) (h0 : -9223372036854775808 ≤ n) (h1 : n ≤ 9223372036854775807) (w : World) : Calls Try.prog 9 #[.int .i64 n] w (EncIs (encS n) w) := enc_is (s_any n h0 h1 w) (rowB_pos (encS_row n)) (encS_bytes n)
theorem rs_is (n : Int) (h0 : -9223372036854775808 ≤ n) (h1 : n ≤ 9223372036854775807) (w : World) : Calls Try.prog 10 #[.int .i64 n] w (EncIs (encS n) w) := enc_is (rs_any n h0 h1 w) (rowB_pos (encS_row n)) (encS_bytes n)

/-! ### known -/
theorem bytes_new (w : World) (l : List Nat) (hl : ∀ x ∈ l, x < 256) : Bytes (w.alloc (.cells (l.map byt).toArray 5)) (some ⟨w.heap.size, 0, none⟩) l :=
  ⟨hl, fun _ => ⟨w.heap.size, 0, rfl, by simp, fun j hj => by rw [Nat.zero_add, World.cell?_alloc_new]; simp [hj, byt]⟩⟩
theorem read_two (w : World) : Calls Try.prog 16 #[.slice (some ⟨w.heap.size, 0, none⟩) 2 2, .int .i64 0, .int .i64 32] (w.alloc (.cells #[.int .u8 128, .int .u8 0] 5))
    (ValPost (.tuple #[.int .u64 0, .int .i64 2, .bool true]) (w.alloc (.cells #[.int .u8 128, .int .u8 0] 5))) :=
  readU_any (some ⟨w.heap.size, 0, none⟩) 2 2 [128, 0] rfl (by decide) (by decide) 0 32 _ (bytes_new w [128, 0] (by decide))
theorem read_five (w : World) : Calls Try.prog 16 #[.slice (some ⟨w.heap.size, 0, none⟩) 5 5, .int .i64 0, .int .i64 32] (w.alloc (.cells #[.int .u8 255, .int .u8 255, .int .u8 255, .int .u8 255, .int .u8 255] 5))
    (ValPost (.tuple #[.int .u64 0, .int .i64 0, .bool false]) (w.alloc (.cells #[.int .u8 255, .int .u8 255, .int .u8 255, .int .u8 255, .int .u8 255] 5))) :=
  readU_any (some ⟨w.heap.size, 0, none⟩) 5 5 [255, 255, 255, 255, 255] rfl (by decide) (by decide) 0 32 _ (bytes_new w [255, 255, 255, 255, 255] (by decide))
theorem s_minus (w : World) : Calls Try.prog 9 #[.int .i64 (-1)] w (EncIs [127] w) := by
  have h := s_is (-1) (by decide) (by decide) w
  rw [show encS (-1) = [127] by rw [encS_lo (by decide)]; rfl] at h
  exact h
theorem u_128 (w : World) : Calls Try.prog 7 #[.int .u64 128] w (EncIs [128, 1] w) := by
  have h := u_is 128 (by decide) w
  rw [show encU 128 = [128, 1] by rw [encU_hi (by decide), encU_lo (by decide)]] at h
  exact h

theorem str_127 : ((strB [127]).toList == [127]) = true := by decide +kernel
theorem str_128 : ((strB [128, 1]).toList == [128, 1]) = true := by decide +kernel

set_option maxRecDepth 10000 in
theorem known_any (w : World) : Calls Try.prog 12 #[] w (BoolPost true w) := by
  have e1 := str_127
  have e2 := str_128
  go_enter Try.func12, Try.ntmps12
  go_wp2_with fail
  go_at_call 16
  refine (read_two w).mono ?_
  rintro e w1 ⟨rfl, hb⟩
  have hnx : Below w.heap.size w w1 := ((Below.refl _ _).alloc (Nat.le_refl _) _).trans (hb.mono (by simp))
  clear hb
  go_wp2_with fail
  go_at_call 16
  refine (read_five w1).mono ?_
  rintro e w2 ⟨rfl, hb⟩
  replace hnx : Below w.heap.size w w2 := (hnx.alloc hnx.size _).trans (hb.mono (by have := hnx.size; simp; omega))
  clear hb
  go_wp2_with fail
  go_at_call 9
  refine (s_minus w2).mono ?_
  rintro e w3 ⟨g, cap, rfl, _, _, hby, _, _, hb⟩
  have hs := bytes_says hby 1 cap rfl
  replace hnx := below_then hnx hb
  clear hb hby
  go_wp2_with fail
  go_at_call 7
  refine (u_128 w3).mono ?_
  rintro e w4 ⟨g4, cap4, rfl, _, _, hby, _, _, hb⟩
  have hs4 := bytes_says hby 2 cap4 rfl
  replace hnx := below_then hnx hb
  clear hb hby hs
  go_wp2
  go_ret
  exact ⟨rfl, hnx⟩
end Go.Proofs.Ytebnlblkjdopaaa
