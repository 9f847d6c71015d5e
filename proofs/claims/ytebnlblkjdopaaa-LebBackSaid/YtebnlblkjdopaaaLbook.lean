/-
  Contracts of the book's Same, Roomy, Intact over bytes, and of Within.
-/
import Derived.Test.YtebnlblkjdopaaaLblk
import Derived.Test.YtebnlblkjdopaaaLapp
import Derived.Laws.CopyOwn
import Derived.Deep.CutRange
namespace Go.Proofs.Ytebnlblkjdopaaa
open Go.RowKit

/-! ### Same -/
theorem same_none (A B : Option Addr) (c d : Nat) (w : World) : Calls Try.prog 20 #[.slice A 0 c, .slice B 0 d] w (BoolPost true w) := by
  go_enter Try.func20, Try.ntmps20
  go_wp2
  go_loop [5] (fun i => i = .int .i64 0) (fun i => (intOf i).toNat)
  case atStart => rfl
  case round =>
    subst hrel
    go_wp2
    go_ret
    exact ⟨rfl, Below.refl _ _⟩
theorem same_some (g o h q n ca cb : Nat) (l : List Nat) (hm : n ≤ 1000000) (w : World) (hg : ∀ j, j < n → w.cell? ⟨g, o + j, none⟩ = some (.int .u8 (l.getD j 0 : Nat))) (hh : ∀ j, j < n → w.cell? ⟨h, q + j, none⟩ = some (.int .u8 (l.getD j 0 : Nat))) :
    Calls Try.prog 20 #[.slice (some ⟨g, o, none⟩) n ca, .slice (some ⟨h, q, none⟩) n cb] w (BoolPost true w) := by
  have HG := Lib.hid hg
  have HH := Lib.hid hh
  clear hg hh
  go_enter Try.func20, Try.ntmps20
  go_wp2
  go_loopw [5] (fun i wr => ∃ k m : Nat, k ≤ n ∧ i = .int .i64 (k : Int) ∧ wr = w.drewN m) (fun i _ => n - (intOf i).toNat)
  case atStart => exact ⟨0, 0, Nat.zero_le _, rfl, rfl⟩
  case round =>
    obtain ⟨k, m, hk, rfl, rfl⟩ := hrel
    by_cases hlt : k < n
    · have c1 := HG.out k hlt
      have c2 := HH.out k hlt
      generalize l.getD k 0 = x at c1 c2
      go_wp2_with fail
      go_quiet (fail)
      all_goals
        go_wp2
        go_roundw
        case rel => exact ⟨k + 1, _, by omega, by go_num, rfl⟩
        case measure => simp [intOf]; omega
    · go_wp2
      go_ret
      exact ⟨rfl, below_drewN (Below.refl _ _) _⟩
theorem same_bytes (A B : Option Addr) (n c d : Nat) (l : List Nat) (hm : n ≤ 1000000) (hl : l.length = n) (w : World) (ha : Bytes w A l) (hb : Bytes w B l) :
    Calls Try.prog 20 #[.slice A n c, .slice B n d] w (BoolPost true w) := by
  rcases Nat.eq_zero_or_pos n with h0 | h0
  · subst h0; exact same_none A B c d w
  · obtain ⟨g, o, rfl, _, hg⟩ := ha.2 (by omega)
    obtain ⟨h, q, rfl, _, hh⟩ := hb.2 (by omega)
    rw [hl] at hg hh
    exact same_some g o h q n c d l hm w hg hh

/-! ### Within -/
abbrev SomeInt (w : World) (e : Ending) (w' : World) : Prop := (∃ r : Int, e = .returned (.int .i64 r)) ∧ w = w'
def IntPost (w : World) (e : Ending) (w' : World) : Prop := SomeInt w e w'
theorem within_some (p : Int) (lo hi : Nat) (h1 : lo ≤ hi) (h2 : hi ≤ 64) (w : World) : Calls Try.prog 14 #[.int .i64 p, .int .i64 (lo : Int), .int .i64 (hi : Int)] w (IntPost w) := by
  have hz : ((hi : Int) - lo + 1 == 0) = false := by simp; omega
  have h0 : (0 : Int) < (hi : Int) - lo + 1 := by omega
  have t0 := Int.lt_tmod_of_pos p h0
  have t1 := Int.tmod_lt_of_pos p h0
  go_enter Try.func14, Try.ntmps14
  go_wp2
  all_goals go_ret
  all_goals exact ⟨⟨_, rfl⟩, rfl⟩

/-! ### Roomy -/
/-- The bytes l, j marks, and zeros up to 80 more. -/
def fillL (l : List Nat) (j : Nat) : List Nat := l ++ (List.replicate j 165 ++ List.replicate (80 - j) 0)
theorem fillL_len (l : List Nat) (j : Nat) (h : j ≤ 80) : (fillL l j).length = l.length + 80 := by unfold fillL; simp; omega
theorem fillL_byte (l : List Nat) (j : Nat) (h : ∀ x ∈ l, x < 256) : ∀ x ∈ fillL l j, x < 256 := by
  intro x hx
  unfold fillL at hx
  rcases List.mem_append.1 hx with hx | hx
  · exact h x hx
  · rcases List.mem_append.1 hx with hx | hx
    · have := List.eq_of_mem_replicate hx; omega
    · have := List.eq_of_mem_replicate hx; omega
theorem fillL_set (l : List Nat) (j : Nat) (h : j < 80) : (fillL l j).set (l.length + j) 165 = fillL l (j + 1) := by
  unfold fillL
  rw [List.set_append_right _ _ (by omega), Nat.add_sub_cancel_left, List.set_append_right _ _ (by simp), List.length_replicate, Nat.sub_self]
  obtain ⟨k, hk⟩ : ∃ k, 80 - j = k + 1 := ⟨80 - j - 1, by omega⟩
  rw [hk, show 80 - (j + 1) = k by omega, List.replicate_succ, List.set_cons_zero, List.replicate_succ' (n := j), List.append_assoc]
  rfl
theorem fillL_splice (l : List Nat) : splice (List.replicate (l.length + 80) (byt 0)) 0 (l.map byt) = (fillL l 0).map byt := by
  unfold splice fillL
  simp [List.drop_replicate]
theorem ret_slice {A : Option Addr} {n m : Nat} (h : n = m) : Ending.returned (.slice A n n) = .returned (.slice A m m) := by rw [h]

/-- A row of the call's own: l, and 80 marks behind it. -/
def RoomyPost (l : List Nat) (w : World) (e : Ending) (w' : World) : Prop := ∃ F : Nat, e = .returned (.slice (some ⟨F, 0, none⟩) (l.length + 80) (l.length + 80)) ∧ HeldB w F (fillL l 80) w'

set_option maxRecDepth 10000 in
theorem roomy_any (A : Option Addr) (c : Nat) (l : List Nat) (hn : l.length ≤ 1000) (w : World) (hb : Bytes w A l) :
    Calls Try.prog 13 #[.slice A l.length c, .int .u8 165] w (RoomyPost l w) := by
  obtain ⟨N, hN⟩ : ∃ N : Nat, (l.length : Int) + 80 = (N : Int) := ⟨l.length + 80, by omega⟩
  have hN2 : N = l.length + 80 := by omega
  have hmk := run_make_bytes N (by omega)
  have hh := held_made w w N (Below.refl _ _)
  have hb2 := hb.below (Below.alloc (Below.refl w.heap.size w) (Nat.le_refl _) (.cells (Array.replicate N (byt 0)) 5))
  have hl8 := hb.1
  have hsz : (Try.prog.info? 5).map (·.size) = some 1 := by kernel_rfl
  obtain ⟨n, hn2⟩ : ∃ n, l.length = n := ⟨_, rfl⟩
  rw [hn2] at hN hn ⊢
  have HN := Lib.hid hn2
  have HN2 := Lib.hid hN2
  have HB := Lib.hid hb2
  clear hb hb2 hn2 hN2
  go_enter Try.func13, Try.ntmps13
  go_upto_region 2 with fail
  generalize w.alloc (.cells (Array.replicate N (byt 0)) 5) = wq at hh HB ⊢
  go_wp2_with (with_reducible refine wpList_copy_splice rfl (.tmp 11) (.tmp 12) 23 23 rfl 5 Try.underlying23 hsz (some ⟨w.heap.size, 0, none⟩) A N N n c rfl rfl w.heap.size 0 (List.replicate N (byt 0)) 5 (by have h := hh.blk; rw [List.map_replicate] at h; exact h) (l.map byt) ?c1 ?c2 ?c3 ?c4 w.heap.size w hh.acc (Nat.le_refl _) ?_)
  case c1 => (try rw [List.length_map]); rw [HN.out]; exact (Nat.min_eq_left (by have := HN.out; have := HN2.out; omega)).symm
  case c2 =>
    intro h0
    (try rw [List.length_map] at h0)
    obtain ⟨g, o, rfl, _, _⟩ := HB.out.2 h0
    first | exact ⟨rfl, _, rfl, HB.out.news⟩ | exact ⟨_, rfl, HB.out.news⟩ | exact ⟨_, rfl, fun j u hu => HB.out.news j (byt u) (by simp [hu])⟩
  case c3 => simp only [List.length_map, List.length_replicate]; have := HN.out; have := HN2.out; omega
  case c4 => exact bytes_one l
  intro wr hbl hbr
  have hh2 : HeldB w w.heap.size (fillL l 0) wr := ⟨by rw [← fillL_splice l, ← HN2.out]; exact hbl.out, Nat.le_refl _, hbr, fillL_byte l 0 hl8⟩
  clear hh hbl hbr hmk hsz
  generalize w.heap.size = F at hh2 ⊢
  go_wp2
  go_loopw [6] (fun i wr => ∃ j : Nat, j ≤ 80 ∧ i = .int .i64 ((n : Int) + (j : Int)) ∧ HeldB w F (fillL l j) wr) (fun i _ => (N - intOf i).toNat)
  case atStart => exact ⟨0, Nat.zero_le _, by simp, hh2⟩
  case round =>
    clear hh2
    obtain ⟨j, hj, rfl, hh⟩ := hrel
    by_cases hlt : j < 80
    · have hc := hh.cell (n + j) (by rw [fillL_len l j hj, HN.out]; omega)
      have hf := hh.frozen (n + j)
      have hh2 := hh.set (n + j) 165 (by decide)
      rw [← HN.out, fillL_set l j hlt, HN.out] at hh2
      have hd : decide ((n : Int) + (j : Int) < (N : Int)) = true := by simp; omega
      clear hh
      go_wp2
      go_roundw
      case rel => exact ⟨j + 1, by omega, by go_num, hh2⟩
      case measure => simp [intOf]; omega
    · have hd : decide ((n : Int) + (j : Int) < (N : Int)) = false := by simp; omega
      have hj80 : j = 80 := by omega
      rw [hj80] at hh
      clear hj80
      go_wp2
      go_ret
      exact ⟨F, ret_slice HN2.out, hh⟩

/-! ### Intact -/
theorem fillL_take (l : List Nat) (j : Nat) : (fillL l j).take l.length = l := by unfold fillL; simp
theorem fillL_at (l : List Nat) (j : Nat) (h : j < 80) : (fillL l 80).getD (l.length + j) 0 = 165 := by
  have e : ∀ m, j < m → ∀ r, (l ++ (List.replicate m 165 ++ r)).getD (l.length + j) 0 = 165 := by
    intro m hm r
    rw [List.getD_eq_getElem?_getD, List.getElem?_append_right (by omega), Nat.add_sub_cancel_left, List.getElem?_append_left (by simpa using hm), List.getElem?_replicate, if_pos hm]
    rfl
  exact e 80 h _
set_option maxRecDepth 10000 in
theorem intact_any (A : Option Addr) (c F : Nat) (l : List Nat) (hn : l.length ≤ 1000) (w0 w : World) (hb : Bytes w A l) (hh : HeldB w0 F (fillL l 80) w) :
    Calls Try.prog 15 #[.slice (some ⟨F, 0, none⟩) (l.length + 80) (l.length + 80), .slice A l.length c, .int .u8 165] w (BoolPost true w) := by
  have hp : Bytes w (some ⟨F, 0, none⟩) l := by
    have h := hh.bytes.part 0 l.length (by rw [fillL_len l 80 (Nat.le_refl _)]; omega) (some ⟨F, 0, none⟩) (fun g o _ he => by rw [he]; rfl)
    rw [List.drop_zero, fillL_take] at h
    exact h
  have CS := same_bytes (some ⟨F, 0, none⟩) A l.length (l.length + 80) c l (by omega) rfl w hp hb
  have hcell : ∀ j, j < 80 → w.cell? ⟨F, l.length + j, none⟩ = some (.int .u8 165) := fun j hj => by
    have h := hh.cell (l.length + j) (by rw [fillL_len l 80 (Nat.le_refl _)]; omega)
    rw [fillL_at l j hj] at h
    exact h
  have hF := hh.lt
  generalize l.length = n at hn CS hcell ⊢
  obtain ⟨N, hN⟩ : ∃ N : Nat, n + 80 = N := ⟨_, rfl⟩
  rw [hN] at CS ⊢
  have hN2 : (n : Int) + 80 = (N : Int) := by omega
  have HCS := Lib.hid CS
  have HC := Lib.hid hcell
  clear CS hcell hb hh hp hN
  go_enter Try.func15, Try.ntmps15
  go_wp2_with (go_at_call 20; refine HCS.out.mono ?_; rintro e w1 ⟨rfl, hb⟩)
  go_loop [7] (fun i => ∃ j : Nat, j ≤ 80 ∧ i = .int .i64 ((n : Int) + (j : Int))) (fun i => (N - intOf i).toNat)
  case atStart => exact ⟨0, Nat.zero_le _, by simp⟩
  case round =>
    obtain ⟨j, hj, rfl⟩ := hrel
    by_cases hlt : j < 80
    · have hc := (hb.cell (p := ⟨F, n + j, none⟩) hF).trans (HC.out j hlt)
      have hd : decide ((n : Int) + (j : Int) < (N : Int)) = true := by simp; omega
      go_wp2
      go_round
      case rel => exact ⟨j + 1, by omega, by go_num⟩
      case measure => simp [intOf]; omega
    · have hd : decide ((n : Int) + (j : Int) < (N : Int)) = false := by simp; omega
      go_wp2
      go_ret
      exact ⟨rfl, hb⟩
end Go.Proofs.Ytebnlblkjdopaaa
