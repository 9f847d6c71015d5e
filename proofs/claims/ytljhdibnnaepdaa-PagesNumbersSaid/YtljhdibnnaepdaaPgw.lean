/-
  Contracts of package pages' functions that make, write and read bytes.
-/
import Derived.Test.YtljhdibnnaepdaaPgp
import Derived.Test.YtljhdibnnaepdaaPgs
import Derived.Deep.CutRange
namespace Go.Proofs.Ytljhdibnnaepdaa
open Go.RowKit
variable {p B : Nat} {l : List Nat} {mx : Nat} {w w' : World}

/-! ### New -/
theorem made_zeros (n : Nat) : madeCells (Value.int .u8 0).cells (n * 1) = Array.replicate n (byt 0) := by
  apply Array.ext'
  simp [madeCells, byt, Value.cells]
  apply List.ext_getElem?
  intro i
  by_cases h : i < n
  · simp [h, Nat.mod_one]
  · simp [h]
theorem run_make_zeros (n : Nat) (hn : n ≤ 1000000) (w : World) : (Instr.makeSlice 27 (.int .i64 (n : Int)) (.int .i64 (n : Int))).run Try.prog w = .ok (.slice (some ⟨w.heap.size, 0, none⟩) n n) (w.alloc (.cells (Array.replicate n (byt 0)) 5)) := by
  obtain ⟨i0, hi, hz0, hz1, hz2⟩ := info_parts Try.info_byte
  have h := run_make (P := Try.prog) w 27 5 i0 _ Try.underlying27 hi hz0 .i64 .i64 n n (by omega) (by omega) (by rw [hz2]; omega) (by omega)
  rw [hz1, Int.toNat_natCast, made_zeros] at h
  exact h
/-- A memory of its own. -/
def NewYes (T : TypeId) (k mx : Nat) (w : World) (e : Ending) (w' : World) : Prop := ∃ p B, e = .returned (.pointer (some ⟨p, 0, none⟩)) ∧ w.heap.size ≤ p ∧ w.heap.size ≤ B ∧ Pg T p B (List.replicate (1024 * k) 0) mx w' ∧ Below w.heap.size w w'
def NewNo (w : World) (e : Ending) (w' : World) : Prop := e = .returned (.pointer none) ∧ w = w'
theorem pg_new (T : TypeId) (k mx : Nat) (h1 : k ≤ mx) (h2 : mx ≤ 512) (w : World) : Pg T (w.heap.size + 1) w.heap.size (List.replicate (1024 * k) 0) mx ((w.alloc (.cells (Array.replicate (1024 * k) (byt 0)) 5)).alloc (.cells #[.slice (some ⟨w.heap.size, 0, none⟩) (1024 * k) (1024 * k), .int .i64 (mx : Int)] T)) := by
  refine ⟨⟨[], ?_, ?_, by simp; unfold maxLen; omega⟩, by omega, fun x hx => by have := List.eq_of_mem_replicate hx; omega, h2, ⟨k, by simp, h1⟩⟩
  · have h := heap_alloc_new (w.alloc (.cells (Array.replicate (1024 * k) (byt 0)) 5)) (.cells #[.slice (some ⟨w.heap.size, 0, none⟩) (1024 * k) (1024 * k), .int .i64 (mx : Int)] T)
    simp at h ⊢
    exact h
  · rw [heap_alloc_old _ _ (by simp), heap_alloc_new]
    simp
theorem new_yes (k mx : Nat) (h1 : k ≤ mx) (h2 : mx ≤ 512) (w : World) : Calls Try.prog 10 #[.int .i64 (k : Int), .int .i64 (mx : Int)] w (NewYes 52 k mx w) := by
  have hmk := run_make_zeros (1024 * k) (by omega) w
  have hpg := pg_new 52 k mx h1 h2 w
  have d0 : decide ((k : Int) < 0) = false := by simp
  have d1 : decide (mx < k) = false := by simp; omega
  have d2 : decide ((512 : Int) < (mx : Int)) = false := by simp; omega
  obtain ⟨N, hN⟩ : ∃ N, 1024 * k = N := ⟨_, rfl⟩
  have hN2 : (k : Int) * 1024 = (N : Int) := by omega
  rw [hN] at hmk hpg
  have HP := Lib.hid hpg
  clear hpg
  have HN := Lib.hid hN
  clear hN
  go_enter Try.func10, Try.ntmps10
  go_wp2
  go_ret
  refine ⟨_, _, rfl, ?_, ?_, by rw [HN.out]; exact HP.out, ((Below.refl _ _).alloc (Nat.le_refl _) _).alloc (by simp) _⟩
  · simp
  · exact Nat.le_refl _
theorem new_no (a b : Int) (h : a < 0 ∨ b < a ∨ 512 < b) (w : World) : Calls Try.prog 10 #[.int .i64 a, .int .i64 b] w (NewNo w) := by
  by_cases h1 : a < 0
  · clear h
    go_enter Try.func10, Try.ntmps10
    go_wp2
    go_ret
    exact ⟨rfl, rfl⟩
  · by_cases h2 : b < a
    · clear h
      go_enter Try.func10, Try.ntmps10
      go_wp2
      go_ret
      exact ⟨rfl, rfl⟩
    · have h3 : 512 < b := by omega
      clear h
      go_enter Try.func10, Try.ntmps10
      go_wp2
      go_ret
      exact ⟨rfl, rfl⟩

/-! ### What a call that writes leaves -/
/-- It answers b; the memory at p holds l2 now, in block B2 (the old one or a new one); all else is as it was. -/
def Wrote (T : TypeId) (p B : Nat) (v : Value) (l2 : List Nat) (mx : Nat) (w : World) (e : Ending) (w' : World) : Prop :=
  e = .returned v ∧ But [B] w w' ∧ Pg T p B l2 mx w'
theorem Wrote.same {T : TypeId} {v : Value} (h : Pg T p B l mx w) : Wrote T p B v l mx w (.returned v) w := ⟨rfl, But.refl _ _, h⟩

/-! ### Put -/
theorem put_yes (hg : Pg 52 p B l mx w) (q : Nat) (A : Option Addr) (ys : List Nat) (c : Nat) (hb : Bytes w A ys) (h : q + ys.length ≤ l.length) :
    Calls Try.prog 11 #[.pointer (some ⟨p, 0, none⟩), .int .u64 (q : Int), .slice A ys.length c] w (Wrote 52 p B (.bool true) (splice l q ys) mx w) := by
  have C := Lib.hid (part_yes hg q ys.length h)
  obtain ⟨r, e1, e2, e3⟩ := hg.ex
  have hf := hg.fits
  obtain ⟨n, hn⟩ : ∃ n, ys.length = n := ⟨_, rfl⟩
  rw [hn] at C h ⊢
  have G := Lib.hid hg
  have HB := Lib.hid hb
  have HN := Lib.hid hn
  have E2 := Lib.hid e2
  clear hg hb hn e1 e2 e3
  go_enter Try.func11, Try.ntmps11
  go_upto_region 2 with (go_at_call 23; refine C.out.mono ?_; rintro e w' ⟨rfl, A2, c2, rfl, h1, h2⟩; have H2 := Lib.hid h2; clear h2)
  go_wp2_with (with_reducible refine wpList_copy_bytes rfl (.tmp 18) (.tmp 19) rfl B q n _ n c _ A rfl rfl (l.map byt ++ r) ys E2.out HN.out HB.out ?c1 ?c2 ?_)
  case c1 => intro h0; exact H2.out (by have : Nat.min n n = n := Nat.min_self n; omega)
  case c2 => have : Nat.min n n = n := Nat.min_self n; simp; omega
  intro w2 hb2 hw2
  go_wp2
  go_ret
  refine ⟨rfl, hb2, G.out.spliced q ys (by rw [HN.out]; exact h) HB.out.1 hb2 fun cur hcur => ?_⟩
  have e : cur = l.map byt ++ r := by
    have := hcur.symm.trans E2.out
    simpa using this
  rw [e, hw2.out, List.take_of_length_le (by rw [List.length_map, HN.out]; exact Nat.le_refl _)]
theorem put_no (hg : Pg 52 p B l mx w) (q : Nat) (A : Option Addr) (n c : Nat) (h : ¬ q + n ≤ l.length) (hn : n ≤ maxLen) :
    Calls Try.prog 11 #[.pointer (some ⟨p, 0, none⟩), .int .u64 (q : Int), .slice A n c] w (Wrote 52 p B (.bool false) l mx w) := by
  have C := Lib.hid (part_no hg q n h)
  have hsz : (Try.prog.info? 5).map (·.size) = some 1 := by kernel_rfl
  have G := Lib.hid hg
  clear hg h
  unfold maxLen at hn
  go_enter Try.func11, Try.ntmps11
  go_upto_region 2 with (go_at_call 23; refine C.out.mono ?_; rintro e w' ⟨rfl, rfl⟩)
  go_wp2_with (with_reducible refine wpList_copy_nothing rfl (.tmp 18) (.tmp 19) 27 27 rfl 5 Try.underlying27 hsz none A 0 0 n c rfl rfl (Nat.min_zero n) ?_)
  go_wp2
  go_ret
  exact Wrote.same G.out

/-! ### Fill -/
theorem fill_yes (hg : Pg 52 p B l mx w) (q v n : Nat) (hv : v < 256) (h : q + n ≤ l.length) :
    Calls Try.prog 22 #[.pointer (some ⟨p, 0, none⟩), .int .u64 (q : Int), .int .u8 (v : Int), .int .u64 (n : Int)] w (Wrote 52 p B (.bool true) (splice l q (List.replicate n v)) mx w) := by
  have C := Lib.hid (part_yes hg q n h)
  have hf := hg.fits
  have G := Lib.hid hg
  clear hg
  go_enter Try.func22, Try.ntmps22
  go_wp2_with (go_at_call 23; refine C.out.mono ?_; rintro e w' ⟨rfl, A, c, rfl, h1, h2⟩; have H2 := Lib.hid h2; clear h2)
  go_loopw [11, 21] (fun _ i wr => ∃ k : Nat, k ≤ n ∧ i = .int .i64 (k : Int) ∧ But [B] w wr ∧ Pg 52 p B (splice l q (List.replicate k v)) mx wr) (fun _ i _ => n - (intOf i).toNat)
  case atStart => exact ⟨0, Nat.zero_le _, rfl, But.refl _ _, by rw [List.replicate_zero, splice_nil]; exact G.out⟩
  case round =>
    obtain ⟨k, hk, rfl, hbu, hpg⟩ := hrel
    by_cases hlt : k < n
    · obtain rfl := H2.out (by omega)
      have hls : (splice l q (List.replicate k v)).length = l.length := length_splice _ _ _ (by simp; omega)
      have hc := hpg.byte_at (q + k) (by omega)
      have hm := hpg.mark (q + k)
      have hpg2 := hpg.set (q + k) v (by omega) hv
      have hbu2 := hbu.trans (But.setCell wr (a := ⟨B, q + k, none⟩) (X := [B]) (by simp) (.int .u8 (v : Int)))
      have e := splice_snoc l q (List.replicate k v) v (by simp; omega)
      rw [List.length_replicate, ← List.replicate_succ'] at e
      rw [e] at hpg2
      have HP := Lib.hid hpg2
      have HB := Lib.hid hbu2
      clear hpg hpg2 hbu hbu2 e hls
      go_wp2
      go_roundw
      case rel => exact ⟨k + 1, by omega, by go_num, HB.out, HP.out⟩
      case measure => simp [intOf]; omega
    · obtain rfl : k = n := by omega
      have HP := Lib.hid hpg
      have HB := Lib.hid hbu
      clear hpg hbu
      go_wp2
      go_ret
      exact ⟨rfl, HB.out, HP.out⟩
theorem fill_no (hg : Pg 52 p B l mx w) (q v n : Nat) (h : ¬ q + n ≤ l.length) :
    Calls Try.prog 22 #[.pointer (some ⟨p, 0, none⟩), .int .u64 (q : Int), .int .u8 (v : Int), .int .u64 (n : Int)] w (Wrote 52 p B (.bool false) l mx w) := by
  have C := Lib.hid (part_no hg q n h)
  have G := Lib.hid hg
  clear hg h
  go_enter Try.func22, Try.ntmps22
  go_wp2_with (go_at_call 23; refine C.out.mono ?_; rintro e w' ⟨rfl, rfl⟩)
  go_loop [11, 21] (fun _ i => i = .int .i64 0) (fun _ i => (intOf i).toNat)
  case atStart => rfl
  case round =>
    subst hrel
    go_wp2
    go_ret
    exact Wrote.same G.out

/-! ### Store -/
theorem store_yes (hg : Pg 52 p B l mx w) (q v n : Nat) (hn : n = 1 ∨ n = 2 ∨ n = 4 ∨ n = 8) (h : q + n ≤ l.length) :
    Calls Try.prog 20 #[.pointer (some ⟨p, 0, none⟩), .int .u64 (q : Int), .int .i64 (n : Int), .int .u64 (v : Int)] w (Wrote 52 p B (.bool true) (splice l q (leN n v)) mx w) := by
  have C := Lib.hid (number_yes hg q n hn h)
  have hf := hg.fits
  have G := Lib.hid hg
  have hn8 : n ≤ 8 := by omega
  clear hg hn
  go_enter Try.func20, Try.ntmps20
  go_wp2_with (go_at_call 31; refine C.out.mono ?_; rintro e w' ⟨rfl, A, c, rfl, h1, h2⟩; have H2 := Lib.hid h2; clear h2)
  go_loopw [11, 21] (fun _ i wr => ∃ k : Nat, k ≤ n ∧ i = .int .i64 (k : Int) ∧ But [B] w wr ∧ Pg 52 p B (splice l q (leN k v)) mx wr) (fun _ i _ => n - (intOf i).toNat)
  case atStart => exact ⟨0, Nat.zero_le _, rfl, But.refl _ _, by rw [show leN 0 v = [] from rfl, splice_nil]; exact G.out⟩
  case round =>
    obtain ⟨k, hk, rfl, hbu, hpg⟩ := hrel
    by_cases hlt : k < n
    · obtain rfl := H2.out (by omega)
      have hls : (splice l q (leN k v)).length = l.length := length_splice _ _ _ (by rw [leN_len]; omega)
      have hc := hpg.byte_at (q + k) (by omega)
      have hm := hpg.mark (q + k)
      have hx : v / 256 ^ k % 256 < 256 := Nat.mod_lt _ (by decide)
      have hpg2 := hpg.set (q + k) (v / 256 ^ k % 256) (by omega) hx
      have hbu2 := hbu.trans (But.setCell wr (a := ⟨B, q + k, none⟩) (X := [B]) (by simp) (.int .u8 ((v / 256 ^ k % 256 : Nat) : Int)))
      have e := splice_snoc l q (leN k v) (v / 256 ^ k % 256) (by rw [leN_len]; omega)
      rw [leN_len, ← leN_snoc] at e
      rw [e] at hpg2
      have e8 : IntKind.u8.wrap ((v : Int) / 2 ^ (8 * k)) = ((v / 256 ^ k % 256 : Nat) : Int) := by rw [pow8, IntKind.wrap_u8, Int.natCast_emod, Int.natCast_ediv, Int.natCast_pow]; rfl
      have HP := Lib.hid hpg2
      have HB := Lib.hid hbu2
      clear hpg hpg2 hbu hbu2 e hls
      generalize v / 256 ^ k % 256 = x at *
      go_wp2
      go_roundw
      case rel => exact ⟨k + 1, by omega, by go_num, HB.out, HP.out⟩
      case measure => simp [intOf]; omega
    · obtain rfl : k = n := by omega
      have HP := Lib.hid hpg
      have HB := Lib.hid hbu
      clear hpg hbu
      go_wp2
      go_ret
      exact ⟨rfl, HB.out, HP.out⟩
theorem store_no (hg : Pg 52 p B l mx w) (q v : Nat) (n : Int) (h : ¬ (wideB n = true ∧ (q : Int) + n ≤ l.length)) :
    Calls Try.prog 20 #[.pointer (some ⟨p, 0, none⟩), .int .u64 (q : Int), .int .i64 n, .int .u64 (v : Int)] w (Wrote 52 p B (.bool false) l mx w) := by
  have C := Lib.hid (number_no hg q n h)
  have G := Lib.hid hg
  clear hg h
  go_enter Try.func20, Try.ntmps20
  go_wp2_with (go_at_call 31; refine C.out.mono ?_; rintro e w' ⟨rfl, rfl⟩)
  go_loop [11, 21] (fun _ i => i = .int .i64 0) (fun _ i => (intOf i).toNat)
  case atStart => rfl
  case round =>
    subst hrel
    go_wp2
    go_ret
    exact Wrote.same G.out

/-! ### Load -/
def LoadPost (v : Nat) (b : Bool) (w : World) (e : Ending) (w' : World) : Prop := w = w' ∧ e = .returned (.tuple #[.int .u64 (v : Int), .bool b])
theorem ret_load {a b : Nat} (h : a = b) : Ending.returned (.tuple #[.int .u64 (a : Int), .bool true]) = .returned (.tuple #[.int .u64 (b : Int), .bool true]) := by rw [h]
theorem load_yes (hg : Pg 52 p B l mx w) (q n : Nat) (hn : n = 1 ∨ n = 2 ∨ n = 4 ∨ n = 8) (h : q + n ≤ l.length) :
    Calls Try.prog 21 #[.pointer (some ⟨p, 0, none⟩), .int .u64 (q : Int), .int .i64 (n : Int)] w (LoadPost (valN ((l.drop q).take n)) true w) := by
  have C := Lib.hid (number_yes hg q n hn h)
  have G := Lib.hid hg
  have hn8 : n ≤ 8 := by omega
  have hlen : ((l.drop q).take n).length = n := by simp; omega
  have hby : ∀ x ∈ (l.drop q).take n, x < 256 := fun x hx => hg.byte x (List.mem_of_mem_drop (List.mem_of_mem_take hx))
  have HPART := Lib.hid fun (A : Option Addr) (hA : 0 < n → A = some ⟨B, q, none⟩) => hg.part q n h A hA
  clear hg hn h
  generalize (l.drop q).take n = ys at *
  have HL := Lib.hid hlen
  have HBY := Lib.hid hby
  clear hlen hby
  go_enter Try.func21, Try.ntmps21
  go_wp2_with (go_at_call 31; refine C.out.mono ?_; rintro e w' ⟨rfl, A, c, rfl, h1, h2⟩; have H2 := Lib.hid h2; clear h2)
  go_loop [10, 11, 12, 22] (fun v _ _ i => ∃ k : Nat, k ≤ n ∧ i = .int .i64 (k : Int) ∧ v = .int .u64 ((valN (ys.take k) : Nat) : Int)) (fun _ _ _ i => n - (intOf i).toNat)
  case atStart => exact ⟨0, Nat.zero_le _, rfl, rfl⟩
  case round =>
    obtain ⟨k, hk, rfl, rfl⟩ := hrel
    by_cases hlt : k < n
    · have hA := H2.out (by omega)
      obtain ⟨g, o, he, _, hc⟩ := (HPART.out A H2.out).2 (by rw [HL.out]; omega)
      rw [hA] at he
      simp only [Option.some.injEq, Addr.mk.injEq] at he
      obtain ⟨rfl, rfl, _⟩ := he
      have c0 := hc k (by rw [HL.out]; exact hlt)
      have hst := or_up ys HBY.out k (by rw [HL.out]; exact hlt) (by omega)
      have hx : ys.getD k 0 < 256 := getD_lt (by decide) HBY.out k
      generalize ys.getD k 0 = x at c0 hst hx
      generalize valN (ys.take k) = V at hst ⊢
      have HS := Lib.hid hst
      clear hc hst
      subst hA
      go_wp2
      go_round
      case rel => exact ⟨k + 1, by omega, by go_num, by rw [HS.out]⟩
      case measure => simp [intOf]; omega
    · obtain rfl : k = n := by omega
      go_wp2
      go_ret2
      exact ⟨rfl, ret_load (by rw [List.take_of_length_le (by rw [HL.out]; exact Nat.le_refl _)])⟩
theorem load_no (hg : Pg 52 p B l mx w) (q : Nat) (n : Int) (h : ¬ (wideB n = true ∧ (q : Int) + n ≤ l.length)) :
    Calls Try.prog 21 #[.pointer (some ⟨p, 0, none⟩), .int .u64 (q : Int), .int .i64 n] w (LoadPost 0 false w) := by
  have C := Lib.hid (number_no hg q n h)
  clear hg h
  go_enter Try.func21, Try.ntmps21
  go_wp2_with (go_at_call 31; refine C.out.mono ?_; rintro e w' ⟨rfl, rfl⟩)
  go_loop [10, 11, 12, 22] (fun v _ _ i => i = .int .i64 0 ∧ v = .int .u64 0) (fun _ _ _ i => (intOf i).toNat)
  case atStart => exact ⟨rfl, rfl⟩
  case round =>
    obtain ⟨rfl, rfl⟩ := hrel
    go_wp2
    go_ret2
    exact ⟨rfl, rfl⟩
end Go.Proofs.Ytljhdibnnaepdaa
