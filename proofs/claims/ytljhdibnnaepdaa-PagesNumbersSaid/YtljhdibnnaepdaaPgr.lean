/-
  Contracts of the document's memories.
-/
import Derived.Test.YtljhdibnnaepdaaPgx
namespace Go.Proofs.Ytljhdibnnaepdaa
open Go.RowKit
variable {p B p2 B2 : Nat} {l l2 : List Nat} {mx mx2 : Nat} {w w' : World}

theorem rnew_yes (k mx : Nat) (h1 : k ≤ mx) (h2 : mx ≤ 512) (w : World) : Calls Try.prog 17 #[.int .i64 (k : Int), .int .i64 (mx : Int)] w (NewYes 46 k mx w) := by
  have hmk := run_make_zeros (1024 * k) (by omega) w
  have hpg := pg_new 46 k mx h1 h2 w
  have d0 : decide ((k : Int) < 0) = false := by simp
  have d1 : decide (mx < k) = false := by simp; omega
  have d2 : decide ((512 : Int) < (mx : Int)) = false := by simp; omega
  obtain ⟨N, hN⟩ : ∃ N, 1024 * k = N := ⟨_, rfl⟩
  have hN2 : (k : Int) * 1024 = (N : Int) := by omega
  rw [hN] at hmk hpg
  have HP := Lib.hid hpg
  clear hpg
  have HN := Lib.hid hN
  clear hN
  go_enter Try.func17, Try.ntmps17
  go_wp2
  go_ret
  refine ⟨_, _, rfl, ?_, ?_, by rw [HN.out]; exact HP.out, ((Below.refl _ _).alloc (Nat.le_refl _) _).alloc (by simp) _⟩
  · simp
  · exact Nat.le_refl _
theorem rnew_no (a b : Int) (h : a < 0 ∨ b < a ∨ 512 < b) (w : World) : Calls Try.prog 17 #[.int .i64 a, .int .i64 b] w (NewNo w) := by
  by_cases h1 : a < 0
  · clear h
    go_enter Try.func17, Try.ntmps17
    go_wp2
    go_ret
    exact ⟨rfl, rfl⟩
  · by_cases h2 : b < a
    · clear h
      go_enter Try.func17, Try.ntmps17
      go_wp2
      go_ret
      exact ⟨rfl, rfl⟩
    · have h3 : 512 < b := by omega
      clear h
      go_enter Try.func17, Try.ntmps17
      go_wp2
      go_ret
      exact ⟨rfl, rfl⟩

def InPost (b : Bool) (w : World) (e : Ending) (w' : World) : Prop := e = .returned (.bool b) ∧ w = w'
theorem in_yes (hg : Pg 46 p B l mx w) (q n : Nat) (h : q + n ≤ l.length) : Calls Try.prog 24 #[.pointer (some ⟨p, 0, none⟩), .int .u64 (q : Int), .int .u64 (n : Int)] w (InPost true w) := by
  obtain ⟨c, hc, c0⟩ := hg.cell0
  have hf := hg.fits
  clear hg
  generalize l.length = L at *
  have d1 : decide (q ≤ L) = true := by simp; omega
  have d2 : decide ((n : Int) ≤ (L : Int) - q) = true := by simp; omega
  go_enter Try.func24, Try.ntmps24
  go_wp2
  go_ret
  exact ⟨rfl, rfl⟩
theorem in_no (hg : Pg 46 p B l mx w) (q n : Nat) (h : ¬ q + n ≤ l.length) : Calls Try.prog 24 #[.pointer (some ⟨p, 0, none⟩), .int .u64 (q : Int), .int .u64 (n : Int)] w (InPost false w) := by
  obtain ⟨c, hc, c0⟩ := hg.cell0
  have hf := hg.fits
  clear hg
  generalize l.length = L at *
  by_cases e : q ≤ L
  · have d1 : decide (q ≤ L) = true := by simp; omega
    have d2 : decide ((n : Int) ≤ (L : Int) - q) = false := by simp; omega
    go_enter Try.func24, Try.ntmps24
    go_wp2
    go_ret
    exact ⟨rfl, rfl⟩
  · have d1 : decide (q ≤ L) = false := by simp; omega
    go_enter Try.func24, Try.ntmps24
    go_wp2
    go_ret
    exact ⟨rfl, rfl⟩
theorem rpages_any (hg : Pg 46 p B l mx w) (k : Nat) (hk : l.length = 1024 * k) : Calls Try.prog 30 #[.pointer (some ⟨p, 0, none⟩)] w fun e w' => e = .returned (.int .i64 (k : Int)) ∧ w = w' := by
  obtain ⟨c, hc, c0⟩ := hg.cell0
  have hf := hg.fits
  rw [hk] at hc c0 hf
  have hq : ((1024 * k : Nat) : Int) / 1024 = (k : Int) := by omega
  clear hk hg
  go_enter Try.func30, Try.ntmps30
  go_wp2
  go_ret
  exact ⟨ret_int (by first | exact hq | omega), rfl⟩

/-! ### Put -/
theorem rput_yes (hg : Pg 46 p B l mx w) (q : Nat) (A : Option Addr) (ys : List Nat) (c : Nat) (hb : Bytes w A ys) (h : q + ys.length ≤ l.length) :
    Calls Try.prog 18 #[.pointer (some ⟨p, 0, none⟩), .int .u64 (q : Int), .slice A ys.length c] w (Wrote 46 p B (.bool true) (splice l q ys) mx w) := by
  have C := Lib.hid (in_yes hg q ys.length h)
  obtain ⟨c1, hc1, c0⟩ := hg.cell0
  obtain ⟨r, e1, e2, e3⟩ := hg.ex
  have hf := hg.fits
  obtain ⟨n, hn⟩ : ∃ n, ys.length = n := ⟨_, rfl⟩
  obtain ⟨L, hL⟩ : ∃ L, l.length = L := ⟨_, rfl⟩
  rw [hn] at C h ⊢
  rw [hL] at h c0 hc1 hf
  have hmin : n.min (L - q) = n := Nat.min_eq_left (by omega)
  have G := Lib.hid hg
  have HB := Lib.hid hb
  have HN := Lib.hid hn
  have HL := Lib.hid hL
  have E2 := Lib.hid e2
  have HM := Lib.hid hmin
  clear hg hb hn hL e1 e2 e3 hmin
  have hfin : ∀ w2 : World, But [B] w w2 → Hid (w2.heap[B]? = some (.cells (splice (l.map byt ++ r) q ((ys.take (L - q)).map byt)).toArray 5 (0, 0))) → Wrote 46 p B (.bool true) (splice l q ys) mx w (.returned (.bool true)) w2 := by
    intro w2 hb2 hw2
    refine ⟨rfl, hb2, G.out.spliced q ys (by rw [HN.out, HL.out]; exact h) HB.out.1 hb2 fun cur hcur => ?_⟩
    have e : cur = l.map byt ++ r := by
      have := hcur.symm.trans E2.out
      simpa using this
    rw [e, hw2.out, List.take_of_length_le (by rw [HN.out]; omega)]
  have HF := Lib.hid hfin
  have HQ : Hid (q + n.min (L - q) ≤ (l.map byt ++ r).length) := by show _ ≤ _; rw [HM.out, List.length_append, List.length_map, HL.out]; omega
  clear hfin
  by_cases hq : q = c1
  · obtain rfl : n = 0 := by omega
    obtain rfl : L = q := by omega
    subst hq
    have hsz : (Try.prog.info? 5).map (·.size) = some 1 := by kernel_rfl
    go_enter Try.func18, Try.ntmps18
    go_upto_region 3 with (go_at_call 24; refine C.out.mono ?_; rintro e w' ⟨rfl, rfl⟩)
    go_wp2_with (with_reducible refine wpList_copy_nothing rfl (.tmp 19) (.tmp 20) 27 27 rfl 5 Try.underlying27 hsz (some ⟨B, 0, none⟩) A 0 0 0 c rfl rfl rfl ?_)
    go_ret
    have e : ys = [] := List.eq_nil_of_length_eq_zero HN.out
    rw [e, splice_nil]
    exact Wrote.same G.out
  · go_enter Try.func18, Try.ntmps18
    go_upto_region 3 with (go_at_call 24; refine C.out.mono ?_; rintro e w' ⟨rfl, rfl⟩)
    go_wp2_with (with_reducible refine wpList_copy_bytes rfl (.tmp 19) (.tmp 20) rfl B q (L - q) _ n c _ A rfl rfl (l.map byt ++ r) ys E2.out HN.out HB.out (fun _ => rfl) HQ.out ?_; intro w2 hb2 hw2)
    go_ret
    exact HF.out w2 hb2 hw2
end Go.Proofs.Ytljhdibnnaepdaa
