/- A part of the proof. -/
import Derived.Test.YteohmkceapblkaaDoorJ23
namespace Go.Proofs.YteohmkceapblkaaDoor
open Go.RowKit
theorem kind_any (t : Int) (w : World) : Calls Tryd.prog 66 #[.int .i64 t] w (BoolPost (kindB t) w) := by
  by_cases c0 : t = 127
  · subst c0
    rw [show kindB 127 = true from rfl]
    go_enter Tryd.func66, Tryd.ntmps66
    go_wp2
    go_ret
    exact ⟨rfl, Below.refl _ _⟩
  · skip
    by_cases c1 : t = 126
    · subst c1
      rw [show kindB 126 = true from rfl]
      go_enter Tryd.func66, Tryd.ntmps66
      go_wp2
      go_ret
      exact ⟨rfl, Below.refl _ _⟩
    · skip
      by_cases c2 : t = 124
      · subst c2
        rw [show kindB 124 = true from rfl]
        go_enter Tryd.func66, Tryd.ntmps66
        go_wp2
        go_ret
        exact ⟨rfl, Below.refl _ _⟩
      · skip
        rw [show kindB t = false from decide_eq_false (by omega)]
        have d0 : (t == 127) = false := by simpa using c0
        have d1 : (t == 126) = false := by simpa using c1
        have d2 : (t == 124) = false := by simpa using c2
        clear c0 c1 c2
        go_enter Tryd.func66, Tryd.ntmps66
        go_wp2
        go_ret
        exact ⟨rfl, Below.refl _ _⟩
def exKindB (t : Int) : Bool := decide (t = 0 ∨ t = 2 ∨ t = 3)
theorem exkind_any (t : Int) (w : World) : Calls Tryd.prog 67 #[.int .i64 t] w (BoolPost (exKindB t) w) := by
  by_cases c0 : t = 0
  · subst c0
    rw [show exKindB 0 = true from rfl]
    go_enter Tryd.func67, Tryd.ntmps67
    go_wp2
    go_ret
    exact ⟨rfl, Below.refl _ _⟩
  · skip
    by_cases c1 : t = 2
    · subst c1
      rw [show exKindB 2 = true from rfl]
      go_enter Tryd.func67, Tryd.ntmps67
      go_wp2
      go_ret
      exact ⟨rfl, Below.refl _ _⟩
    · skip
      by_cases c2 : t = 3
      · subst c2
        rw [show exKindB 3 = true from rfl]
        go_enter Tryd.func67, Tryd.ntmps67
        go_wp2
        go_ret
        exact ⟨rfl, Below.refl _ _⟩
      · skip
        rw [show exKindB t = false from decide_eq_false (by omega)]
        have d0 : (t == 0) = false := by simpa using c0
        have d1 : (t == 2) = false := by simpa using c1
        have d2 : (t == 3) = false := by simpa using c2
        clear c0 c1 c2
        go_enter Tryd.func67, Tryd.ntmps67
        go_wp2
        go_ret
        exact ⟨rfl, Below.refl _ _⟩
def PureB (b : Bool) (w : World) (e : Ending) (w' : World) : Prop := e = .returned (.bool b) ∧ w = w'
theorem inB_pure (n lo hi : Int) (w : World) : Calls Tryd.prog 68 #[.int .i64 n, .int .i64 lo, .int .i64 hi] w (PureB (inB n lo hi) w) := by
  by_cases c : lo ≤ n
  · have d : decide (lo ≤ n) = true := decide_eq_true c
    by_cases e : n ≤ hi
    · have d2 : decide (n ≤ hi) = true := decide_eq_true e
      rw [show inB n lo hi = true from decide_eq_true ⟨c, e⟩]
      clear c e
      go_enter Tryd.func68, Tryd.ntmps68
      go_wp2
      go_ret
      exact ⟨rfl, rfl⟩
    · have d2 : decide (n ≤ hi) = false := decide_eq_false e
      rw [show inB n lo hi = false from decide_eq_false (fun h => e h.2)]
      clear c e
      go_enter Tryd.func68, Tryd.ntmps68
      go_wp2
      go_ret
      exact ⟨rfl, rfl⟩
  · have d : decide (lo ≤ n) = false := decide_eq_false c
    rw [show inB n lo hi = false from decide_eq_false (fun h => c h.1)]
    clear c
    go_enter Tryd.func68, Tryd.ntmps68
    go_wp2
    go_ret
    exact ⟨rfl, rfl⟩
theorem inB_any (n lo hi : Int) (w : World) : Calls Tryd.prog 68 #[.int .i64 n, .int .i64 lo, .int .i64 hi] w (BoolPost (inB n lo hi) w) := (inB_pure n lo hi w).mono fun _ _ ⟨h, hw⟩ => ⟨h, hw ▸ Below.refl _ _⟩
theorem idx_any (n : Int) (w : World) : Calls Tryd.prog 64 #[.int .i64 n] w (BoolPost (idxB n) w) := by
  have H := Lib.hid (inB_any n 0 2147483647 w)
  unfold idxB
  generalize inB n 0 2147483647 = b at H ⊢
  go_enter Tryd.func64, Tryd.ntmps64
  go_wp2_with (go_at_call 68; refine H.out.mono ?_; rintro e w' ⟨rfl, hb⟩)
  go_ret
  exact ⟨rfl, hb⟩
theorem str_any (s : ByteArray) (w : World) (ht : Tab w) : Calls Tryd.prog 63 #[.string s] w (BoolPost (strB s) w) := by
  by_cases c : s.size ≤ 64
  · have d : decide ((s.size : Int) ≤ 64) = true := by simp; omega
    have hconv := conv_any w s
    have H := Lib.hid (right_any (some ⟨w.heap.size, 0, none⟩) s.size (grownCap w s.size 0 5) (nums s) (nums_length s) (grownCap_ge w s.size 0 5) (by omega) (Lib.bytesWorld w 5 s) (ht.below (below_bytes w _ s)) (bytes_conv w s))
    have HB := Lib.hid (below_bytes w 5 s)
    unfold strB
    rw [decide_eq_true c, Bool.true_and]
    generalize decide (0 ≤ cntI (nums s)) = b at H ⊢
    clear c ht
    go_enter Tryd.func63, Tryd.ntmps63
    go_wp2_with (go_at_call 79; refine H.out.mono ?_; rintro e w' ⟨rfl, hb⟩)
    go_ret
    exact ⟨rfl, below_then HB.out hb⟩
  · have d : decide ((s.size : Int) ≤ 64) = false := by simp; omega
    unfold strB
    rw [decide_eq_false c, Bool.false_and]
    clear c
    go_enter Tryd.func63, Tryd.ntmps63
    go_wp2
    go_ret
    exact ⟨rfl, Below.refl _ _⟩
theorem labB_any (n : Int) (w : World) : Calls Tryd.prog 68 #[.int .i64 n, .int .i64 0, .int .i64 64] w (BoolPost (labB n) w) := inB_any n 0 64 w
set_option maxRecDepth 10000 in
theorem labs_any (K : Nat → Prop) (w : World) (hK : ∀ k, K k → k < w.heap.size) (v : Value) (l : List Int) (h : IntsK K w v l) : Calls Tryd.prog 89 #[v] w (BoolPost (l.all labB) w) := by
  obtain ⟨A, c, hv, hm, _⟩ := h.form
  unfold maxLen at hm
  have H := Lib.hid (h.keep (K' := fun k => k < w.heap.size) (.refl _ _) hK)
  rw [hv] at H ⊢
  clear h hv
  obtain ⟨n, hn⟩ : ∃ n, l.length = n := ⟨_, rfl⟩
  have HN := Lib.hid hn
  rw [hn] at H hm ⊢
  clear hn
  go_enter Tryd.func89, Tryd.ntmps89
  go_wp2_with fail
  go_loopw [7] (fun i wr => ∃ k : Nat, k ≤ n ∧ i = .int .i64 (k : Int) ∧ Hid (Below w.heap.size w wr) ∧ Hid (AllTo labB l 0 k)) (fun i _ => n - (intOf i).toNat)
  case atStart => exact ⟨0, Nat.zero_le _, rfl, Lib.hid (Below.refl _ _), Lib.hid (AllTo.zero _ _ _)⟩
  case round =>
    obtain ⟨k, hk, rfl, HB, HA⟩ := hrel
    by_cases hlt : k < n
    · have hd : decide ((k : Int) < (n : Int)) = true := by simp; omega
      obtain ⟨g, o, c', he, _, _⟩ := H.out.some_ (by rw [HN.out]; omega)
      simp only [Value.slice.injEq] at he
      obtain ⟨rfl, -, rfl⟩ := he
      have hc0 := H.out.at_ k hlt
      have hcell := (HB.out.cell (p := ⟨g, o + k, none⟩) (World.block_lt_of_cell? _ _ hc0)).trans hc0
      have HNO := Lib.hid (fun (h : labB (l.getD k 0) = false) => all_no (by rw [HN.out]; exact hlt) h)
      have HYE := Lib.hid (fun (h : labB (l.getD k 0) = true) => HA.out.succ h)
      generalize l.getD k 0 = x at hcell HNO HYE
      have HX := Lib.hid (labB_any x wr)
      obtain ⟨b, hb⟩ : ∃ b, labB x = b := ⟨_, rfl⟩
      rw [hb] at HX
      rw [hb] at HNO HYE
      clear hb hc0
      cases b with
      | true =>
        have HY := Lib.hid (HYE.out rfl)
        clear HNO HYE
        go_wp2_with (go_at_call 68; refine HX.out.mono ?_; rintro e w' ⟨rfl, hb⟩)
        go_roundw
        case rel => exact ⟨k + 1, by omega, by go_num, Lib.hid (below_then HB.out hb), HY⟩
        case measure => simp [intOf]; omega
      | false =>
        have HF := Lib.hid (HNO.out rfl)
        clear HNO HYE
        go_wp2_with (go_at_call 68; refine HX.out.mono ?_; rintro e w' ⟨rfl, hb⟩)
        go_ret
        exact ⟨ret_bool (by rw [HF.out]), below_then HB.out hb⟩
    · have hd : decide ((k : Int) < (n : Int)) = false := by simp; omega
      obtain rfl : k = n := by omega
      have HF := Lib.hid (show l.all labB = true by have h := HA.out; rw [← HN.out] at h; exact h.done)
      go_wp2
      go_ret
      exact ⟨ret_bool (by rw [HF.out]), HB.out⟩
theorem kinds_many (l : List Int) (most : Int) (h : most < (l.length : Int)) : kindsB l most = false := by unfold kindsB; rw [decide_eq_false (by omega), Bool.false_and]
theorem kinds_few (l : List Int) (most : Int) (h : (l.length : Int) ≤ most) : kindsB l most = l.all kindB := by unfold kindsB; rw [decide_eq_true h, Bool.true_and]
set_option maxRecDepth 10000 in
theorem kindsAll_any (K : Nat → Prop) (w : World) (hK : ∀ k, K k → k < w.heap.size) (v : Value) (l : List Int) (h : IntsK K w v l) (most : Int) (hmost : (l.length : Int) ≤ most) : Calls Tryd.prog 62 #[v, .int .i64 most] w (BoolPost (l.all kindB) w) := by
  obtain ⟨A, c, hv, hm, _⟩ := h.form
  unfold maxLen at hm
  have H := Lib.hid (h.keep (K' := fun k => k < w.heap.size) (.refl _ _) hK)
  rw [hv] at H ⊢
  clear h hv
  obtain ⟨n, hn⟩ : ∃ n, l.length = n := ⟨_, rfl⟩
  have HN := Lib.hid hn
  rw [hn] at H hm hmost ⊢
  have hgt : decide (most < (n : Int)) = false := by simp; omega
  clear hn hmost
  go_enter Tryd.func62, Tryd.ntmps62
  go_wp2_with fail
  go_loopw [13] (fun i wr => ∃ k : Nat, k ≤ n ∧ i = .int .i64 (k : Int) ∧ Hid (Below w.heap.size w wr) ∧ Hid (AllTo kindB l 0 k)) (fun i _ => n - (intOf i).toNat)
  case atStart => exact ⟨0, Nat.zero_le _, rfl, Lib.hid (Below.refl _ _), Lib.hid (AllTo.zero _ _ _)⟩
  case round =>
    obtain ⟨k, hk, rfl, HB, HA⟩ := hrel
    by_cases hlt : k < n
    · have hd : decide ((k : Int) < (n : Int)) = true := by simp; omega
      obtain ⟨g, o, c', he, _, _⟩ := H.out.some_ (by rw [HN.out]; omega)
      simp only [Value.slice.injEq] at he
      obtain ⟨rfl, -, rfl⟩ := he
      have hc0 := H.out.at_ k hlt
      have hcell := (HB.out.cell (p := ⟨g, o + k, none⟩) (World.block_lt_of_cell? _ _ hc0)).trans hc0
      have HNO := Lib.hid (fun (h : kindB (l.getD k 0) = false) => all_no (by rw [HN.out]; exact hlt) h)
      have HYE := Lib.hid (fun (h : kindB (l.getD k 0) = true) => HA.out.succ h)
      generalize l.getD k 0 = x at hcell HNO HYE
      have HX := Lib.hid (kind_any x wr)
      obtain ⟨b, hb⟩ : ∃ b, kindB x = b := ⟨_, rfl⟩
      rw [hb] at HX
      rw [hb] at HNO HYE
      clear hb hc0
      cases b with
      | true =>
        have HY := Lib.hid (HYE.out rfl)
        clear HNO HYE
        go_wp2_with (go_at_call 66; refine HX.out.mono ?_; rintro e w' ⟨rfl, hb⟩)
        go_roundw
        case rel => exact ⟨k + 1, by omega, by go_num, Lib.hid (below_then HB.out hb), HY⟩
        case measure => simp [intOf]; omega
      | false =>
        have HF := Lib.hid (HNO.out rfl)
        clear HNO HYE
        go_wp2_with (go_at_call 66; refine HX.out.mono ?_; rintro e w' ⟨rfl, hb⟩)
        go_ret
        exact ⟨ret_bool (by rw [HF.out]), below_then HB.out hb⟩
    · have hd : decide ((k : Int) < (n : Int)) = false := by simp; omega
      obtain rfl : k = n := by omega
      have HF := Lib.hid (show l.all kindB = true by have h := HA.out; rw [← HN.out] at h; exact h.done)
      go_wp2
      go_ret
      exact ⟨ret_bool (by rw [HF.out]), HB.out⟩
theorem kinds_any (K : Nat → Prop) (w : World) (hK : ∀ k, K k → k < w.heap.size) (v : Value) (l : List Int) (h : IntsK K w v l) (most : Int) : Calls Tryd.prog 62 #[v, .int .i64 most] w (BoolPost (kindsB l most) w) := by
  by_cases hc : (l.length : Int) ≤ most
  · rw [kinds_few l most hc]
    exact kindsAll_any K w hK v l h most hc
  · rw [kinds_many l most (by omega)]
    obtain ⟨A, c, hv, hm, _⟩ := h.form
    rw [hv]
    generalize l.length = n at *
    have hgt : decide (most < (n : Int)) = true := by simp; omega
    clear hc h hv
    go_enter Tryd.func62, Tryd.ntmps62
    go_wp2
    go_ret
    exact ⟨rfl, Below.refl _ _⟩
end Go.Proofs.YteohmkceapblkaaDoor
