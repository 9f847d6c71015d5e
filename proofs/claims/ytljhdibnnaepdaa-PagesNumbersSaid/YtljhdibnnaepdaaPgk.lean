/-
  What the statements about memories share: 'known' is always true.
-/
import Derived.Test.YtljhdibnnaepdaaPgz
namespace Go.Proofs.Ytljhdibnnaepdaa
open Go.RowKit
variable {p B : Nat} {l : List Nat} {mx : Nat} {w w' : World}

def knL : List Nat := List.replicate 1024 0 ++ List.replicate 1024 0
theorem knL_load : valN (((splice knL 2000 (leN 4 67305985)).drop 2001).take 2) = 770 := by decide +kernel
theorem knL_len0 : knL.length = 2048 := by unfold knL; rw [List.length_append, List.length_replicate]
theorem knL_len : (splice knL 2000 (leN 4 67305985)).length = 2048 := by
  rw [length_splice]
  · exact knL_len0
  · rw [knL_len0, leN_len]; decide
theorem kn_new (w : World) : Calls Try.prog 10 #[.int .i64 1, .int .i64 2] w (NewYes 52 1 2 w) := new_yes 1 2 (by decide) (by decide) w
theorem kn_none (w : World) : Calls Try.prog 10 #[.int .i64 2, .int .i64 1] w (NewNo w) := new_no 2 1 (.inr (.inl (by decide))) w
theorem kn_grow5 (hg : Pg 52 p B (List.replicate (1024 * 1) 0) 2 w) : Calls Try.prog 14 #[.pointer (some ⟨p, 0, none⟩), .int .i64 5] w (Wrote 52 p B (.int .i64 (-1)) (List.replicate (1024 * 1) 0) 2 w) := grow_no hg 1 5 (by rw [List.length_replicate]) (.inr (by decide))
theorem kn_grow1 (hg : Pg 52 p B (List.replicate (1024 * 1) 0) 2 w) : Calls Try.prog 14 #[.pointer (some ⟨p, 0, none⟩), .int .i64 1] w (GrewYes 52 p B 1 1 (List.replicate (1024 * 1) 0) 2 w) := grow_yes hg 1 1 (by rw [List.length_replicate]) (by decide)
theorem kn_store (hg : Pg 52 p B knL 2 w) : Calls Try.prog 20 #[.pointer (some ⟨p, 0, none⟩), .int .u64 2000, .int .i64 4, .int .u64 67305985] w (Wrote 52 p B (.bool true) (splice knL 2000 (leN 4 67305985)) 2 w) := store_yes hg 2000 67305985 4 (by decide) (by rw [knL_len0]; decide)
theorem kn_load (hg : Pg 52 p B (splice knL 2000 (leN 4 67305985)) 2 w) : Calls Try.prog 21 #[.pointer (some ⟨p, 0, none⟩), .int .u64 2001, .int .i64 2] w (LoadPost 770 true w) := by
  have h := load_yes hg 2001 2 (by decide) (by rw [knL_len]; decide)
  rw [knL_load] at h
  exact h
theorem kn_load2 (hg : Pg 52 p B l 2 w) (hl : l.length = 2048) : Calls Try.prog 21 #[.pointer (some ⟨p, 0, none⟩), .int .u64 2047, .int .i64 2] w (LoadPost 0 false w) := load_no hg 2047 2 (by rw [hl]; decide)
theorem kn_pages (hg : Pg 52 p B l 2 w) (hl : l.length = 2048) : Calls Try.prog 15 #[.pointer (some ⟨p, 0, none⟩)] w fun e w' => e = .returned (.int .i64 2) ∧ w = w' := pages_any hg 2 hl
theorem kn_max (hg : Pg 52 p B l 2 w) : Calls Try.prog 16 #[.pointer (some ⟨p, 0, none⟩)] w fun e w' => e = .returned (.int .i64 2) ∧ w = w' := max_any hg
theorem kn_fill (hg : Pg 52 p B l 2 w) (hl : l.length = 2048) : Calls Try.prog 22 #[.pointer (some ⟨p, 0, none⟩), .int .u64 2048, .int .u8 1, .int .u64 0] w (Wrote 52 p B (.bool true) l 2 w) := by
  have h := fill_yes hg 2048 1 0 (by decide) (by rw [hl]; decide)
  rw [List.replicate_zero, splice_nil] at h
  exact h
theorem kn_fill2 (hg : Pg 52 p B l 2 w) (hl : l.length = 2048) : Calls Try.prog 22 #[.pointer (some ⟨p, 0, none⟩), .int .u64 2049, .int .u8 1, .int .u64 0] w (Wrote 52 p B (.bool false) l 2 w) := fill_no hg 2049 1 0 (by rw [hl]; decide)

/-- A loose limb: what happens to a memory of the call's own leaves all that was there. -/
theorem own_step {a w w' : World} {X : List Nat} (h : Below a.heap.size a w) (hb : But X w w') (hX : ∀ k ∈ X, a.heap.size ≤ k) : Below a.heap.size a w' := h.trans (hb.below hX h.size)

set_option maxHeartbeats 1000000 in
set_option maxRecDepth 10000 in
theorem pknown_any (w : World) : Calls Try.prog 8 #[] w (BoolPost true w) := by
  go_enter Try.func8, Try.ntmps8
  go_wp2_with fail
  go_at_call 10
  refine (kn_new w).mono ?_
  rintro e w1 ⟨p, B, rfl, hp, hB, hg, hb⟩
  have HP := Lib.hid hp
  have HB := Lib.hid hB
  have G := Lib.hid hg
  have HW := Lib.hid hb
  clear hp hB hg hb
  go_wp2_with fail
  go_at_call 10
  refine (kn_none w1).mono ?_
  rintro e w2 ⟨rfl, rfl⟩
  go_wp2_with fail
  go_at_call 14
  refine (kn_grow5 G.out).mono ?_
  rintro e w2 ⟨rfl, hb, hg⟩
  replace HW := Lib.hid (own_step HW.out hb (by intro k hk; simp at hk; subst hk; exact HB.out))
  have G2 := Lib.hid hg
  clear hb hg G
  go_wp2_with fail
  go_at_call 14
  refine (kn_grow1 G2.out).mono ?_
  rintro e w3 ⟨B2, rfl, hb, hB2, hg⟩
  have HB2 := Lib.hid (show w.heap.size ≤ B2 from hB2.elim (fun h => h ▸ HB.out) (fun h => Nat.le_trans HW.out.size h))
  replace HW := Lib.hid (own_step HW.out hb (by intro k hk; simp at hk; exact hk.elim (fun h => h ▸ HP.out) (fun h => h ▸ HB.out)))
  have G3 := Lib.hid (show Pg 52 p B2 knL 2 w3 from hg)
  clear hb hg G2 hB2
  go_wp2_with fail
  go_at_call 20
  refine (kn_store G3.out).mono ?_
  rintro e w4 ⟨rfl, hb, hg⟩
  replace HW := Lib.hid (own_step HW.out hb (by intro k hk; simp at hk; subst hk; exact HB2.out))
  have G4 := Lib.hid hg
  clear hb hg G3
  go_wp2_with fail
  go_at_call 21
  refine (kn_load G4.out).mono ?_
  rintro e w5 ⟨rfl, rfl⟩
  go_wp2_with fail
  go_at_call 21
  refine (kn_load2 G4.out knL_len).mono ?_
  rintro e w5 ⟨rfl, rfl⟩
  go_wp2_with fail
  go_at_call 15
  refine (kn_pages G4.out knL_len).mono ?_
  rintro e w5 ⟨rfl, rfl⟩
  go_wp2_with fail
  go_at_call 16
  refine (kn_max G4.out).mono ?_
  rintro e w5 ⟨rfl, rfl⟩
  go_wp2_with fail
  go_at_call 22
  refine (kn_fill G4.out knL_len).mono ?_
  rintro e w5 ⟨rfl, hb, hg⟩
  replace HW := Lib.hid (own_step HW.out hb (by intro k hk; simp at hk; subst hk; exact HB2.out))
  have G5 := Lib.hid hg
  clear hb hg G4
  go_wp2_with fail
  go_at_call 22
  refine (kn_fill2 G5.out knL_len).mono ?_
  rintro e w6 ⟨rfl, hb, hg⟩
  replace HW := Lib.hid (own_step HW.out hb (by intro k hk; simp at hk; subst hk; exact HB2.out))
  clear hb hg G5
  go_wp2_with fail
  go_at_call 13
  refine (copy_nil 0 0 0 w6).mono ?_
  rintro e w7 ⟨rfl, rfl⟩
  go_wp2
  go_ret
  exact ⟨rfl, HW.out⟩
end Go.Proofs.Ytljhdibnnaepdaa
