/-
  Contracts of text.Count, text.Right.
-/
import Derived.Test.YtinljaobdnkifaaDoorTsz
namespace Go.Proofs.YtinljaobdnkifaaDoor
open Go.RowKit

/-- An int comes back; the world has at most new blocks. -/
abbrev CntPost (l : List Nat) (w : World) (e : Ending) (w' : World) : Prop := ValPost (.int .i64 (cntI l)) w e w'
theorem bytes_drop {w : World} {g o : Nat} {l : List Nat} (h : Bytes w (some ⟨g, o, none⟩) l) (c : Nat) (hc : c ≤ l.length) : Bytes w (some ⟨g, o + c, none⟩) (l.drop c) := by
  have h2 := h.part c (l.length - c) (by omega) (some ⟨g, o + c, none⟩) (fun g' o' _ he => by simp only [Option.some.injEq, Addr.mk.injEq] at he; obtain ⟨rfl, rfl, _⟩ := he; rfl)
  rwa [List.take_of_length_le (by rw [List.length_drop]; exact Nat.le_refl _)] at h2

set_option maxRecDepth 10000 in
set_option maxHeartbeats 1000000 in
theorem count_any (A : Option Addr) (n cap : Nat) (l : List Nat) (hl : l.length = n) (hcap : n ≤ cap) (hn : n ≤ 1000000) (w : World) (htab : Tab w) (hb : Bytes w A l) :
    Calls Tryd.prog 89 #[.slice A n cap] w (CntPost l w) := by
  have HL := Lib.hid hl
  have HB := Lib.hid hb
  have HTAB := Lib.hid htab
  clear hl hb htab
  go_enter Tryd.func89, Tryd.ntmps89
  go_wp2
  go_loopw [0, 3] (fun s v wr => ∃ (A' : Option Addr) (r : List Nat) (p cp m : Nat), s = .slice A' p cp ∧ v = .int .i64 (m : Int) ∧ Hid (r.length = p) ∧ p ≤ cp ∧ m + p ≤ n ∧ Hid (Bytes wr A' r) ∧ Below w.heap.size w wr ∧ Hid (joinI m (charsB r) = cntI l)) (fun s _ _ => match s with | .slice _ p _ => p | _ => 0)
  case atStart => exact ⟨A, l, n, cap, 0, rfl, rfl, HL, hcap, by omega, HB, Below.refl _ _, Lib.hid rfl⟩
  case round =>
    obtain ⟨wo, rfl⟩ : ∃ wo : World, wo = wr := ⟨_, rfl⟩
    obtain ⟨A', r, p, cp, m, rfl, rfl, hr, hcp, hmp, hby, hnx, hj⟩ := hrel
    by_cases hp : 0 < p
    · have hsz := size_any A' p cp r hr.out hp hcp wo (HTAB.out.below hnx) hby.out
      obtain ⟨g, o, rfl, _, _⟩ := hby.out.2 (by rw [hr.out]; exact hp)
      have hle := (charB_le r).1
      rw [hr.out] at hle
      have hbad := joinI_bad (l := r) (by rw [hr.out]; exact hp)
      have hstep := joinI_step (l := r) (by rw [hr.out]; exact hp)
      have hdr := bytes_drop hby.out (charB r) (by rw [hr.out]; exact hle)
      have hdl : (r.drop (charB r)).length = p - charB r := by rw [List.length_drop, hr.out]
      generalize charB r = c at hsz hle hbad hstep hdr hdl
      have HSZ := Lib.hid hsz
      have HDR := Lib.hid hdr
      have HDL := Lib.hid hdl
      clear hsz hdr hdl
      by_cases hc : c = 0
      · have HE := Lib.hid (hbad hc m)
        clear hbad hstep
        subst hc
        go_wp2_with (go_at_call 90; refine HSZ.out.mono ?_; rintro e w' ⟨rfl, hb⟩; replace hnx := below_then hnx hb; clear hb)
        go_ret
        exact ⟨ret_int (by rw [← hj.out, HE.out]), hnx⟩
      · have HE := Lib.hid (hstep hc m)
        clear hbad hstep
        have hc0 : ((c : Int) == 0) = false := by simp; omega
        by_cases hcc : cp = c
        · have hpc : p = c := by omega
          have hnil : r.drop c = [] := List.eq_nil_of_length_eq_zero (by rw [HDL.out]; omega)
          have HNIL := Lib.hid hnil
          clear hnil
          subst hcc hpc
          go_wp2_with (go_at_call 90; refine HSZ.out.mono ?_; rintro e w' ⟨rfl, hb⟩; replace hnx := below_then hnx hb; have HB2 := Lib.hid (HDR.out.below hb); clear hb)
          go_roundw
          case rel => exact ⟨some ⟨g, o, none⟩, [], 0, 0, m + 1, by simp, by go_num, Lib.hid rfl, by omega, by omega, Lib.hid (Bytes.nil _ _), hnx, Lib.hid (by rw [← hj.out, HE.out, HNIL.out])⟩
          case measure => simp; omega
        · have hcc2 : (cp : Int) ≠ c := by omega
          go_wp2_with (go_at_call 90; refine HSZ.out.mono ?_; rintro e w' ⟨rfl, hb⟩; replace hnx := below_then hnx hb; have HB2 := Lib.hid (HDR.out.below hb); clear hb)
          go_roundw
          case rel => exact ⟨some ⟨g, o + c, none⟩, r.drop c, p - c, cp - c, m + 1, by simp, by go_num, HDL, by omega, by omega, HB2, hnx, Lib.hid (by rw [← hj.out, HE.out])⟩
          case measure => simp; omega
    · obtain rfl : p = 0 := by omega
      obtain rfl : r = [] := List.eq_nil_of_length_eq_zero hr.out
      have HE := Lib.hid (joinI_end m)
      go_wp2
      go_ret
      exact ⟨ret_int (by rw [← hj.out, HE.out]), hnx⟩

theorem right_any (A : Option Addr) (n cap : Nat) (l : List Nat) (hl : l.length = n) (hcap : n ≤ cap) (hn : n ≤ 1000000) (w : World) (htab : Tab w) (hb : Bytes w A l) :
    Calls Tryd.prog 85 #[.slice A n cap] w (BoolPost (decide (0 ≤ cntI l)) w) := by
  have h := count_any A n cap l hl hcap hn w htab hb
  unfold CntPost at h
  generalize cntI l = z at h ⊢
  have H := Lib.hid h
  clear h
  go_enter Tryd.func85, Tryd.ntmps85
  go_wp2_with (go_at_call 89; refine H.out.mono ?_; rintro e w' ⟨rfl, hb⟩)
  go_ret
  exact ⟨rfl, hb⟩
end Go.Proofs.YtinljaobdnkifaaDoor
