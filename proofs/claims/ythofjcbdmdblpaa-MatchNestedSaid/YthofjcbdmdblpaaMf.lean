/-
  Contracts of Find, the code's and the document's.
-/
import Derived.Test.YthofjcbdmdblpaaMof
namespace Go.Proofs.Ythofjcbdmdblpaa
open Go.RowKit

def findP : List Sp → Int → Sp × Bool
  | [], _ => ((0, 0, 0), false)
  | s :: l, at_ => if s.1 = at_ then (s, true) else findP l at_
theorem findP_none (l : List Sp) (a : Int) : (∀ j, j < l.length → (spAt l j).1 ≠ a) → findP l a = ((0, 0, 0), false) := by
  induction l with
  | nil => intro _; rfl
  | cons s l ih =>
    intro h
    unfold findP
    rw [if_neg (show ¬ s.1 = a from h 0 (by simp))]
    exact ih fun j hj => h (j + 1) (by simpa using hj)
theorem findP_at (l : List Sp) (a : Int) : ∀ k, k < l.length → (∀ j, j < k → (spAt l j).1 ≠ a) → (spAt l k).1 = a → findP l a = (spAt l k, true) := by
  induction l with
  | nil => intro k h; simp at h
  | cons s l ih =>
    intro k hk h h0
    unfold findP
    cases k with
    | zero => rw [if_pos (show s.1 = a from h0)]; rfl
    | succ k =>
      rw [if_neg (show ¬ s.1 = a from h 0 (by omega))]
      exact ih k (by simpa using hk) (fun j hj => h (j + 1) (by omega)) h0
def FindPost (l : List Sp) (a : Int) (w : World) (e : Ending) (w' : World) : Prop :=
  e = .returned (.tuple #[.agg #[.int .i64 (findP l a).1.1, .int .i64 (findP l a).1.2.1, .int .i64 (findP l a).1.2.2], .bool (findP l a).2]) ∧ Below w.heap.size w w'

theorem zeroed {w : World} {B : Nat} {T : TypeId} (h : w.heap[B]? = some (.cells #[.int .i64 0, .int .i64 0, .int .i64 0] T (0, 0))) :
    w.frozen? ⟨B, 0, none⟩ = false ∧ w.frozen? ⟨B, 1, none⟩ = false ∧ w.frozen? ⟨B, 2, none⟩ = false ∧ w.cell? ⟨B, 0, none⟩ = some (.int .i64 0) ∧ w.cell? ⟨B, 1, none⟩ = some (.int .i64 0) ∧ w.cell? ⟨B, 2, none⟩ = some (.int .i64 0) := by
  simp [World.frozen?, World.cell?, h]
theorem filled {w : World} {B : Nat} {T : TypeId} (h : w.heap[B]? = some (.cells #[.int .i64 0, .int .i64 0, .int .i64 0] T (0, 0))) (a b c : Value) :
    (((w.setCell ⟨B, 0, none⟩ a).setCell ⟨B, 1, none⟩ b).setCell ⟨B, 2, none⟩ c).cell? ⟨B, 0, none⟩ = some a ∧ (((w.setCell ⟨B, 0, none⟩ a).setCell ⟨B, 1, none⟩ b).setCell ⟨B, 2, none⟩ c).cell? ⟨B, 1, none⟩ = some b ∧ (((w.setCell ⟨B, 0, none⟩ a).setCell ⟨B, 1, none⟩ b).setCell ⟨B, 2, none⟩ c).cell? ⟨B, 2, none⟩ = some c := by
  simp [World.cell?, World.setCell, Array.getElem?_modify, h]
theorem below_three {w0 w : World} {B : Nat} (h : Below w0.heap.size w0 w) (hB : w0.heap.size ≤ B) (a b c : Value) : Below w0.heap.size w0 (((w.setCell ⟨B, 0, none⟩ a).setCell ⟨B, 1, none⟩ b).setCell ⟨B, 2, none⟩ c) :=
  ((h.setCell (by exact hB) a).setCell (by exact hB) b).setCell (by exact hB) c
theorem find_post {l : List Sp} {a : Int} {w w' : World} {s : Sp} {b : Bool} (h : findP l a = (s, b)) (hb : Below w.heap.size w w') : FindPost l a w (.returned (.tuple #[.agg #[.int .i64 s.1, .int .i64 s.2.1, .int .i64 s.2.2], .bool b])) w' := by
  unfold FindPost; rw [h]; exact ⟨rfl, hb⟩
set_option maxRecDepth 100000 in
set_option maxHeartbeats 1000000 in
theorem find_any (w : World) (v : Value) (l : List Sp) (a : Int) (hv : SpIn w v l) : Calls Try.prog 14 #[v, .int .i64 a] w (FindPost l a w) := by
  obtain ⟨A, c, rfl, hl, hcell⟩ := hv
  have HC := Lib.hid hcell
  obtain ⟨n, hn⟩ : ∃ n, l.length = n := ⟨_, rfl⟩
  rw [hn] at hl ⊢
  have HN := Lib.hid hn
  clear hcell hn
  go_enter Try.func14, Try.ntmps14
  go_wp2_with fail
  go_loopw [10] (fun i wr => ∃ k : Nat, k ≤ n ∧ i = .int .i64 (k : Int) ∧ Hid (∀ j, j < k → (spAt l j).1 ≠ a) ∧ Hid (Below w.heap.size w wr) ∧ Hid (wr.heap[w.heap.size]? = some (.cells #[.int .i64 0, .int .i64 0, .int .i64 0] 51 (0, 0)))) (fun i _ => n - (intOf i).toNat)
  case atStart => exact ⟨0, Nat.zero_le _, rfl, Lib.hid (fun j hj => by omega), Lib.hid ((Below.refl _ _).alloc (Nat.le_refl _) _), Lib.hid (heap_alloc_new w _)⟩
  case round =>
    obtain ⟨k, hk, rfl, HJ, HB, HZ⟩ := hrel
    by_cases hlt : k < n
    rotate_left
    · obtain rfl : k = n := by omega
      have hd0 : decide ((k : Int) < (k : Int)) = false := by simp
      have HF := Lib.hid (findP_none l a fun j hj => HJ.out j (by rw [← HN.out]; exact hj))
      obtain ⟨z1, z2, z3, z4, z5, z6⟩ := zeroed HZ.out
      have hfl := filled HZ.out (.int .i64 0) (.int .i64 0) (.int .i64 0)
      have HBW := Lib.hid (below_three HB.out (Nat.le_refl _) (.int .i64 0) (.int .i64 0) (.int .i64 0))
      have HFL := Lib.hid hfl
      clear hfl
      go_wp2
      obtain ⟨f0, f1, f2⟩ := HFL.out
      exact bodyPost_ret (v := .tuple #[.agg #[.int .i64 0, .int .i64 0, .int .i64 0], .bool false]) (by simp [results, Try.results14, go_sem, f0, f1, f2]) rfl (find_post HF.out HBW.out)
    have hd0 : decide ((k : Int) < (n : Int)) = true := by simp; omega
    obtain ⟨g, rfl, hg, hcc⟩ := HC.out (by rw [HN.out]; omega)
    obtain ⟨k0, k1, k2⟩ := hcc k (by rw [HN.out]; exact hlt)
    have e0 := (HB.out.cell (p := ⟨g, k * 3, none⟩) hg).trans k0
    have e1 := (HB.out.cell (p := ⟨g, k * 3 + 1, none⟩) hg).trans k1
    have e2 := (HB.out.cell (p := ⟨g, k * 3 + 2, none⟩) hg).trans k2
    obtain ⟨s, hs⟩ : ∃ s, spAt l k = s := ⟨_, rfl⟩
    rw [hs] at e0 e1 e2
    have HS := Lib.hid hs
    clear hcc k0 k1 k2 hs
    obtain ⟨sa, se, sz⟩ := s
    by_cases hsa : sa = a
    · have hd : (sa == a) = true := by simpa using hsa
      have HF := Lib.hid (findP_at l a k (by rw [HN.out]; exact hlt) HJ.out (by rw [HS.out]; exact hsa))
      clear hsa
      have HZ2 := Lib.hid ((Below.heap_alloc wr (.cells #[.int .i64 sa, .int .i64 se, .int .i64 sz] 51) _ (Array.getElem?_eq_some_iff.1 HZ.out).1).trans HZ.out)
      obtain ⟨z1, z2, z3, z4, z5, z6⟩ := zeroed HZ2.out
      have HFL := Lib.hid (filled HZ2.out (.int .i64 sa) (.int .i64 se) (.int .i64 sz))
      have HBW := Lib.hid (below_three (HB.out.alloc HB.out.size (.cells #[.int .i64 sa, .int .i64 se, .int .i64 sz] 51)) (Nat.le_refl _) (.int .i64 sa) (.int .i64 se) (.int .i64 sz))
      have HF2 : Hid (findP l a = ((sa, se, sz), true)) := by rw [Hid, HF.out, HS.out]
      clear HF
      go_wp2
      obtain ⟨f0, f1, f2⟩ := HFL.out
      exact bodyPost_ret (v := .tuple #[.agg #[.int .i64 sa, .int .i64 se, .int .i64 sz], .bool true]) (by simp [results, Try.results14, go_sem, f0, f1, f2]) rfl (find_post HF2.out HBW.out)
    · have hd : (sa == a) = false := by simpa using hsa
      have HJ2 : Hid (∀ j, j < k + 1 → (spAt l j).1 ≠ a) := fun j hj => by
        rcases Nat.lt_or_ge j k with h | h
        · exact HJ.out j h
        · obtain rfl : j = k := by omega
          rw [HS.out]; exact hsa
      clear hsa
      go_wp2
      go_roundw
      case rel => exact ⟨k + 1, by omega, by go_num, HJ2, Lib.hid (HB.out.alloc HB.out.size _), Lib.hid ((Below.heap_alloc wr _ _ (Array.getElem?_eq_some_iff.1 HZ.out).1).trans HZ.out)⟩
      case measure => simp [intOf]; omega
set_option maxRecDepth 100000 in
set_option maxHeartbeats 1000000 in
theorem rfind_any (w : World) (v : Value) (l : List Sp) (a : Int) (hv : SpIn w v l) : Calls Try.prog 15 #[v, .int .i64 a] w (FindPost l a w) := by
  obtain ⟨A, c, rfl, hl, hcell⟩ := hv
  have HC := Lib.hid hcell
  obtain ⟨n, hn⟩ : ∃ n, l.length = n := ⟨_, rfl⟩
  rw [hn] at hl ⊢
  have HN := Lib.hid hn
  clear hcell hn
  go_enter Try.func15, Try.ntmps15
  go_wp2_with fail
  go_loopw [6] (fun i wr => ∃ k : Nat, k ≤ n ∧ i = .int .i64 (k : Int) ∧ Hid (∀ j, j < k → (spAt l j).1 ≠ a) ∧ Hid (Below w.heap.size w wr) ∧ Hid (wr.heap[w.heap.size]? = some (.cells #[.int .i64 0, .int .i64 0, .int .i64 0] 57 (0, 0)))) (fun i _ => n - (intOf i).toNat)
  case atStart => exact ⟨0, Nat.zero_le _, rfl, Lib.hid (fun j hj => by omega), Lib.hid ((Below.refl _ _).alloc (Nat.le_refl _) _), Lib.hid (heap_alloc_new w _)⟩
  case round =>
    obtain ⟨k, hk, rfl, HJ, HB, HZ⟩ := hrel
    by_cases hlt : k < n
    rotate_left
    · obtain rfl : k = n := by omega
      have hd0 : decide ((k : Int) < (k : Int)) = false := by simp
      have HF := Lib.hid (findP_none l a fun j hj => HJ.out j (by rw [← HN.out]; exact hj))
      obtain ⟨z1, z2, z3, z4, z5, z6⟩ := zeroed HZ.out
      have hfl := filled HZ.out (.int .i64 0) (.int .i64 0) (.int .i64 0)
      have HBW := Lib.hid (below_three HB.out (Nat.le_refl _) (.int .i64 0) (.int .i64 0) (.int .i64 0))
      have HFL := Lib.hid hfl
      clear hfl
      go_wp2
      obtain ⟨f0, f1, f2⟩ := HFL.out
      exact bodyPost_ret (v := .tuple #[.agg #[.int .i64 0, .int .i64 0, .int .i64 0], .bool false]) (by simp [results, Try.results15, go_sem, f0, f1, f2]) rfl (find_post HF.out HBW.out)
    have hd0 : decide ((k : Int) < (n : Int)) = true := by simp; omega
    obtain ⟨g, rfl, hg, hcc⟩ := HC.out (by rw [HN.out]; omega)
    obtain ⟨k0, k1, k2⟩ := hcc k (by rw [HN.out]; exact hlt)
    have e0 := (HB.out.cell (p := ⟨g, k * 3, none⟩) hg).trans k0
    have e1 := (HB.out.cell (p := ⟨g, k * 3 + 1, none⟩) hg).trans k1
    have e2 := (HB.out.cell (p := ⟨g, k * 3 + 2, none⟩) hg).trans k2
    obtain ⟨s, hs⟩ : ∃ s, spAt l k = s := ⟨_, rfl⟩
    rw [hs] at e0 e1 e2
    have HS := Lib.hid hs
    clear hcc k0 k1 k2 hs
    obtain ⟨sa, se, sz⟩ := s
    by_cases hsa : sa = a
    · have hd : (sa == a) = true := by simpa using hsa
      have HF := Lib.hid (findP_at l a k (by rw [HN.out]; exact hlt) HJ.out (by rw [HS.out]; exact hsa))
      clear hsa
      have HZ2 := HZ
      obtain ⟨z1, z2, z3, z4, z5, z6⟩ := zeroed HZ2.out
      have HFL := Lib.hid (filled HZ2.out (.int .i64 sa) (.int .i64 se) (.int .i64 sz))
      have HBW := Lib.hid (below_three HB.out (Nat.le_refl _) (.int .i64 sa) (.int .i64 se) (.int .i64 sz))
      have HF2 : Hid (findP l a = ((sa, se, sz), true)) := by rw [Hid, HF.out, HS.out]
      clear HF
      go_wp2
      obtain ⟨f0, f1, f2⟩ := HFL.out
      exact bodyPost_ret (v := .tuple #[.agg #[.int .i64 sa, .int .i64 se, .int .i64 sz], .bool true]) (by simp [results, Try.results15, go_sem, f0, f1, f2]) rfl (find_post HF2.out HBW.out)
    · have hd : (sa == a) = false := by simpa using hsa
      have HJ2 : Hid (∀ j, j < k + 1 → (spAt l j).1 ≠ a) := fun j hj => by
        rcases Nat.lt_or_ge j k with h | h
        · exact HJ.out j h
        · obtain rfl : j = k := by omega
          rw [HS.out]; exact hsa
      clear hsa
      go_wp2
      go_roundw
      case rel => exact ⟨k + 1, by omega, by go_num, HJ2, HB, HZ⟩
      case measure => simp [intOf]; omega
end Go.Proofs.Ythofjcbdmdblpaa
