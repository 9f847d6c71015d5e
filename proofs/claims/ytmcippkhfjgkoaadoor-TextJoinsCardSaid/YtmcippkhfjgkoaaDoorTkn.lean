/-
  Contract of what the statements about text share: 'known' is always true.
-/
import Derived.Test.YtmcippkhfjgkoaaDoorTcnt
import Derived.Test.YtmcippkhfjgkoaaDoorTfresh
namespace Go.Proofs.YtmcippkhfjgkoaaDoor
open Go.RowKit

theorem cnt_step {l r : List Nat} {c m : Nat} (h0 : 0 < l.length) (h : charB l = c + 1) (hr : l.drop (c + 1) = r) : joinI m (charsB l) = joinI (m + 1) (charsB r) := by
  rw [joinI_step h0 (by rw [h]; omega) m, h, hr]
theorem cnt_bad : cntI [192, 128] = -1 := joinI_bad (by decide) (by decide) 0
theorem cnt_empty : cntI [] = 0 := joinI_end 0
theorem cnt_two : cntI [97, 195, 164] = 2 := by
  unfold cntI
  rw [cnt_step (c := 0) (r := [195, 164]) (by decide) (by decide) rfl, cnt_step (c := 1) (r := []) (by decide) (by decide) rfl, joinI_end]; rfl
theorem cnt_four : cntI [97, 195, 164, 226, 130, 172, 240, 159, 152, 128] = 4 := by
  unfold cntI
  rw [cnt_step (c := 0) (r := [195, 164, 226, 130, 172, 240, 159, 152, 128]) (by decide) (by decide) rfl, cnt_step (c := 1) (r := [226, 130, 172, 240, 159, 152, 128]) (by decide) (by decide) rfl,
    cnt_step (c := 2) (r := [240, 159, 152, 128]) (by decide) (by decide) rfl, cnt_step (c := 3) (r := []) (by decide) (by decide) rfl, joinI_end]; rfl

theorem bytes_new (w : World) (l : List Nat) (hl : ∀ x ∈ l, x < 256) : Bytes (w.alloc (.cells (l.map byt).toArray 5)) (some ⟨w.heap.size, 0, none⟩) l :=
  ⟨hl, fun _ => ⟨w.heap.size, 0, rfl, by simp, fun j hj => by rw [Nat.zero_add, World.cell?_alloc_new]; simp [hj, byt]⟩⟩
theorem below_alloc (w : World) (o : Obj) : Below w.heap.size w (w.alloc o) := (Below.refl _ _).alloc (Nat.le_refl _) o
/-- The world in which a literal's bytes have been handed on as a []byte of their own. -/
def marked (w : World) (l : List Nat) : World := (w.alloc (.cells (l.map byt).toArray 5)).freeze ⟨w.heap.size, l.length, none⟩ 1
theorem conv_new (w : World) (l : List Nat) (n c : Nat) : (convert 23 23 (.slice (some ⟨w.heap.size, 0, none⟩) n c)).run Tryd.prog (w.alloc (.cells (l.map byt).toArray 5)) = .ok (.slice (some ⟨w.heap.size, 0, none⟩) n c) (marked w l) := by
  have hsh : (w.alloc (.cells (l.map byt).toArray 5)).shape? w.heap.size = some (5, l.length) := by
    simp [World.shape?, World.alloc, -World.alloc_eq]
  simp [convert, run_underlying Tryd.underlying23, run_underlying Tryd.underlying5, markStringish, marked, hsh, Result.andThen]
theorem below_marked (w : World) (l : List Nat) : Below w.heap.size w (marked w l) := by
  unfold marked
  exact Lib.below_freeze (below_alloc w _) (p := ⟨w.heap.size, _, none⟩) (Nat.le_refl _) 1
theorem marked_at (w : World) (l : List Nat) : (marked w l).heap[w.heap.size]? = some (.cells (l.map byt).toArray 5 (l.length, l.length + 1)) := by
  simp [marked, World.freeze, World.alloc, -World.alloc_eq]
  rw [Array.getElem_modify_self]
  simp
theorem bytes_marked (w : World) (l : List Nat) (hl : ∀ x ∈ l, x < 256) : Bytes (marked w l) (some ⟨w.heap.size, 0, none⟩) l := by
  refine ⟨hl, fun _ => ⟨w.heap.size, 0, rfl, ?_, fun j hj => ?_⟩⟩
  · exact (Array.getElem?_eq_some_iff.1 (marked_at w l)).1
  · simp [World.cell?, marked_at, hj, byt]
theorem right_bad (w : World) (ht : Tab w) : Calls Tryd.prog 13 #[.slice (some ⟨w.heap.size, 0, none⟩) 2 2] (w.alloc (.cells #[.int .u8 192, .int .u8 128] 5)) (BoolPost false (w.alloc (.cells #[.int .u8 192, .int .u8 128] 5))) := by
  have h := right_any (some ⟨w.heap.size, 0, none⟩) 2 2 [192, 128] rfl (Nat.le_refl _) (by decide) _ (ht.below (below_alloc w _)) (bytes_new w [192, 128] (by decide))
  rw [show decide (0 ≤ cntI [192, 128]) = false by rw [cnt_bad]; rfl] at h
  exact h
theorem right_four (w : World) (ht : Tab w) : Calls Tryd.prog 13 #[.slice (some ⟨w.heap.size, 0, none⟩) 10 10] (marked w [97, 195, 164, 226, 130, 172, 240, 159, 152, 128]) (BoolPost true (marked w [97, 195, 164, 226, 130, 172, 240, 159, 152, 128])) := by
  have h := right_any (some ⟨w.heap.size, 0, none⟩) 10 10 [97, 195, 164, 226, 130, 172, 240, 159, 152, 128] rfl (Nat.le_refl _) (by decide) _ (ht.below (below_marked w _)) (bytes_marked w [97, 195, 164, 226, 130, 172, 240, 159, 152, 128] (by decide))
  rw [show decide (0 ≤ cntI [97, 195, 164, 226, 130, 172, 240, 159, 152, 128]) = true by rw [cnt_four]; rfl] at h
  exact h
theorem conv_four (w : World) : (convert 23 23 (.slice (some ⟨w.heap.size, 0, none⟩) 10 10)).run Tryd.prog (w.alloc (.cells #[.int .u8 97, .int .u8 195, .int .u8 164, .int .u8 226, .int .u8 130, .int .u8 172, .int .u8 240, .int .u8 159, .int .u8 152, .int .u8 128] 5)) = .ok (.slice (some ⟨w.heap.size, 0, none⟩) 10 10) (marked w [97, 195, 164, 226, 130, 172, 240, 159, 152, 128]) :=
  conv_new w [97, 195, 164, 226, 130, 172, 240, 159, 152, 128] 10 10
theorem count_two (w : World) (ht : Tab w) : Calls Tryd.prog 12 #[.slice (some ⟨w.heap.size, 0, none⟩) 3 3] (marked w [97, 195, 164]) (ValPost (.int .i64 2) (marked w [97, 195, 164])) := by
  have h := count_any (some ⟨w.heap.size, 0, none⟩) 3 3 [97, 195, 164] rfl (Nat.le_refl _) (by decide) _ (ht.below (below_marked w _)) (bytes_marked w [97, 195, 164] (by decide))
  unfold CntPost at h
  rw [cnt_two] at h
  exact h
theorem conv_two (w : World) : (convert 23 23 (.slice (some ⟨w.heap.size, 0, none⟩) 3 3)).run Tryd.prog (w.alloc (.cells #[.int .u8 97, .int .u8 195, .int .u8 164] 5)) = .ok (.slice (some ⟨w.heap.size, 0, none⟩) 3 3) (marked w [97, 195, 164]) :=
  conv_new w [97, 195, 164] 3 3
theorem count_none (w : World) (ht : Tab w) : Calls Tryd.prog 12 #[.slice none 0 0] w (ValPost (.int .i64 0) w) := by
  have h := count_any none 0 0 [] rfl (Nat.le_refl _) (by decide) w ht (Bytes.nil w none)
  unfold CntPost at h
  rw [cnt_empty] at h
  exact h
theorem names_new (w : World) (s : ByteArray) : Names (w.alloc (.cells #[.string s] 9)) (some ⟨w.heap.size, 0, none⟩) [s] := by
  refine fun _ => ⟨w.heap.size, 0, rfl, by simp, fun j hj => ?_⟩
  obtain rfl : j = 0 := by simp at hj; exact hj
  rw [Nat.zero_add, World.cell?_alloc_new]
  rfl
theorem fresh_a (w : World) : Calls Tryd.prog 11 #[.slice (some ⟨w.heap.size, 0, none⟩) 1 1, .string ⟨#[97]⟩] (w.alloc (.cells #[.string ⟨#[97]⟩] 9)) (NamePost [97, 49] (w.alloc (.cells #[.string ⟨#[97]⟩] 9))) :=
  fresh_taken (some ⟨w.heap.size, 0, none⟩) 1 1 [⟨#[97]⟩] rfl (by decide) (fun j => by
    match j with
    | 0 => decide
    | j + 1 => exact Nat.zero_le _) ⟨#[97]⟩ (by decide) 1 (by decide) (by decide) (by decide +kernel) (fun j h1 h2 => by omega) _ (names_new w _) (by decide +kernel)
theorem fresh_b (w : World) : Calls Tryd.prog 11 #[.slice none 0 0, .string ⟨#[98]⟩] w (ValPost (.string ⟨#[98]⟩) w) :=
  fresh_free none 0 0 [] rfl (by decide) ⟨#[98]⟩ w (Names.nil w none) (by decide +kernel)
theorem is_a1 {s : ByteArray} (h : nums s = [97, 49]) : (s.toList == [97, 49]) = true := by
  have h2 : nums s = nums ⟨#[97, 49]⟩ := by rw [h]; decide +kernel
  have h3 := nums_is h2
  have e : (⟨#[97, 49]⟩ : ByteArray).toList = [97, 49] := ByteArray.toList_mk [97, 49]
  rw [e] at h3
  exact h3
theorem tab_new {w : World} (h : Tab w) (o : Obj) : Tab (w.alloc o) := h.below (below_alloc w o)

set_option maxRecDepth 10000 in
theorem known_any (w : World) (ht : Tab w) : Calls Tryd.prog 8 #[] w (BoolPost true w) := by
  have HT := Lib.hid ht
  have hc4 := conv_four
  have hc2 := conv_two
  clear ht
  go_enter Tryd.func8, Tryd.ntmps8
  go_wp2_with fail
  go_at_call 13
  refine (right_bad w HT.out).mono ?_
  rintro e w1 ⟨rfl, hb⟩
  have hnx : Below w.heap.size w w1 := (below_alloc w _).trans (hb.mono (by simp))
  clear hb
  go_wp2_with fail
  go_at_call 13
  refine (right_four w1 (HT.out.below hnx)).mono ?_
  rintro e w2 ⟨rfl, hb⟩
  replace hnx : Below w.heap.size w w2 := below_then (below_then hnx (below_marked w1 _)) hb
  clear hb
  go_wp2_with fail
  go_at_call 12
  refine (count_none w2 (HT.out.below hnx)).mono ?_
  rintro e w3 ⟨rfl, hb⟩
  replace hnx := below_then hnx hb
  clear hb
  go_wp2_with fail
  go_at_call 12
  refine (count_two w3 (HT.out.below hnx)).mono ?_
  rintro e w4 ⟨rfl, hb⟩
  replace hnx : Below w.heap.size w w4 := below_then (below_then hnx (below_marked w3 _)) hb
  clear hb
  go_wp2_with fail
  go_at_call 11
  refine (fresh_a w4).mono ?_
  rintro e w5 ⟨s, rfl, hs, hb⟩
  replace hnx : Below w.heap.size w w5 := (hnx.alloc hnx.size _).trans (hb.mono (by have := hnx.size; simp; omega))
  have hs2 := is_a1 hs
  clear hb hs
  go_wp2_with fail
  go_at_call 11
  refine (fresh_b w5).mono ?_
  rintro e w6 ⟨rfl, hb⟩
  replace hnx := below_then hnx hb
  clear hb
  go_wp2
  go_ret
  exact ⟨rfl, hnx⟩
end Go.Proofs.YtmcippkhfjgkoaaDoor
