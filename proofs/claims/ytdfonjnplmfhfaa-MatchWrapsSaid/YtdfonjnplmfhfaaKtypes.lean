/-
  Contract of the maker's types: the nine.
-/
import Derived.Test.YtdfonjnplmfhfaaKst
namespace Go.Proofs.Ytdfonjnplmfhfaa
open Go.RowKit

theorem alloc_fold (os : List Obj) : ∀ (w : World) (i : Nat) (o : Obj), os[i]? = some o → (os.foldl World.alloc w).heap[w.heap.size + i]? = some o ∧ Below w.heap.size w (os.foldl World.alloc w) ∧ (os.foldl World.alloc w).heap.size = w.heap.size + os.length := by
  induction os with
  | nil => intro w i o h; simp at h
  | cons a os ih =>
    intro w i o h
    have hs : (w.alloc a).heap.size = w.heap.size + 1 := by simp
    have hb : Below w.heap.size w (w.alloc a) := (Below.refl _ _).alloc (Nat.le_refl _) a
    rcases os with _ | ⟨b, os⟩
    · cases i with
      | zero => simp only [List.getElem?_cons_zero, Option.some.injEq] at h; subst h; exact ⟨heap_alloc_new w _, hb, hs⟩
      | succ i => simp at h
    · have h0 := ih (w.alloc a) 0 b rfl
      have hbb : Below w.heap.size w ((b :: os).foldl World.alloc (w.alloc a)) := hb.trans (h0.2.1.mono (by rw [hs]; omega))
      have hsz : ((a :: b :: os).foldl World.alloc w).heap.size = w.heap.size + (a :: b :: os).length := by
        show ((b :: os).foldl World.alloc (w.alloc a)).heap.size = _
        rw [h0.2.2, hs]; simp only [List.length_cons]; omega
      cases i with
      | zero =>
        simp only [List.getElem?_cons_zero, Option.some.injEq] at h
        subst h
        exact ⟨(h0.2.1.block w.heap.size (by rw [hs]; omega)).trans (heap_alloc_new w _), hbb, hsz⟩
      | succ i =>
        have h1 := ih (w.alloc a) i o (by simpa using h)
        rw [hs, show w.heap.size + 1 + i = w.heap.size + (i + 1) by omega] at h1
        exact ⟨h1.1, hbb, hsz⟩

/-- What types lays. -/
def tyObjs (B : Nat) : List Obj := [.cells #[.int .i64 127] 3, .cells #[.int .i64 127] 3, .cells #[.int .i64 127, .int .i64 127] 3, .cells #[.int .i64 127, .int .i64 127] 3, .cells #[.int .i64 126, .int .i64 124] 3, .cells #[.int .i64 124] 3, .cells #[.int .i64 127, .int .i64 126, .int .i64 124] 3, .cells #[.int .i64 127] 3, .cells #[.int .i64 127, .int .i64 126] 3, .cells #[.int .i64 124] 3, .cells #[.int .i64 127] 3, .cells #[.int .i64 127, .int .i64 126] 3, .cells #[.int .i64 126] 3, .cells #[.int .i64 126] 3, .cells #[.slice none 0 0, .slice none 0 0, .slice (some ⟨B, 0, none⟩) 1 1, .slice (some ⟨B + 1, 0, none⟩) 1 1, .slice (some ⟨B + 2, 0, none⟩) 2 2, .slice (some ⟨B + 3, 0, none⟩) 2 2, .slice (some ⟨B + 4, 0, none⟩) 2 2, .slice (some ⟨B + 5, 0, none⟩) 1 1, .slice none 0 0, .slice (some ⟨B + 6, 0, none⟩) 3 3, .slice (some ⟨B + 7, 0, none⟩) 1 1, .slice (some ⟨B + 8, 0, none⟩) 2 2, .slice (some ⟨B + 9, 0, none⟩) 1 1, .slice (some ⟨B + 10, 0, none⟩) 1 1, .slice (some ⟨B + 11, 0, none⟩) 2 2, .slice none 0 0, .slice (some ⟨B + 12, 0, none⟩) 1 1, .slice (some ⟨B + 13, 0, none⟩) 1 1] 67]
/-- The nine types. -/
def nineL : List (List Int × List Int) := [([], []), ([127], [127]), ([127, 127], [127, 127]), ([126, 124], [124]), ([], [127, 126, 124]), ([127], [127, 126]), ([124], [127]), ([127, 126], []), ([126], [126])]

theorem nine_read (w : World) : TypesK (fun k => w.heap.size ≤ k ∧ k < ((tyObjs w.heap.size).foldl World.alloc w).heap.size) ((tyObjs w.heap.size).foldl World.alloc w) (.slice (some ⟨w.heap.size + 14, 0, none⟩) 9 9) nineL := by
  have A := fun i o h => alloc_fold (tyObjs w.heap.size) w i o h
  have hsz := (A 14 _ rfl).2.2
  have C : ∀ (i : Nat) (u : Value), (match (tyObjs w.heap.size)[14]? with | some (Obj.cells cs _ _) => cs[i]? | _ => none) = some u → ((tyObjs w.heap.size).foldl World.alloc w).cell? ⟨w.heap.size + 14, i, none⟩ = some u := fun i u h => by
    have h14 := (A 14 _ rfl).1
    simp only [World.cell?, h14]
    exact h
  have I : ∀ (m : Nat) (l : List Int), (tyObjs w.heap.size)[m]? = some (.cells (l.map (Value.int .i64)).toArray 3) → m < 15 → l.length ≤ 3 → IntsK (fun k => w.heap.size ≤ k ∧ k < ((tyObjs w.heap.size).foldl World.alloc w).heap.size) ((tyObjs w.heap.size).foldl World.alloc w) (.slice (some ⟨w.heap.size + m, 0, none⟩) l.length l.length) l := fun m l h hm hl =>
    ⟨_, _, rfl, by unfold maxLen; omega, (fun h => by cases h), fun _ => ⟨w.heap.size + m, 0, rfl, ⟨by omega, by rw [hsz]; show _ < _ + 15; omega⟩, fun j hj => by
      rw [Nat.zero_add]; simp only [World.cell?, (A m _ h).1]; simp [hj]⟩⟩
  refine ⟨_, 9, rfl, Nat.le_refl _, by unfold maxLen; omega, (fun h => by cases h), fun _ => ⟨w.heap.size + 14, 0, rfl, ⟨by omega, by rw [hsz]; show _ < _ + 15; omega⟩, fun j i hj hi => ?_⟩⟩
  have hj9 : j < 9 := hj
  rcases (show (j = 0 ∨ j = 1 ∨ j = 2 ∨ j = 3 ∨ j = 4 ∨ j = 5 ∨ j = 6 ∨ j = 7 ∨ j = 8) by omega) with rfl | rfl | rfl | rfl | rfl | rfl | rfl | rfl | rfl
  all_goals rcases (show i = 0 ∨ i = 1 by omega) with rfl | rfl
  · exact ⟨_, C 0 _ rfl, IntsK.nil _ _⟩
  · exact ⟨_, C 1 _ rfl, IntsK.nil _ _⟩
  · exact ⟨_, C 2 _ rfl, I 0 [127] rfl (by decide) (by decide)⟩
  · exact ⟨_, C 3 _ rfl, I 1 [127] rfl (by decide) (by decide)⟩
  · exact ⟨_, C 4 _ rfl, I 2 [127, 127] rfl (by decide) (by decide)⟩
  · exact ⟨_, C 5 _ rfl, I 3 [127, 127] rfl (by decide) (by decide)⟩
  · exact ⟨_, C 6 _ rfl, I 4 [126, 124] rfl (by decide) (by decide)⟩
  · exact ⟨_, C 7 _ rfl, I 5 [124] rfl (by decide) (by decide)⟩
  · exact ⟨_, C 8 _ rfl, IntsK.nil _ _⟩
  · exact ⟨_, C 9 _ rfl, I 6 [127, 126, 124] rfl (by decide) (by decide)⟩
  · exact ⟨_, C 10 _ rfl, I 7 [127] rfl (by decide) (by decide)⟩
  · exact ⟨_, C 11 _ rfl, I 8 [127, 126] rfl (by decide) (by decide)⟩
  · exact ⟨_, C 12 _ rfl, I 9 [124] rfl (by decide) (by decide)⟩
  · exact ⟨_, C 13 _ rfl, I 10 [127] rfl (by decide) (by decide)⟩
  · exact ⟨_, C 14 _ rfl, I 11 [127, 126] rfl (by decide) (by decide)⟩
  · exact ⟨_, C 15 _ rfl, IntsK.nil _ _⟩
  · exact ⟨_, C 16 _ rfl, I 12 [126] rfl (by decide) (by decide)⟩
  · exact ⟨_, C 17 _ rfl, I 13 [126] rfl (by decide) (by decide)⟩

set_option maxRecDepth 100000 in
set_option maxHeartbeats 2000000 in
theorem types_any (w : World) : Calls Try.prog 7 #[] w (fun e w' => e = .returned (.slice (some ⟨w.heap.size + 14, 0, none⟩) 9 9) ∧ w' = (tyObjs w.heap.size).foldl World.alloc w) := by
  go_enter Try.func7, Try.ntmps7
  go_wp2
  go_ret
  exact ⟨rfl, rfl⟩
end Go.Proofs.Ytdfonjnplmfhfaa
