/- A part of the proof. -/
import Derived.Test.YteohmkceapblkaaDoorJ15
namespace Go.Proofs.YteohmkceapblkaaDoor
section
open Go.RowKit
def NumNew (op : Int) (w : World) (e : Ending) (w' : World) : Prop :=
  ∃ p q : Value, e = .returned (.tuple #[.agg #[p, q], .bool (numB op)]) ∧ RowOf w' p (paramsB op) ∧ RowOf w' q (resultsB op) ∧ (∀ a k c, p = .slice (some a) k c → w.heap.size ≤ a.block) ∧ (∀ a k c, q = .slice (some a) k c → w.heap.size ≤ a.block) ∧ Below w.heap.size w w'
theorem nnum_no (op : Int) (h : numB op = false) (w : World) : Calls Tryd.prog 86 #[.int .i64 op] w (NumNew op w) := by
  have h1 : paramsB op = [] := by unfold paramsB; rw [h]; rfl
  have h2 : resultsB op = [] := by unfold resultsB; rw [h]; rfl
  have C := fun w => numeric_any op w
  rw [h] at C
  have HC := Lib.hid C
  have HH := Lib.hid h
  have H1 := Lib.hid h1
  have H2 := Lib.hid h2
  clear C h h1 h2
  go_enter Tryd.func86, Tryd.ntmps86
  go_wp2_with (go_at_call 72; refine (HC.out _).mono ?_; rintro e w' ⟨rfl, rfl⟩)
  exact bodyPost_ret (v := .tuple #[.agg #[.slice none 0 0, .slice none 0 0], .bool false]) (by simp [results, Tryd.results86, go_sem]) rfl
    ⟨_, _, by rw [HH.out], (.inl ⟨rfl, H1.out⟩), (.inl ⟨rfl, H2.out⟩), (fun _ _ _ h => by cases h), (fun _ _ _ h => by cases h), (Below.refl _ _).alloc (Nat.le_refl _) _⟩
theorem bcell10 {W w1 : World} (hb : Below W.heap.size W w1) : (∀ b o, b < W.heap.size → w1.cell? ⟨b, o, none⟩ = W.cell? ⟨b, o, none⟩) ∧ (∀ b o, b < W.heap.size → w1.frozen? ⟨b, o, none⟩ = W.frozen? ⟨b, o, none⟩) :=
  ⟨fun b o h => hb.cell (p := ⟨b, o, none⟩) h, fun b o h => hb.frozen (p := ⟨b, o, none⟩) h⟩
theorem RowOf.setCell10 {w : World} {ao : Option Addr} {n c : Nat} {xs : List Int} (h : RowOf w (.slice ao n c) xs) (p : Addr) (u : Value) (hp : ∀ a, ao = some a → p.block < a.block) : RowOf (w.setCell p u) (.slice ao n c) xs := by
  rcases h with h | ⟨g, cap, h1, h2, h3, h4, h5⟩
  · exact .inl h
  · refine .inr ⟨g, cap, h1, by simpa [World.setCell] using h2, h3, h4, fun j hj => ?_⟩
    rw [← h5 j hj]
    have hg : p.block < g := by
      have h6 : ao = some ⟨g, 0, none⟩ := by cases h1; rfl
      exact hp _ h6
    exact World.cell?_of_block (Below.heap_setCell _ _ _ _ (by simp; omega))
theorem nnum_end (op : Int) (w w2 : World) (a b : Int) (n : Nat) (ao : Option Addr) (nn cc : Nat) (h : numB op = true) (h1 : paramsB op = List.replicate n a) (h2 : resultsB op = [b])
    (hrow : RowOf w2 (.slice ao nn cc) (List.replicate n a)) (hfrom : ∀ x, ao = some x → w.heap.size < x.block) (hB : Below (w.heap.size + 1) (w.alloc (.cells #[.slice none 0 0, .slice none 0 0] 131)) w2) :
    NumNew op w (.returned (.tuple #[.agg #[.slice ao nn cc, .slice (some ⟨w2.heap.size, 0, none⟩) 1 1], .bool true]))
      (((w2.setCell ⟨w.heap.size, 0, none⟩ (.slice ao nn cc)).setCell ⟨w.heap.size, 1, none⟩ (.slice (some ⟨w2.heap.size, 0, none⟩) 1 1)).alloc (.cells #[.int .i64 b] 3)) := by
  have hs : w.heap.size + 1 ≤ w2.heap.size := by have := hB.size; simpa using this
  have r1 := (hrow.setCell10 ⟨w.heap.size, 0, none⟩ (.slice ao nn cc) hfrom).setCell10 ⟨w.heap.size, 1, none⟩ (.slice (some ⟨w2.heap.size, 0, none⟩) 1 1) hfrom
  have b1 : Below w.heap.size w ((w2.setCell ⟨w.heap.size, 0, none⟩ (.slice ao nn cc)).setCell ⟨w.heap.size, 1, none⟩ (.slice (some ⟨w2.heap.size, 0, none⟩) 1 1)) :=
    ((((Below.refl w.heap.size w).alloc (Nat.le_refl _) _).trans (hB.mono (Nat.le_succ _))).setCell (p := ⟨w.heap.size, 0, none⟩) (Nat.le_refl _) _).setCell (p := ⟨w.heap.size, 1, none⟩) (Nat.le_refl _) _
  have es : ((w2.setCell ⟨w.heap.size, 0, none⟩ (.slice ao nn cc)).setCell ⟨w.heap.size, 1, none⟩ (.slice (some ⟨w2.heap.size, 0, none⟩) 1 1)).heap.size = w2.heap.size := by simp [World.setCell]
  refine ⟨_, _, by rw [h], ?_, ?_, (fun a k c e => by simp only [Value.slice.injEq] at e; exact Nat.le_of_lt (hfrom a e.1)), (fun a k c e => by simp only [Value.slice.injEq, Option.some.injEq] at e; rw [← e.1]; show w.heap.size ≤ w2.heap.size; omega), b1.alloc (by rw [es]; omega) _⟩
  · rw [h1]
    exact r1.below ((Below.refl _ _).alloc (Nat.le_refl _) _)
  · rw [h2]
    refine .inr ⟨w2.heap.size, 1, rfl, by simp [es], by simp, by simp, fun j hj => ?_⟩
    have nc := new_cells ((w2.setCell ⟨w.heap.size, 0, none⟩ (.slice ao nn cc)).setCell ⟨w.heap.size, 1, none⟩ (.slice (some ⟨w2.heap.size, 0, none⟩) 1 1)) 3 [b] j hj
    rw [es] at nc
    exact nc
theorem nnum_yes (op : Int) (h : numB op = true) (w : World) : Calls Tryd.prog 86 #[.int .i64 op] w (NumNew op w) := by
  have h1 : paramsB op = List.replicate (sigB op).1 (sigB op).2.1 := by unfold paramsB; rw [h]; rfl
  have h2 : resultsB op = [(sigB op).2.2] := by unfold resultsB; rw [h]; rfl
  have h3 := sig_count op h
  have C := fun w => numeric_any op w
  have D := fun w => shape_any op w
  rw [h] at C
  rw [shape_sig op h] at D
  obtain ⟨n, a, b, hs⟩ : ∃ n a b, sigB op = (n, a, b) := ⟨_, _, _, rfl⟩
  rw [hs] at h1 h2 h3
  simp only [hs] at D
  simp only at h1 h2 h3
  have HC := Lib.hid C
  have HH := Lib.hid h
  have H1 := Lib.hid h1
  have H2 := Lib.hid h2
  clear C h h1 h2 hs
  rcases h3 with rfl | rfl
  · have HD := Lib.hid D
    clear D
    go_enter Tryd.func86, Tryd.ntmps86
    go_wp2_with (first | (go_at_call 72; refine (HC.out _).mono ?_; rintro e w' ⟨rfl, rfl⟩) | (go_at_call 90; refine (HD.out _).mono ?_; rintro e w1 ⟨rfl, hb1⟩; obtain ⟨hc1, hf1⟩ := bcell10 hb1; have hz1 : w.heap.size + 1 ≤ w1.heap.size := (by have := hb1.size; simpa using this)))
    refine (repeat_1 a w1.heap.size _ (by simp) (by simp)).mono ?_
    rintro e w2 ⟨v, rfl, hrow, hnew, hb2⟩
    obtain ⟨ao, nn, cc, rfl⟩ := hrow.slice
    have hB : Below (w.alloc (.cells #[.slice none 0 0, .slice none 0 0] 131)).heap.size (w.alloc (.cells #[.slice none 0 0, .slice none 0 0] 131)) w2 :=
      (hb1.alloc hb1.size _).trans (hb2.mono (by simp; omega))
    have f0 : w2.cell? ⟨w.heap.size, 0, none⟩ = some (.slice none 0 0) := (hB.cell (p := ⟨w.heap.size, 0, none⟩) (by simp)).trans (by simp)
    have f1 : w2.cell? ⟨w.heap.size, 1, none⟩ = some (.slice none 0 0) := (hB.cell (p := ⟨w.heap.size, 1, none⟩) (by simp)).trans (by simp)
    have f2 : w2.frozen? ⟨w.heap.size, 0, none⟩ = false := (hB.frozen (p := ⟨w.heap.size, 0, none⟩) (by simp)).trans (by simp [go_sem])
    have f3 : w2.frozen? ⟨w.heap.size, 1, none⟩ = false := (hB.frozen (p := ⟨w.heap.size, 1, none⟩) (by simp)).trans (by simp [go_sem])
    have hz2 : w1.heap.size + 1 ≤ w2.heap.size := by have := hb2.size; simpa using this
    have hz3 : w.heap.size < w2.heap.size := by omega
    clear hc1 hf1
    have hfrom : ∀ x, ao = some x → w.heap.size < x.block := fun x e => by have h := hnew x nn cc (by rw [e]); have e3 : w1.heap.size + 1 ≤ x.block := (by simpa using h); omega
    rw [show (w.alloc (.cells #[.slice none 0 0, .slice none 0 0] 131)).heap.size = w.heap.size + 1 by simp] at hB
    have HB := Lib.hid hB
    have HR := Lib.hid hrow
    have HF := Lib.hid hfrom
    clear hrow hfrom hnew
    clear hb1 hb2 hB
    go_wp2
    exact bodyPost_ret (v := .tuple #[.agg #[.slice ao nn cc, .slice (some ⟨w2.heap.size, 0, none⟩) 1 1], .bool true]) (by simp [results, Tryd.results86, go_sem, hz3, f0, f1]) rfl (nnum_end op w w2 a b 1 ao nn cc HH.out H1.out H2.out HR.out HF.out HB.out)
  · have HD := Lib.hid D
    clear D
    go_enter Tryd.func86, Tryd.ntmps86
    go_wp2_with (first | (go_at_call 72; refine (HC.out _).mono ?_; rintro e w' ⟨rfl, rfl⟩) | (go_at_call 90; refine (HD.out _).mono ?_; rintro e w1 ⟨rfl, hb1⟩; obtain ⟨hc1, hf1⟩ := bcell10 hb1; have hz1 : w.heap.size + 1 ≤ w1.heap.size := (by have := hb1.size; simpa using this)))
    refine (repeat_2 a w1.heap.size _ (by simp) (by simp)).mono ?_
    rintro e w2 ⟨v, rfl, hrow, hnew, hb2⟩
    obtain ⟨ao, nn, cc, rfl⟩ := hrow.slice
    have hB : Below (w.alloc (.cells #[.slice none 0 0, .slice none 0 0] 131)).heap.size (w.alloc (.cells #[.slice none 0 0, .slice none 0 0] 131)) w2 :=
      (hb1.alloc hb1.size _).trans (hb2.mono (by simp; omega))
    have f0 : w2.cell? ⟨w.heap.size, 0, none⟩ = some (.slice none 0 0) := (hB.cell (p := ⟨w.heap.size, 0, none⟩) (by simp)).trans (by simp)
    have f1 : w2.cell? ⟨w.heap.size, 1, none⟩ = some (.slice none 0 0) := (hB.cell (p := ⟨w.heap.size, 1, none⟩) (by simp)).trans (by simp)
    have f2 : w2.frozen? ⟨w.heap.size, 0, none⟩ = false := (hB.frozen (p := ⟨w.heap.size, 0, none⟩) (by simp)).trans (by simp [go_sem])
    have f3 : w2.frozen? ⟨w.heap.size, 1, none⟩ = false := (hB.frozen (p := ⟨w.heap.size, 1, none⟩) (by simp)).trans (by simp [go_sem])
    have hz2 : w1.heap.size + 1 ≤ w2.heap.size := by have := hb2.size; simpa using this
    have hz3 : w.heap.size < w2.heap.size := by omega
    clear hc1 hf1
    have hfrom : ∀ x, ao = some x → w.heap.size < x.block := fun x e => by have h := hnew x nn cc (by rw [e]); have e3 : w1.heap.size + 1 ≤ x.block := (by simpa using h); omega
    rw [show (w.alloc (.cells #[.slice none 0 0, .slice none 0 0] 131)).heap.size = w.heap.size + 1 by simp] at hB
    have HB := Lib.hid hB
    have HR := Lib.hid hrow
    have HF := Lib.hid hfrom
    clear hrow hfrom hnew
    clear hb1 hb2 hB
    go_wp2
    exact bodyPost_ret (v := .tuple #[.agg #[.slice ao nn cc, .slice (some ⟨w2.heap.size, 0, none⟩) 1 1], .bool true]) (by simp [results, Tryd.results86, go_sem, hz3, f0, f1]) rfl (nnum_end op w w2 a b 2 ao nn cc HH.out H1.out H2.out HR.out HF.out HB.out)
theorem nnum_any (op : Int) (w : World) : Calls Tryd.prog 86 #[.int .i64 op] w (NumNew op w) := by
  cases h : numB op with
  | true => exact nnum_yes op h w
  | false => exact nnum_no op h w
end
section
open Go.RowKit
theorem rich_any (op : Int) (w : World) : Calls Tryd.prog 46 #[.int .i64 op] w (BoolPost (richB op) w) := by
  have C := fun (w1 : World) hg => contains_any w.heap.size 14 14 richL op rfl (by omega) w1 hg
  unfold richB
  generalize richL.contains op = b at C
  have HC := Lib.hid C
  clear C
  go_enter Tryd.func46, Tryd.ntmps46
  go_wp2_with fail
  go_at_call 74
  refine (HC.out _ ?_).mono ?_
  · intro j hj
    exact new_cells w 3 richL j hj
  rintro e w' ⟨rfl, rfl⟩
  go_wp2
  go_ret
  exact ⟨rfl, (Below.refl _ _).alloc (Nat.le_refl _) _⟩
theorem rrich_any (op : Int) (w : World) :
    Calls Tryd.prog 5 #[.int .i64 op] w fun e w' => e = .returned (.bool (richB op)) ∧ w = w' := by
  rw [← rrich_eq]
  by_cases c : op = 18 ∨ 192 ≤ op ∧ op ≤ 196 ∨ op = 64514 ∨ op = 64515 ∨ 64518 ≤ op ∧ op ≤ 64523
  · rw [show rrichB op = true from decide_eq_true c]
    rcases c with rfl | ⟨h, g⟩ | rfl | rfl | ⟨h, g⟩
    case inr.inr.inr.inr =>
      have d1 : (op == 18) = false := by simp; omega
      have d2 : decide (op ≤ 196) = false := by simp; omega
      go_enter Tryd.func5, Tryd.ntmps5
      go_wp2
      go_ret
      exact ⟨rfl, rfl⟩
    all_goals
      go_enter Tryd.func5, Tryd.ntmps5
      go_wp2
      go_ret
      exact ⟨rfl, rfl⟩
  · rw [show rrichB op = false from decide_eq_false c]
    have c' : op < 192 ∨ 196 < op ∧ op < 64518 ∨ 64523 < op := by omega
    have e1 : (op == 18) = false := by simp; omega
    have e2 : (op == 64514) = false := by simp; omega
    have e3 : (op == 64515) = false := by simp; omega
    clear c
    rcases c' with h | ⟨h, g⟩ | h
    · go_enter Tryd.func5, Tryd.ntmps5
      go_wp2
      go_ret
      exact ⟨rfl, rfl⟩
    · have d2 : decide (op ≤ 196) = false := by simp; omega
      go_enter Tryd.func5, Tryd.ntmps5
      go_wp2
      go_ret
      exact ⟨rfl, rfl⟩
    · have d2 : decide (op ≤ 196) = false := by simp; omega
      have d3 : decide (op ≤ 64523) = false := by simp; omega
      go_enter Tryd.func5, Tryd.ntmps5
      go_wp2
      go_ret
      exact ⟨rfl, rfl⟩
end
section
open Go.RowKit
def AccPost (p : Int × Int × Bool × Bool) (w : World) (e : Ending) (w' : World) : Prop :=
  e = .returned (.tuple #[.int .i64 p.1, .int .i64 p.2.1, .bool p.2.2.1, .bool p.2.2.2]) ∧ Below w.heap.size w w'
theorem access_out (op : Int) (h : op < 40 ∨ 62 < op) (w : World) : Calls Tryd.prog 50 #[.int .i64 op] w (AccPost (0, 0, false, false) w) := by
  rcases h with h | h
  all_goals
    go_enter Tryd.func50, Tryd.ntmps50
    go_wp2
    refine bodyPost_ret (v := .tuple #[.int .i64 0, .int .i64 0, .bool false, .bool false]) (by simp [results, Tryd.results50, go_sem]) rfl ⟨rfl, Below.refl _ _⟩
def tableB : Array Value := ((List.replicate 40 (0, 0, false, false) ++ accL).flatMap fun (p : Int × Int × Bool × Bool) => [Value.int .i64 p.1, Value.int .i64 p.2.1, Value.bool p.2.2.1]).toArray
theorem table_at (w : World) : ∀ i : Fin 23, (Instr.index 121 (.agg tableB) (.int .i64 (40 + (i.val : Int)))).run Tryd.prog w = .ok (.agg #[.int .i64 (accL.getD i.val (0, 0, false, false)).1, .int .i64 (accL.getD i.val (0, 0, false, false)).2.1, .bool (accL.getD i.val (0, 0, false, false)).2.2.1]) w
  | ⟨0, _⟩ => by kernel_rfl
  | ⟨1, _⟩ => by kernel_rfl
  | ⟨2, _⟩ => by kernel_rfl
  | ⟨3, _⟩ => by kernel_rfl
  | ⟨4, _⟩ => by kernel_rfl
  | ⟨5, _⟩ => by kernel_rfl
  | ⟨6, _⟩ => by kernel_rfl
  | ⟨7, _⟩ => by kernel_rfl
  | ⟨8, _⟩ => by kernel_rfl
  | ⟨9, _⟩ => by kernel_rfl
  | ⟨10, _⟩ => by kernel_rfl
  | ⟨11, _⟩ => by kernel_rfl
  | ⟨12, _⟩ => by kernel_rfl
  | ⟨13, _⟩ => by kernel_rfl
  | ⟨14, _⟩ => by kernel_rfl
  | ⟨15, _⟩ => by kernel_rfl
  | ⟨16, _⟩ => by kernel_rfl
  | ⟨17, _⟩ => by kernel_rfl
  | ⟨18, _⟩ => by kernel_rfl
  | ⟨19, _⟩ => by kernel_rfl
  | ⟨20, _⟩ => by kernel_rfl
  | ⟨21, _⟩ => by kernel_rfl
  | ⟨22, _⟩ => by kernel_rfl
  | ⟨_ + 23, h⟩ => absurd h (by omega)
theorem triple_built (a b : Int) (c : Bool) (w : World) : (Instr.build 120 #[(0, .int .i64 a), (1, .int .i64 b), (2, .bool c)]).run Tryd.prog w = .ok (.agg #[.int .i64 a, .int .i64 b, .bool c]) w := run_build w _ _ _ (by kernel_rfl)
end
section
open Go.RowKit
set_option maxRecDepth 100000 in
set_option maxHeartbeats 1000000 in
theorem access_in (op b k : Int) (s : Bool) (h : 40 ≤ op) (g : op ≤ 62) (w : World)
    (hi : ∀ w, (Instr.index 121 (.agg tableB) (.int .i64 op)).run Tryd.prog w = .ok (.agg #[.int .i64 b, .int .i64 k, .bool s]) w) :
    Calls Tryd.prog 50 #[.int .i64 op] w (AccPost (b, k, s, decide (0 < b)) w) := by
  have ht := triple_built
  go_enter Tryd.func50, Tryd.ntmps50
  go_wp2_with (with_reducible refine wpList_buildTo rfl 121 _ rfl (some 34) rfl tableB (by as_aux_lemma => kernel_rfl) ?_)
  go_quiet (fail)
  go_wp2
  refine bodyPost_ret (v := .tuple #[.int .i64 b, .int .i64 k, .bool s, .bool (decide (0 < b))]) (by simp [results, Tryd.results50, go_sem]) rfl ⟨rfl, ?_⟩
  exact below_drewN ((Below.refl _ _).alloc (Nat.le_refl _) _) _
theorem access_any (op : Int) (w : World) : Calls Tryd.prog 50 #[.int .i64 op] w (AccPost (accB op) w) := by
  by_cases h : 40 ≤ op ∧ op ≤ 62
  · have e : accB op = accL.getD (op - 40).toNat (0, 0, false, false) := by unfold accB; rw [if_pos h]
    have hp := acc_pos op
    have ht := fun w => table_at w ⟨(op - 40).toNat, by omega⟩
    rw [e] at hp ⊢
    simp only [show (40 : Int) + ((op - 40).toNat : Int) = op by omega] at ht
    generalize accL.getD (op - 40).toNat (0, 0, false, false) = p at hp ht
    obtain ⟨b, k, s, d⟩ := p
    have hp' : d = decide (0 < b) := hp
    clear hp
    subst hp'
    exact access_in op b k s h.1 h.2 w ht
  · have e : accB op = (0, 0, false, false) := by unfold accB; rw [if_neg h]
    rw [e]
    exact access_out op (by omega) w
end
section
open Go.RowKit
theorem known_num (op : Int) (h : numB op = true) (w : World) : Calls Tryd.prog 45 #[.int .i64 op] w (BoolPost true w) := by
  have A := fun w => numeric_any op w
  rw [h] at A
  have HA := Lib.hid A
  clear A h
  go_enter Tryd.func45, Tryd.ntmps45
  go_wp2_with (go_at_call 72; refine (HA.out _).mono ?_; rintro e w' ⟨rfl, rfl⟩)
  go_ret
  exact ⟨rfl, Below.refl _ _⟩
theorem known_opens (op : Int) (h : numB op = false) (ho : opensB op = true) (w : World) : Calls Tryd.prog 45 #[.int .i64 op] w (BoolPost true w) := by
  have A := fun w => numeric_any op w
  have B := fun w => opens_any op w
  rw [h] at A
  rw [ho] at B
  have HA := Lib.hid A
  have HB := Lib.hid B
  clear A B h ho
  go_enter Tryd.func45, Tryd.ntmps45
  go_wp2_with (first | (go_at_call 72; refine (HA.out _).mono ?_; rintro e w' ⟨rfl, rfl⟩) | (go_at_call 47; refine (HB.out _).mono ?_; rintro e w' ⟨rfl, rfl⟩))
  go_ret
  exact ⟨rfl, Below.refl _ _⟩
theorem known_const (op : Int) (h : numB op = false) (ho : opensB op = false) (hc : (constB op != 0) = true) (w : World) : Calls Tryd.prog 45 #[.int .i64 op] w (BoolPost true w) := by
  have A := fun w => numeric_any op w
  have B := fun w => opens_any op w
  have C := fun w => const_any op w
  rw [h] at A
  rw [ho] at B
  rw [hc] at C
  have HA := Lib.hid A
  have HB := Lib.hid B
  have HC := Lib.hid C
  clear A B C h ho hc
  go_enter Tryd.func45, Tryd.ntmps45
  go_wp2_with (first | (go_at_call 72; refine (HA.out _).mono ?_; rintro e w' ⟨rfl, rfl⟩) | (go_at_call 47; refine (HB.out _).mono ?_; rintro e w' ⟨rfl, rfl⟩) | (go_at_call 73; refine (HC.out _).mono ?_; rintro e w' ⟨rfl, rfl⟩))
  go_ret
  exact ⟨rfl, Below.refl _ _⟩
theorem known_acc (op : Int) (h : numB op = false) (ho : opensB op = false) (hc : (constB op != 0) = false) (ha : (accB op).2.2.2 = true) (w : World) : Calls Tryd.prog 45 #[.int .i64 op] w (BoolPost true w) := by
  have A := fun w => numeric_any op w
  have B := fun w => opens_any op w
  have C := fun w => const_any op w
  have D := fun w => access_any op w
  rw [h] at A
  rw [ho] at B
  rw [hc] at C
  generalize accB op = p at D ha
  obtain ⟨x, y, z, d⟩ := p
  replace ha : d = true := ha
  subst ha
  have HA := Lib.hid A
  have HB := Lib.hid B
  have HC := Lib.hid C
  have HD := Lib.hid D
  clear A B C D h ho hc
  go_enter Tryd.func45, Tryd.ntmps45
  go_wp2_with (first | (go_at_call 72; refine (HA.out _).mono ?_; rintro e w' ⟨rfl, rfl⟩) | (go_at_call 47; refine (HB.out _).mono ?_; rintro e w' ⟨rfl, rfl⟩) | (go_at_call 73; refine (HC.out _).mono ?_; rintro e w' ⟨rfl, rfl⟩) | (go_at_call 50; refine (HD.out _).mono ?_; rintro e w1 ⟨rfl, hb⟩))
  go_ret
  exact ⟨rfl, hb⟩
theorem known_rest (op : Int) (h : numB op = false) (ho : opensB op = false) (hc : (constB op != 0) = false) (ha : (accB op).2.2.2 = false) (w : World) : Calls Tryd.prog 45 #[.int .i64 op] w (BoolPost (restL.contains op) w) := by
  have A := fun w => numeric_any op w
  have B := fun w => opens_any op w
  have C := fun w => const_any op w
  have D := fun w => access_any op w
  have E := fun (g : Nat) (w1 : World) hg => contains_any g 23 23 restL op rfl (by omega) w1 hg
  rw [h] at A
  rw [ho] at B
  rw [hc] at C
  generalize accB op = p at D ha
  obtain ⟨x, y, z, d⟩ := p
  replace ha : d = false := ha
  subst ha
  generalize restL.contains op = r at E
  have HA := Lib.hid A
  have HB := Lib.hid B
  have HC := Lib.hid C
  have HD := Lib.hid D
  have HE := Lib.hid E
  clear A B C D E h ho hc
  go_enter Tryd.func45, Tryd.ntmps45
  go_wp2_with (first | (go_at_call 72; refine (HA.out _).mono ?_; rintro e w' ⟨rfl, rfl⟩) | (go_at_call 47; refine (HB.out _).mono ?_; rintro e w' ⟨rfl, rfl⟩) | (go_at_call 73; refine (HC.out _).mono ?_; rintro e w' ⟨rfl, rfl⟩) | (go_at_call 50; refine (HD.out _).mono ?_; rintro e w1 ⟨rfl, hb⟩))
  refine (HE.out w1.heap.size _ (fun j hj => new_cells w1 3 restL j hj)).mono ?_
  rintro e w' ⟨rfl, rfl⟩
  go_wp2
  go_ret
  exact ⟨rfl, hb.alloc hb.size _⟩
theorem known_any (op : Int) (w : World) : Calls Tryd.prog 45 #[.int .i64 op] w (BoolPost (knownB op) w) := by
  cases h : numB op with
  | true => rw [show knownB op = true by unfold knownB; rw [h]; rfl]; exact known_num op h w
  | false =>
    cases ho : opensB op with
    | true => rw [show knownB op = true by unfold knownB; rw [h, ho]; rfl]; exact known_opens op h ho w
    | false =>
      cases hc : constB op != 0 with
      | true => rw [show knownB op = true by unfold knownB; rw [h, ho, hc]; rfl]; exact known_const op h ho hc w
      | false =>
        cases ha : (accB op).2.2.2 with
        | true => rw [show knownB op = true by unfold knownB; rw [h, ho, hc, ha]; rfl]; exact known_acc op h ho hc ha w
        | false => rw [show knownB op = restL.contains op by unfold knownB; rw [h, ho, hc, ha]; simp]; exact known_rest op h ho hc ha w
end
end Go.Proofs.YteohmkceapblkaaDoor
