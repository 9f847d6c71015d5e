/- A part of the proof. -/
import Derived.Test.YteohmkceapblkaaDoorJ14
import Derived.Great.BuildSlice
import Derived.Laws.IdiomCopy
namespace Go.Proofs.YteohmkceapblkaaDoor
section
open Go.RowKit
theorem wpList_buildSliceN {P : Program} {ops : Array Oper} {rest : List Oper} {o : Oper} {a : Act} {w : World} {Q : Exit → Act → World → Prop} (hg : o.guard = none) (t e : TypeId) (len : Nat) (parts : Array (Nat × Operand)) (ho : o.op = .buildSlice t len parts)
    (cells : Array Value) (z : Value) (n : Nat) (hu : P.underlying t = some (.slice e)) (hi : (P.info? e).map (fun i => (i.zero, i.size)) = some (some z, n)) (hsmall : ¬ len * n > 2 ^ 24) (hpos : ¬ len * n = 0)
    (hf : Instr.fill (fun i => some (i * n, n)) ((Array.range (len * n)).map (z.cells[· % z.cells.size]!)) (parts.map fun (i, x) => (i, a.eval x)).toList = some cells)
    (h : wpList P ops Q rest (a.put o.dst (.slice (some ⟨w.heap.size, 0, none⟩) len len)) (w.alloc (.cells cells e))) : wpList P ops Q (o :: rest) a w := by
  cases hie : P.info? e with
  | none => rw [hie] at hi; cases hi
  | some ie =>
    rw [hie] at hi
    have hz : (ie.zero, ie.size) = (some z, n) := by simpa using hi
    have hz0 : ie.zero = some z := congrArg Prod.fst hz
    have hz1 : ie.size = n := congrArg Prod.snd hz
    exact wpList_buildSlice hg t e len parts ho cells ie z hu hie hz0 (by rw [hz1]; exact hsmall) (by rw [hz1]; exact hpos) (by rw [hz1]; exact hf) h
def RowOf (w : World) (v : Value) (xs : List Int) : Prop :=
  (v = .slice none 0 0 ∧ xs = []) ∨ ∃ (g cap : Nat), v = .slice (some ⟨g, 0, none⟩) xs.length cap ∧ g < w.heap.size ∧ 0 < xs.length ∧ xs.length ≤ 1000000 ∧ ∀ j, j < xs.length → w.cell? ⟨g, j, none⟩ = some (.int .i64 (xs.getD j 0))
theorem RowOf.below {w w' : World} {v : Value} {xs : List Int} (h : RowOf w v xs) (hb : Below w.heap.size w w') : RowOf w' v xs := by
  rcases h with h | ⟨g, cap, h1, h2, h3, h4, h5⟩
  · exact .inl h
  · exact .inr ⟨g, cap, h1, Nat.lt_of_lt_of_le h2 hb.size, h3, h4, fun j hj => (hb.cell (p := ⟨g, j, none⟩) h2).trans (h5 j hj)⟩
theorem RowOf.slice {w : World} {v : Value} {xs : List Int} (h : RowOf w v xs) : ∃ (ao : Option Addr) (n c : Nat), v = .slice ao n c := by
  rcases h with ⟨h, _⟩ | ⟨g, cap, h, _⟩
  · exact ⟨none, 0, 0, h⟩
  · exact ⟨_, _, _, h⟩
theorem new_cells (w : World) (t : TypeId) (xs : List Int) (j : Nat) (h : j < xs.length) :
    (w.alloc (.cells (xs.map (Value.int .i64)).toArray t)).cell? ⟨w.heap.size, j, none⟩ = some (.int .i64 (xs.getD j 0)) := by
  rw [World.cell?_alloc_new]; simp [h]
def PlacePost (b : Bool) (w : World) (e : Ending) (w' : World) : Prop := ∃ r : Int, -1 ≤ r ∧ r ≤ 1000000 ∧ decide (0 ≤ r) = b ∧ e = .returned (.int .i64 r) ∧ w = w'
theorem contains_stop (xs : List Int) (x : Int) (h : ∀ j, j < xs.length → ¬ (x = xs.getD j 0)) : xs.contains x = false := by
  apply Bool.eq_false_iff.mpr
  intro hc
  have hm : x ∈ xs := by simpa using hc
  obtain ⟨i, hi, e⟩ := List.getElem_of_mem hm
  exact h i hi (by simp [hi, e])
theorem contains_hit (xs : List Int) (x : Int) (j : Nat) (hj : j < xs.length) (h : x = xs.getD j 0) : xs.contains x = true := by
  have : xs.getD j 0 ∈ xs := by simp [hj]
  simpa [h] using this
theorem index_any (g n cap : Nat) (xs : List Int) (x : Int) (hn : xs.length = n) (hm : n ≤ 1000000) (w : World)
    (hg : ∀ j, j < n → w.cell? ⟨g, j, none⟩ = some (.int .i64 (xs.getD j 0))) :
    Calls Tryd.prog 85 #[.slice (some ⟨g, 0, none⟩) n cap, .int .i64 x] w (PlacePost (xs.contains x) w) := by
  have hstop := contains_stop xs x
  have hhit := contains_hit xs x
  rw [hn] at hstop hhit
  generalize xs.contains x = b at hstop hhit
  have HG := Lib.hid hg
  have HS := Lib.hid hstop
  have HH := Lib.hid hhit
  clear hg hn hstop hhit
  go_enter Tryd.func85, Tryd.ntmps85
  go_wp2
  go_loop [5, 8] (fun _ i => ∃ k : Nat, k ≤ n ∧ i = .int .i64 (k : Int) ∧ Hid (∀ j, j < k → ¬ (x = xs.getD j 0))) (fun _ i => n - (intOf i).toNat)
  case atStart => exact ⟨0, Nat.zero_le _, rfl, Lib.hid (fun j hj => by omega)⟩
  case round =>
    obtain ⟨k, hk, rfl, hno⟩ := hrel
    by_cases hlt : k < n
    · have c1 := HG.out k hlt
      generalize hy : xs.getD k 0 = y at c1
      have HY := Lib.hid hy
      clear hy
      by_cases hxy : x = y
      · have e1 : (x == y) = true := by simpa using hxy
        have HXY := Lib.hid hxy
        clear hxy
        go_wp2
        go_ret
        exact ⟨k, by omega, by omega, by rw [HH.out k hlt (by rw [HY.out]; exact HXY.out)]; simp, rfl, rfl⟩
      · have e1 : (x == y) = false := by simpa using hxy
        have HXY := Lib.hid hxy
        clear hxy
        go_wp2
        go_round
        case rel =>
          refine ⟨k + 1, by omega, by go_num, Lib.hid (fun j hj => ?_)⟩
          by_cases hjk : j = k
          · subst hjk; rw [HY.out]; exact HXY.out
          · exact hno.out j (by omega)
        case measure => simp [intOf]; omega
    · go_wp2
      go_ret
      exact ⟨-1, by omega, by omega, by rw [HS.out (fun j hj => hno.out j (by omega))]; decide, rfl, rfl⟩
theorem contains_any (g n cap : Nat) (xs : List Int) (x : Int) (hn : xs.length = n) (hm : n ≤ 1000000) (w : World)
    (hg : ∀ j, j < n → w.cell? ⟨g, j, none⟩ = some (.int .i64 (xs.getD j 0))) :
    Calls Tryd.prog 74 #[.slice (some ⟨g, 0, none⟩) n cap, .int .i64 x] w fun e w' => e = .returned (.bool (xs.contains x)) ∧ w = w' := by
  have C := index_any g n cap xs x hn hm w hg
  generalize xs.contains x = b at C
  have HC := Lib.hid C
  clear C hg hn
  go_enter Tryd.func74, Tryd.ntmps74
  go_wp2_with fail
  go_at_call 85
  refine HC.out.mono ?_
  rintro e w' ⟨r, r1, r2, hr, rfl, rfl⟩
  have HR := Lib.hid hr
  clear hr
  go_wp2
  go_ret
  exact ⟨ret_bool HR.out, rfl⟩
end
section
open Go.RowKit
theorem quad_built (a b c d : Int) (w : World) : (Instr.build 140 #[(0, .int .i64 a), (1, .int .i64 b), (2, .int .i64 c), (3, .int .i64 d)]).run Tryd.prog w = .ok (.agg #[.int .i64 a, .int .i64 b, .int .i64 c, .int .i64 d]) w := run_build w _ _ _ (by kernel_rfl)
def rowsB : Array Value := (shapeL.flatMap fun p => [Value.int .i64 p.1, Value.int .i64 (p.2.1 : Int), Value.int .i64 p.2.2.1, Value.int .i64 p.2.2.2]).toArray
theorem rows_at : ∀ k : Fin 23, rowsB[k.val * 4]? = some (.int .i64 (shapeL.getD k.val (0, 0, 0, 0)).1) ∧ rowsB[k.val * 4 + 1]? = some (.int .i64 ((shapeL.getD k.val (0, 0, 0, 0)).2.1 : Int)) ∧ rowsB[k.val * 4 + 2]? = some (.int .i64 (shapeL.getD k.val (0, 0, 0, 0)).2.2.1) ∧ rowsB[k.val * 4 + 3]? = some (.int .i64 (shapeL.getD k.val (0, 0, 0, 0)).2.2.2)
  | ⟨0, _⟩ => ⟨rfl, rfl, rfl, rfl⟩
  | ⟨1, _⟩ => ⟨rfl, rfl, rfl, rfl⟩
  | ⟨2, _⟩ => ⟨rfl, rfl, rfl, rfl⟩
  | ⟨3, _⟩ => ⟨rfl, rfl, rfl, rfl⟩
  | ⟨4, _⟩ => ⟨rfl, rfl, rfl, rfl⟩
  | ⟨5, _⟩ => ⟨rfl, rfl, rfl, rfl⟩
  | ⟨6, _⟩ => ⟨rfl, rfl, rfl, rfl⟩
  | ⟨7, _⟩ => ⟨rfl, rfl, rfl, rfl⟩
  | ⟨8, _⟩ => ⟨rfl, rfl, rfl, rfl⟩
  | ⟨9, _⟩ => ⟨rfl, rfl, rfl, rfl⟩
  | ⟨10, _⟩ => ⟨rfl, rfl, rfl, rfl⟩
  | ⟨11, _⟩ => ⟨rfl, rfl, rfl, rfl⟩
  | ⟨12, _⟩ => ⟨rfl, rfl, rfl, rfl⟩
  | ⟨13, _⟩ => ⟨rfl, rfl, rfl, rfl⟩
  | ⟨14, _⟩ => ⟨rfl, rfl, rfl, rfl⟩
  | ⟨15, _⟩ => ⟨rfl, rfl, rfl, rfl⟩
  | ⟨16, _⟩ => ⟨rfl, rfl, rfl, rfl⟩
  | ⟨17, _⟩ => ⟨rfl, rfl, rfl, rfl⟩
  | ⟨18, _⟩ => ⟨rfl, rfl, rfl, rfl⟩
  | ⟨19, _⟩ => ⟨rfl, rfl, rfl, rfl⟩
  | ⟨20, _⟩ => ⟨rfl, rfl, rfl, rfl⟩
  | ⟨21, _⟩ => ⟨rfl, rfl, rfl, rfl⟩
  | ⟨22, _⟩ => ⟨rfl, rfl, rfl, rfl⟩
  | ⟨_ + 23, h⟩ => absurd h (by omega)
theorem Tryd.info_row : (Tryd.prog.info? 140).map (fun i => (i.zero, i.size)) = some (some (.agg #[.int .i64 0, .int .i64 0, .int .i64 0, .int .i64 0]), 4) := by kernel_rfl
set_option maxRecDepth 100000 in
set_option maxHeartbeats 1000000 in
theorem shape_any (op : Int) (w : World) :
    Calls Tryd.prog 90 #[.int .i64 op] w fun e w' => e = .returned (.tuple #[.int .i64 ((shapeTo op 23).1 : Int), .int .i64 (shapeTo op 23).2.1, .int .i64 (shapeTo op 23).2.2]) ∧ Below w.heap.size w w' := by
  have hq := quad_built
  go_enter Tryd.func90, Tryd.ntmps90
  go_wp2_with (with_reducible refine wpList_buildSliceN rfl 141 140 23 _ rfl rowsB (.agg #[.int .i64 0, .int .i64 0, .int .i64 0, .int .i64 0]) 4 (by kernel_rfl) Tryd.info_row (by decide) (by decide) (by as_aux_lemma => kernel_rfl) ?_)
  clear hq
  go_loopw [2, 3, 4, 32] (fun a b c i wr => ∃ k : Nat, k ≤ 23 ∧ i = .int .i64 (k : Int) ∧ a = .int .i64 ((shapeTo op k).1 : Int) ∧ b = .int .i64 (shapeTo op k).2.1 ∧ c = .int .i64 (shapeTo op k).2.2 ∧ Below (w.heap.size + 1) (w.alloc (.cells rowsB 140)) wr) (fun _ _ _ i _ => 23 - (intOf i).toNat)
  case atStart => exact ⟨0, Nat.zero_le _, rfl, rfl, rfl, rfl, Below.refl _ _⟩
  case round =>
    obtain ⟨k, hk, rfl, rfl, rfl, rfl, hb⟩ := hrel
    by_cases hlt : k < 23
    · have hc : ∀ j v, rowsB[j]? = some v → wr.cell? ⟨w.heap.size, j, none⟩ = some v := fun j v h => (hb.cell (p := ⟨w.heap.size, j, none⟩) (by simp)).trans (by rw [World.cell?_alloc_new]; exact h)
      obtain ⟨c0, c1, c2, c3⟩ := rows_at ⟨k, hlt⟩
      replace c0 := hc _ _ c0
      replace c1 := hc _ _ c1
      replace c2 := hc _ _ c2
      replace c3 := hc _ _ c3
      have hsz : w.heap.size + 1 ≤ wr.heap.size := by have := hb.size; simpa using this
      clear hc
      have hy := shape_yes op k
      have hn := shape_no op k
      obtain ⟨f, n, a, b, hp⟩ : ∃ f n a b, shapeL.getD k (0, 0, 0, 0) = (f, n, a, b) := ⟨_, _, _, _, rfl⟩
      rw [hp] at hy hn
      simp only [hp] at c0 c1 c2 c3
      clear hp
      by_cases hle : f ≤ op
      · have HY := Lib.hid (hy hle)
        clear hy hn
        go_wp2_with fail
        go_quiet (fail)
        go_wp2
        go_roundw
        case rel => exact ⟨k + 1, by omega, by go_num, by rw [HY.out], by rw [HY.out], by rw [HY.out], below_drewN (hb.alloc hsz _) _⟩
        case measure => simp [intOf]; omega
      · have HN := Lib.hid (hn hle)
        clear hy hn
        go_wp2
        go_roundw
        case rel => exact ⟨k + 1, by omega, by go_num, by rw [HN.out], by rw [HN.out], by rw [HN.out], hb.alloc hsz _⟩
        case measure => simp [intOf]; omega
    · obtain rfl : k = 23 := by omega
      go_wp2
      go_ret3
      exact ⟨rfl, ((Below.refl w.heap.size w).alloc (Nat.le_refl _) _).trans (hb.mono (Nat.le_succ _))⟩
end
section
open Go.RowKit
theorem mul64_few (n : Int) (h : n = 1 ∨ n = 2) (w : World) :
    Calls Tryd.prog 96 #[.int .u64 1, .int .u64 n] w fun e w' => e = .returned (.tuple #[.int .u64 0, .int .u64 n]) ∧ w = w' := by
  rcases h with rfl | rfl
  all_goals
    go_enter Tryd.func96, Tryd.ntmps96
    go_wp2
    go_ret2
    exact ⟨rfl, rfl⟩
theorem mul_1 (w : World) : Calls Tryd.prog 93 #[.int .u64 1, .int .u64 1] w fun e w' => e = .returned (.tuple #[.int .u64 0, .int .u64 1]) ∧ w = w' := by
  go_enter Tryd.func93, Tryd.ntmps93
  go_wp2_with (go_at_call 96; refine (mul64_few 1 (.inl rfl) _).mono ?_; rintro e w' ⟨rfl, rfl⟩)
  go_ret2
  exact ⟨rfl, rfl⟩
theorem mul_2 (w : World) : Calls Tryd.prog 93 #[.int .u64 1, .int .u64 2] w fun e w' => e = .returned (.tuple #[.int .u64 0, .int .u64 2]) ∧ w = w' := by
  go_enter Tryd.func93, Tryd.ntmps93
  go_wp2_with (go_at_call 96; refine (mul64_few 2 (.inr rfl) _).mono ?_; rintro e w' ⟨rfl, rfl⟩)
  go_ret2
  exact ⟨rfl, rfl⟩
theorem made_1 (w : World) : (Instr.makeSlice 22 (.int .i64 1) (.int .i64 1)).run Tryd.prog w = .ok (.slice (some ⟨w.heap.size, 0, none⟩) 1 1) (w.alloc (.cells #[.int .i64 0] 3)) := by kernel_rfl
theorem made_2 (w : World) : (Instr.makeSlice 22 (.int .i64 2) (.int .i64 2)).run Tryd.prog w = .ok (.slice (some ⟨w.heap.size, 0, none⟩) 2 2) (w.alloc (.cells #[.int .i64 0, .int .i64 0] 3)) := by kernel_rfl
def TimesPost (x : Int) (n : Nat) (w : World) (e : Ending) (w' : World) : Prop := ∃ v : Value, e = .returned v ∧ RowOf w' v (List.replicate n x) ∧ (∀ a k c, v = .slice (some a) k c → w.heap.size ≤ a.block) ∧ Below w.heap.size w w'
theorem copied (b o dl dc : Nat) (a : Addr) (sc : Nat) (x : Int) (w : World) (hd : 1 ≤ dl) (hx : w.cell? a = some (.int .i64 x)) (hc : (w.cell? ⟨b, o, none⟩).isSome = true) (hf : w.frozen? ⟨b, o, none⟩ = false) :
    (Builtin.copy_ #[22, 22] 3 #[.slice (some ⟨b, o, none⟩) dl dc, .slice (some a) 1 sc]).run Tryd.prog w = .ok (.int .i64 1) (w.setCell ⟨b, o, none⟩ (.int .i64 x)) := by
  have h := run_copy_cells (P := Tryd.prog) w 22 22 3 3 b o dl dc a 1 sc [.int .i64 x] (by kernel_rfl) (by kernel_rfl) (by simp [Nat.min_eq_left hd])
    (by intro j v hj; match j, hj with | 0, hj => simp at hj; subst hj; simpa [Addr.add] using hx) (fun j hj => by have e : j = 0 := (by simpa using hj); subst e; exact hc) (fun j hj => by have e : j = 0 := (by simpa using hj); subst e; exact hf) (by simp [Value.oneCell'])
  exact h
theorem repeat_1 (x : Int) (g : Nat) (w : World) (hg : w.cell? ⟨g, 0, none⟩ = some (.int .i64 x)) (hs : g < w.heap.size) :
    Calls Tryd.prog 91 #[.slice (some ⟨g, 0, none⟩) 1 1, .int .i64 1] w (TimesPost x 1 w) := by
  have hmk := made_1
  have hg' : (w.alloc (.cells #[.int .i64 0] 3)).cell? ⟨g, 0, none⟩ = some (.int .i64 x) := by rw [World.cell?_alloc_lt _ _ _ hs]; exact hg
  have hcp := copied w.heap.size 0 1 1 ⟨g, 0, none⟩ 1 x (w.alloc (.cells #[.int .i64 0] 3)) (Nat.le_refl _) hg' (by simp) (by simp [go_sem])
  go_enter Tryd.func91, Tryd.ntmps91
  go_wp2_with (go_at_call 93; refine (mul_1 _).mono ?_; rintro e w' ⟨rfl, rfl⟩)
  go_loop [8] (fun n => n = .int .i64 1) (fun _ => 0)
  case atStart => rfl
  case round =>
    subst hrel
    go_wp2
    go_ret
    exact ⟨_, rfl, .inr ⟨w.heap.size, 1, rfl, by simp, by simp, by simp, fun j hj => new_cells w 3 [x] j hj⟩, fun a k c e => by cases e; exact Nat.le_refl _, (Below.refl _ _).alloc (Nat.le_refl _) _⟩
theorem repeat_2 (x : Int) (g : Nat) (w : World) (hg : w.cell? ⟨g, 0, none⟩ = some (.int .i64 x)) (hs : g < w.heap.size) :
    Calls Tryd.prog 91 #[.slice (some ⟨g, 0, none⟩) 1 1, .int .i64 2] w (TimesPost x 2 w) := by
  have hmk := made_2
  have hg' : (w.alloc (.cells #[.int .i64 0, .int .i64 0] 3)).cell? ⟨g, 0, none⟩ = some (.int .i64 x) := by rw [World.cell?_alloc_lt _ _ _ hs]; exact hg
  have hcp := copied w.heap.size 0 2 2 ⟨g, 0, none⟩ 1 x (w.alloc (.cells #[.int .i64 0, .int .i64 0] 3)) (by omega) hg' (by simp) (by simp [go_sem])
  have hcq : (Builtin.copy_ #[22, 22] 3 #[.slice (some ⟨w.heap.size, 1, none⟩) 1 1, .slice (some ⟨w.heap.size, 0, none⟩) 1 2]).run Tryd.prog (w.alloc (.cells #[.int .i64 x, .int .i64 0] 3)).drew = .ok (.int .i64 1) (w.alloc (.cells #[.int .i64 x, .int .i64 x] 3)).drew := by
    have h := copied w.heap.size 1 1 1 ⟨w.heap.size, 0, none⟩ 2 x (w.alloc (.cells #[.int .i64 x, .int .i64 0] 3)).drew (by omega) (by simp [go_sem]) (by simp [go_sem]) (by simp [go_sem])
    rw [show ∀ (X : World) a v, X.drew.setCell a v = (X.setCell a v).drew from fun _ _ _ => rfl] at h
    simpa [go_sem] using h
  go_enter Tryd.func91, Tryd.ntmps91
  go_wp2_with (go_at_call 93; refine (mul_2 _).mono ?_; rintro e w' ⟨rfl, rfl⟩)
  go_loopw [8] (fun n wr => (n = .int .i64 1 ∧ wr = w.alloc (.cells #[.int .i64 x, .int .i64 0] 3)) ∨ (n = .int .i64 2 ∧ ∃ m, wr = (w.alloc (.cells #[.int .i64 x, .int .i64 x] 3)).drewN m)) (fun n _ => 2 - (intOf n).toNat)
  case atStart => exact .inl ⟨rfl, rfl⟩
  case round =>
    rcases hrel with ⟨rfl, rfl⟩ | ⟨rfl, m, rfl⟩
    · go_wp2_with fail
      go_region
      all_goals
        go_wp2
        go_roundw
        case rel => exact .inr ⟨rfl, 1, rfl⟩
        case measure => simp [intOf]
    · go_wp2
      go_ret
      refine ⟨_, rfl, .inr ⟨w.heap.size, 2, rfl, by simp, by simp, by simp, fun j hj => new_cells w 3 [x, x] j hj⟩, fun a k c e => by cases e; exact Nat.le_refl _, below_drewN ((Below.refl _ _).alloc (Nat.le_refl _) _) _⟩
end
end Go.Proofs.YteohmkceapblkaaDoor
