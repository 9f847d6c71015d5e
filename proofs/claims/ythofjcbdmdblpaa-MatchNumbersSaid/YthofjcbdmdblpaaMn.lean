/-
  MatchNumbers.
-/
import Derived.Test.YthofjcbdmdblpaaMk
import Derived.Test.YthofjcbdmdblpaaKapp
namespace Go.Proofs.Ythofjcbdmdblpaa
open Go.RowKit

/-- Code that the call makes. -/
def OwnC (W wr : World) (v : Value) (ops : List Int) : Prop := (∃ A c, v = .slice A ops.length c) ∧ wr.ownsRow 0 26 5 v ops.length (flatI ops) ∧ (∀ g, v.ownBlock = some g → W.heap.size ≤ g) ∧ Below W.heap.size W wr
theorem OwnC.nil {W wr : World} (h : Below W.heap.size W wr) : OwnC W wr (.slice none 0 0) [] := ⟨⟨none, 0, rfl⟩, World.ownsRow_nil _ _ _ _, (fun g h => by cases h), h⟩
theorem OwnC.below {W wr w' : World} {v : Value} {ops : List Int} (h : OwnC W wr v ops) (hb : Below wr.heap.size wr w') : OwnC W w' v ops := ⟨h.1, owns_below h.2.1 hb, h.2.2.1, below_then h.2.2.2 hb⟩
theorem OwnC.push {W wr w' : World} {v v' : Value} {ops more : List Int} (h : OwnC W wr v ops) (o : Obj) {m : Nat} {xs : List Value} (ho : w'.ownsRow 0 26 5 v' m xs) (hm : m = (ops ++ more).length) (hx : xs = flatI (ops ++ more)) (hg : (wr.alloc o).grownBy w' v.ownBlock) (hat : v'.ownBlock = v.ownBlock ∨ v'.ownBlock = some (wr.alloc o).heap.size) : OwnC W w' v' (ops ++ more) := by
  subst hm hx
  have hs : (wr.alloc o).heap.size = wr.heap.size + 1 := by simp
  have hb := h.2.2.2.alloc h.2.2.2.size o
  refine ⟨owns_slice ho, ho, fun g hg' => ?_, hb.grown hg hb.size h.2.2.1⟩
  rcases hat with h1 | h1
  · exact h.2.2.1 g (h1 ▸ hg')
  · have := h1.symm.trans hg'
    simp only [Option.some.injEq] at this
    have := h.2.2.2.size
    omega
theorem same_owned {W wr : World} {A : Option Addr} {c n : Nat} {ops : List Int} (h : OwnC W wr (.slice A n c) ops) (hl : ops.length ≤ 900000) : Calls Try.prog 7 #[.slice A n c] wr (BoolPost true wr) := by
  obtain ⟨⟨A', c', he⟩, ho, _⟩ := h
  simp only [Value.slice.injEq] at he
  obtain ⟨rfl, rfl, rfl⟩ := he
  obtain ⟨h1, h2⟩ := codeAt_owned ho rfl
  exact same_code wr _ _ _ ops h1 rfl hl h2
def lit5 : List Int := [2, 4, 5, 11, 1]
def lit4 : List Int := [63, 64, 65, 66]
theorem lit4_le (k : Nat) : ∃ n : Nat, lit4.getD k 0 = (n : Int) ∧ n ≤ 66 := by
  match k with
  | 0 => exact ⟨63, rfl, by omega⟩
  | 1 => exact ⟨64, rfl, by omega⟩
  | 2 => exact ⟨65, rfl, by omega⟩
  | 3 => exact ⟨66, rfl, by omega⟩
  | k + 4 => exact ⟨0, rfl, by omega⟩
theorem lit_cell (w : World) (l : List Int) (t : TypeId) (r : Nat) (h : r < l.length) : (w.alloc (.cells (l.map (Value.int .i64)).toArray t)).cell? ⟨w.heap.size, r, none⟩ = some (.int .i64 (l.getD r 0)) := by
  rw [World.cell?_alloc_new]; simp [h]

set_option maxRecDepth 100000 in
set_option maxHeartbeats 4000000 in
theorem numbers_walk (w : World) : Calls Try.prog 3 #[] w (BoolPost true w) := by
  have HL := Lib.hid (fun r hr => lit_cell w lit5 3 r hr)
  have HB0 : Hid (Below w.heap.size w (w.alloc (.cells (lit5.map (Value.int .i64)).toArray 3))) := Lib.hid ((Below.refl _ _).alloc (Nat.le_refl _) _)
  go_enter Try.func3, Try.ntmps3
  go_wp2_with fail
  obtain ⟨W0, hW0⟩ : ∃ W0, W0 = w.alloc (.cells (lit5.map (Value.int .i64)).toArray 3) := ⟨_, rfl⟩
  have hW0' : w.alloc (.cells #[.int .i64 2, .int .i64 4, .int .i64 5, .int .i64 11, .int .i64 1] 3) = W0 := hW0.symm
  rw [hW0']
  rw [← hW0] at HL HB0
  have HLT : Hid (w.heap.size < W0.heap.size) := by rw [Hid, hW0]; simp
  clear hW0 hW0'
  go_loopw [2] (fun i wr => ∃ k : Nat, k ≤ 15625 ∧ i = .int .i64 (k : Int) ∧ Hid (Below W0.heap.size W0 wr)) (fun i _ => 15625 - (intOf i).toNat)
  case atStart => exact ⟨0, by omega, rfl, Lib.hid (Below.refl _ _)⟩
  case round =>
    obtain ⟨k, hk, rfl, HB⟩ := hrel
    obtain ⟨w1, rfl⟩ : ∃ w1, w1 = wr := ⟨_, rfl⟩
    by_cases hlt : k < 15625
    · have hd0 : decide ((k : Int) < 15625) = true := by simp; omega
      go_wp2_with fail
      go_loopw [3, 4] (fun l i wr => ∃ (ops : List Int) (A : Option Addr) (c kv : Nat), l = .slice A ops.length c ∧ Hid (OwnC w1 wr (.slice A ops.length c) ops) ∧ i = .int .i64 (kv : Int) ∧ ops.length + kv ≤ 15625) (fun _ i _ => (intOf i).toNat)
      case atStart => exact ⟨[], none, 0, k, rfl, Lib.hid (OwnC.nil (Below.refl _ _)), rfl, by simp; omega⟩
      case round =>
        obtain ⟨ops, A, c, kv, rfl, HO, rfl, hkv⟩ := hrel
        obtain ⟨m, hm⟩ : ∃ m, ops.length = m := ⟨_, rfl⟩
        rw [hm] at HO hkv ⊢
        have HM := Lib.hid hm
        clear hm
        by_cases h0 : 0 < kv
        · have hd1 : decide ((0 : Int) < (kv : Int)) = true := by simp; omega
          obtain ⟨r, hr⟩ : ∃ r : Nat, kv % 5 = r := ⟨_, rfl⟩
          obtain ⟨qt, hqt⟩ : ∃ q : Nat, kv / 5 = q := ⟨_, rfl⟩
          have hr5 : r < 5 := by omega
          have e1 : (kv : Int) % 5 = (r : Int) := by omega
          have e2 : (kv : Int) / 5 = (qt : Int) := by omega
          have hqk : qt < kv := by omega
          have hcell : wr.cell? ⟨w.heap.size, r, none⟩ = some (.int .i64 (lit5.getD r 0)) := ((below_then HB.out HO.out.2.2.2).cell (p := ⟨w.heap.size, r, none⟩) HLT.out).trans (HL.out r hr5)
          generalize lit5.getD r 0 = x at hcell
          clear hr hqt
          go_wp2_with (at_builtin; (refine wpList_append_row rfl (.tmp 20) (.tmp 27) 23 26 rfl _ 5 56 Try.underlying23 Try.infoInst5 rfl (by decide) (by decide) (.slice A m c) m (flatI ops) (by rfl) (by have h := HO.out.2.1; rw [HM.out] at h; exact h.alloc _) _ 1 (inCells x) (by rfl) (by rfl) (news_new wr _ _ 1 1) (by simp [inCells, Value.oneCell']) (by omega) ?_; intro v1 wa ho1 hg1 ha1; obtain ⟨B1, c1, rfl⟩ := owns_slice ho1))
          have HO2 := Lib.hid (HO.out.push _ (more := [x]) ho1 (by simp [HM.out]) (by rw [flatI_append]; rfl) hg1 ha1)
          go_roundw
          case rel => exact ⟨ops ++ [x], B1, c1, qt, by simp [HM.out], by have h := HO2; simp only [List.length_append, List.length_singleton, HM.out]; exact h, rfl, by simp only [List.length_append, List.length_singleton, HM.out]; omega⟩
          case measure => simp [intOf]; omega
        · have hd1 : decide ((0 : Int) < (kv : Int)) = false := by simp; omega
          go_wp2_with fail
          go_at_call 7
          refine (same_owned HO.out (by rw [HM.out]; omega)).mono ?_
          rintro e w2 ⟨rfl, hb2⟩
          have HO2 := Lib.hid (HO.out.below hb2)
          clear hb2 HO
          go_wp2_with (at_builtin; (refine wpList_append_row rfl (.tmp 33) (.tmp 35) 23 26 rfl _ 5 56 Try.underlying23 Try.infoInst5 rfl (by decide) (by decide) (.slice A m c) m (flatI ops) (by rfl) (by have h := HO2.out.2.1; rw [HM.out] at h; exact h.alloc _) _ 1 (inCells 11) (by rfl) (by rfl) (news_new w2 _ _ 1 1) (by simp [inCells, Value.oneCell']) (by omega) ?_; intro v1 wa ho1 hg1 ha1; obtain ⟨B1, c1, rfl⟩ := owns_slice ho1))
          have HO3 := Lib.hid (HO2.out.push _ (more := [11]) ho1 (by simp [HM.out]) (by rw [flatI_append]; rfl) hg1 ha1)
          go_at_call 7
          refine (same_owned HO3.out (by rw [List.length_append, HM.out]; simp; omega)).mono ?_
          rintro e w3 ⟨rfl, hb3⟩
          have HB3 := Lib.hid (below_then HB.out (below_then HO3.out.2.2.2 hb3))
          clear hb3 HO3 HO2 ho1 hg1 ha1
          go_wp2
          go_roundw
          case rel => exact ⟨k + 1, by omega, by go_num, HB3⟩
          case measure => simp [intOf]; omega
    · have hd0 : decide ((k : Int) < 15625) = false := by simp; omega
      clear hk hlt HL HLT
      have HL2 := Lib.hid (fun r hr => lit_cell w1 lit4 3 r hr)
      have HB2 : Hid (Below w.heap.size w (w1.alloc (.cells (lit4.map (Value.int .i64)).toArray 3))) := Lib.hid (below_new (below_then HB0.out HB.out) _)
      go_wp2_with fail
      obtain ⟨W2, hW2⟩ : ∃ W2, W2 = w1.alloc (.cells (lit4.map (Value.int .i64)).toArray 3) := ⟨_, rfl⟩
      have hW2' : w1.alloc (.cells #[.int .i64 63, .int .i64 64, .int .i64 65, .int .i64 66] 3) = W2 := hW2.symm
      rw [hW2']
      rw [← hW2] at HL2 HB2
      have HLT2 : Hid (w1.heap.size < W2.heap.size) := by rw [Hid, hW2]; simp
      clear hW2 hW2' hd0 HB HB0
      go_loopw [42] (fun i wr => ∃ k : Nat, k ≤ 4 ∧ i = .int .i64 (k : Int) ∧ Hid (Below W2.heap.size W2 wr)) (fun i _ => 4 - (intOf i).toNat)
      case atStart => exact ⟨0, by omega, rfl, Lib.hid (Below.refl _ _)⟩
      case round =>
        obtain ⟨j, hj, rfl, HB⟩ := hrel
        obtain ⟨w3, rfl⟩ : ∃ w3, w3 = wr := ⟨_, rfl⟩
        by_cases hlt : j < 4
        · have hd0 : decide ((j : Int) < 4) = true := by simp; omega
          have hcell := (HB.out.cell (p := ⟨w1.heap.size, j, none⟩) HLT2.out).trans (HL2.out j hlt)
          obtain ⟨n, hn, hn66⟩ := lit4_le j
          rw [hn] at hcell
          clear hn
          go_wp2_with fail
          go_loopw [7, 8] (fun l i wr => ∃ (ops : List Int) (A : Option Addr) (c k : Nat), l = .slice A ops.length c ∧ Hid (OwnC w3 wr (.slice A ops.length c) ops) ∧ i = .int .i64 (k : Int) ∧ k ≤ n ∧ ops.length = k) (fun _ i _ => n - (intOf i).toNat)
          case atStart => exact ⟨[], none, 0, 0, rfl, Lib.hid (OwnC.nil (Below.refl _ _)), rfl, by omega, rfl⟩
          case round =>
            obtain ⟨ops, A, c, k, rfl, HO, rfl, hk, hm⟩ := hrel
            obtain ⟨m, hm2⟩ : ∃ m, m = k := ⟨_, rfl⟩
            rw [← hm2] at hm
            rw [hm] at HO ⊢
            have HM := Lib.hid hm
            have HMK := Lib.hid hm2
            have hmk : m ≤ 66 := by omega
            clear hm hm2
            by_cases hlk : k < n
            · have hd1 : decide ((k : Int) < (n : Int)) = true := by simp; omega
              go_wp2_with (at_builtin; (refine wpList_append_row rfl (.tmp 51) (.tmp 53) 23 26 rfl _ 5 56 Try.underlying23 Try.infoInst5 rfl (by decide) (by decide) (.slice A m c) m (flatI ops) (by rfl) (by have h := HO.out.2.1; rw [HM.out] at h; exact h.alloc _) _ 1 (inCells 2) (by rfl) (by rfl) (news_new wr _ _ 1 1) (by simp [inCells, Value.oneCell']) (by omega) ?_; intro v1 wa ho1 hg1 ha1; obtain ⟨B1, c1, rfl⟩ := owns_slice ho1))
              have HO2 := Lib.hid (HO.out.push _ (more := [2]) ho1 (by simp [HM.out]) (by rw [flatI_append]; rfl) hg1 ha1)
              go_roundw
              case rel => exact ⟨ops ++ [2], B1, c1, k + 1, by simp [HM.out], by have h := HO2; simp only [List.length_append, List.length_singleton, HM.out]; exact h, by go_num, by omega, by have := HMK.out; simp [HM.out]; omega⟩
              case measure => simp [intOf]; omega
            · have hd1 : decide ((k : Int) < (n : Int)) = false := by simp; omega
              obtain ⟨w4, rfl⟩ : ∃ w4, w4 = wr := ⟨_, rfl⟩
              have HOb := Lib.hid (show OwnC w3 w4 (.slice A m c) ops from HO.out)
              go_wp2_with fail
              go_loopw [7, 9] (fun l i wr => ∃ (ops : List Int) (A : Option Addr) (c k : Nat), l = .slice A ops.length c ∧ Hid (OwnC w3 wr (.slice A ops.length c) ops) ∧ i = .int .i64 (k : Int) ∧ k ≤ n ∧ ops.length = m + k) (fun _ i _ => n - (intOf i).toNat)
              case atStart => exact ⟨ops, A, c, 0, by rw [HM.out], by rw [HM.out]; exact HOb, rfl, by omega, by rw [HM.out]; rfl⟩
              case round =>
                clear HO HOb HM HMK hk hlk hd1
                obtain ⟨ops, A, c, k, rfl, HO, rfl, hk, hm⟩ := hrel
                obtain ⟨m2, hm2⟩ : ∃ m2, ops.length = m2 := ⟨_, rfl⟩
                rw [hm2] at HO hm ⊢
                have HM := Lib.hid hm2
                have hmk2 : m2 ≤ 140 := by omega
                have HMK := Lib.hid hm
                clear hm2 hm
                by_cases hlk : k < n
                · have hd1 : decide ((k : Int) < (n : Int)) = true := by simp; omega
                  go_wp2_with (at_builtin; (refine wpList_append_row rfl (.tmp 60) (.tmp 62) 23 26 rfl _ 5 56 Try.underlying23 Try.infoInst5 rfl (by decide) (by decide) (.slice A m2 c) m2 (flatI ops) (by rfl) (by have h := HO.out.2.1; rw [HM.out] at h; exact h.alloc _) _ 1 (inCells 11) (by rfl) (by rfl) (news_new wr _ _ 1 1) (by simp [inCells, Value.oneCell']) (by omega) ?_; intro v1 wa ho1 hg1 ha1; obtain ⟨B1, c1, rfl⟩ := owns_slice ho1))
                  have HO2 := Lib.hid (HO.out.push _ (more := [11]) ho1 (by simp [HM.out]) (by rw [flatI_append]; rfl) hg1 ha1)
                  go_roundw
                  case rel => exact ⟨ops ++ [11], B1, c1, k + 1, by simp [HM.out], by have h := HO2; simp only [List.length_append, List.length_singleton, HM.out]; exact h, by go_num, by omega, by have := HMK.out; simp [HM.out]; omega⟩
                  case measure => simp [intOf]; omega
                · have hd1 : decide ((k : Int) < (n : Int)) = false := by simp; omega
                  go_wp2_with fail
                  go_at_call 7
                  refine (same_owned HO.out (by rw [HM.out]; omega)).mono ?_
                  rintro e w5 ⟨rfl, hb5⟩
                  have HO5 := Lib.hid (HO.out.below hb5)
                  clear hb5 HO
                  go_wp2_with (at_builtin; (refine wpList_append_both rfl (.tmp 68) (.tmp 70) 23 26 rfl _ 5 56 Try.underlying23 Try.infoInst5 rfl (by decide) (by decide) (.slice A m2 c) m2 (flatI ops) (by rfl) (by have h := HO5.out.2.1; rw [HM.out] at h; exact h.alloc _) _ 1 (inCells 11) (by rfl) (by rfl) (news_new w5 _ _ 1 1) (by simp [inCells, Value.oneCell']) (by omega) ?_; intro v1 wa ho1 hg1 ha1 hold; obtain ⟨B1, c1, rfl⟩ := owns_slice ho1))
                  have HOL := Lib.hid (show OwnC w3 wa (.slice A m2 c) ops from ⟨HO5.out.1, by rw [HM.out]; exact hold, HO5.out.2.2.1, HO5.out.2.2.2.alloc HO5.out.2.2.2.size _ |>.grown hg1 (HO5.out.2.2.2.alloc HO5.out.2.2.2.size _).size HO5.out.2.2.1⟩)
                  have HO6 := Lib.hid (HO5.out.push _ (more := [11]) ho1 (by simp [HM.out]) (by rw [flatI_append]; rfl) hg1 ha1)
                  go_at_call 7
                  refine (same_owned HO6.out (by rw [List.length_append, HM.out]; simp; omega)).mono ?_
                  rintro e w6 ⟨rfl, hb6⟩
                  have HO7 := Lib.hid (HOL.out.below hb6)
                  clear hb6 HOL HO6 HO5 hold ho1 hg1 ha1
                  go_wp2_with (at_builtin; (refine wpList_append_row rfl (.tmp 76) (.tmp 79) 23 26 rfl _ 5 56 Try.underlying23 Try.infoInst5 rfl (by decide) (by decide) (.slice A m2 c) m2 (flatI ops) (by rfl) (by have h := HO7.out.2.1; rw [HM.out] at h; exact h.alloc _) _ 2 (flatI [5, 11]) (by rfl) (by rfl) (news_new w6 _ _ 2 2) (by simp [inCells, flatI, Value.oneCell']) (by omega) ?_; intro v1 wa ho1 hg1 ha1; obtain ⟨B1, c1, rfl⟩ := owns_slice ho1))
                  have HO8 := Lib.hid (HO7.out.push _ (more := [5, 11]) ho1 (by simp [HM.out]) (by rw [flatI_append]) hg1 ha1)
                  go_at_call 7
                  refine (same_owned HO8.out (by rw [List.length_append, HM.out]; simp; omega)).mono ?_
                  rintro e w7 ⟨rfl, hb7⟩
                  have HB8 := Lib.hid (below_then HB.out (below_then HO8.out.2.2.2 hb7))
                  clear hb7 HO8 HO7 ho1 hg1 ha1
                  go_wp2
                  go_roundw
                  case rel => exact ⟨j + 1, by omega, by go_num, HB8⟩
                  case measure => simp [intOf]; omega
        · have hd0 : decide ((j : Int) < 4) = false := by simp; omega
          have HBW := Lib.hid (below_then HB2.out HB.out)
          go_wp2_with fail
          go_at_call 8
          refine (known_any _).mono ?_
          rintro e w9 ⟨rfl, hb9⟩
          go_wp2
          go_ret
          exact ⟨rfl, below_then HBW.out hb9⟩
end Go.Proofs.Ythofjcbdmdblpaa
