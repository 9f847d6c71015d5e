/- A part of the proof. -/
import Derived.Test.YteohmkceapblkaaDoorJ21
import Derived.OneCell
import Derived.ChangeSlices
import Derived.WideShapes
import Derived.Carry
import Derived.OpenShut
namespace Go.Proofs.YteohmkceapblkaaDoor
section
open Go.RowKit
def StepPost (F : Wx) (w : World) (x : Ws) (r : Int × Pl) (e : Ending) (w' : World) : Prop :=
  ∃ x', Wk F w' x' ∧ WStep F w x w' x' ∧ e = .returned (.int .i64 r.1) ∧ (r.1 = 0 → x'.pl = r.2)
set_option maxRecDepth 100000 in
set_option maxHeartbeats 8000000 in
theorem step_of {F : Wx} {w : World} {x : Ws} (hF : F.prg) (h : Wk F w x) (op a b n : Int) (l : List Int) (Al : Option Addr) (nl cl : Nat)
    (hE : inPlaceC x.pl op = true → ∀ w1, Wk F w1 x → Calls Tryd.prog 27 #[.pointer (some ⟨F.G, 0, none⟩), .agg #[.int .i64 op, .int .i64 a, .int .i64 b, .int .u64 n, .slice Al nl cl]] w1 (BoolPost (existsC F.env x.pl ⟨op, a, b, n, l⟩) w1))
    (hFo : inPlaceC x.pl op = true → existsC F.env x.pl ⟨op, a, b, n, l⟩ = true → ∀ w1, Wk F w1 x → Calls Tryd.prog 28 #[.pointer (some ⟨F.G, 0, none⟩), .agg #[.int .i64 op, .int .i64 a, .int .i64 b, .int .u64 n, .slice Al nl cl]] w1 (FolPost F w1 x (followC F.env x.pl ⟨op, a, b, n, l⟩))) :
    Calls Tryd.prog 12 #[.pointer (some ⟨F.G, 0, none⟩), .agg #[.int .i64 op, .int .i64 a, .int .i64 b, .int .u64 n, .slice Al nl cl]] w (StepPost F w x (stepC F.env x.pl ⟨op, a, b, n, l⟩)) := by
  have HE := Lib.hid hE
  have HFo := Lib.hid hFo
  have HRI := Lib.hid (fun w => richI_any ⟨op, a, b, n, l⟩ (.slice Al nl cl) ⟨_, _, _, rfl⟩ w)
  obtain ⟨W, hW⟩ : ∃ W, W = w.alloc (.cells #[.int .i64 op, .int .i64 a, .int .i64 b, .int .u64 n, .slice Al nl cl] 30) := ⟨_, rfl⟩
  have hk : ∀ j : Nat, W.cell? ⟨w.heap.size, j, none⟩ = (#[.int .i64 op, .int .i64 a, .int .i64 b, .int .u64 n, .slice Al nl cl] : Array Value)[j]? := fun j => by rw [hW, World.cell?_alloc_new]
  have HG1 := Lib.hid (hW ▸ h.alloc (.cells #[.int .i64 op, .int .i64 a, .int .i64 b, .int .u64 n, .slice Al nl cl] 30) : Wk F W x ∧ WStep F w x W x)
  have HKX : Hid (∀ wz, Below W.heap.size W wz → wz.cell? ⟨w.heap.size, 0, none⟩ = some (.int .i64 op) ∧ wz.cell? ⟨w.heap.size, 1, none⟩ = some (.int .i64 a) ∧ wz.cell? ⟨w.heap.size, 2, none⟩ = some (.int .i64 b) ∧ wz.cell? ⟨w.heap.size, 3, none⟩ = some (.int .u64 n) ∧ wz.cell? ⟨w.heap.size, 4, none⟩ = some (.slice Al nl cl) ∧ wz.cell? ⟨F.G, 10, none⟩ = some (.int .i64 F.prof)) := Lib.hid fun wz hz =>
    ⟨(hz.cell (World.block_lt_of_cell? W _ (hk 0))).trans (hk 0), (hz.cell (World.block_lt_of_cell? W _ (hk 1))).trans (hk 1), (hz.cell (World.block_lt_of_cell? W _ (hk 2))).trans (hk 2), (hz.cell (World.block_lt_of_cell? W _ (hk 3))).trans (hk 3), (hz.cell (World.block_lt_of_cell? W _ (hk 4))).trans (hk 4), ((HG1.out.1.below hz).1.q hF).2.2.2.1⟩
  have HIP := Lib.hid (inPlace_any hF HG1.out.1 op)
  have HW := Lib.hid hW
  obtain ⟨k0, k1, k2, k3, k4, kp⟩ := HKX.out W (Below.refl _ _)
  unfold stepC
  clear hE hFo hk hW h
  cases hin : inPlaceC x.pl op with
  | false =>
    rw [if_pos rfl]
    rw [hin] at HIP
    clear hin HE HFo
    go_enter Tryd.func12, Tryd.ntmps12
    go_upto_region 1 with (fail)
    rw [← HW.out]
    go_wp2_with (first | (go_at_call 25; refine HIP.out.mono ?_; rintro e w1 ⟨rfl, hb1⟩; have HB1 := Lib.hid (show Below W.heap.size W w1 from hb1); obtain ⟨j0, j1, j2, j3, j4, jp⟩ := HKX.out w1 hb1; clear hb1))
    go_ret
    exact ⟨x, (HG1.out.1.below HB1.out).1, HG1.out.2.trans (HG1.out.1.below HB1.out).2, rfl, fun hx => (by simp at hx)⟩
  | true =>
    rw [if_neg (by decide)]
    rw [hin] at HIP
    generalize hpr : F.prof = pr at *
    rw [show F.env.prof = pr from hpr]
    by_cases hp : pr = 1
    · have d1 : (pr == 1) = true := by simpa using hp
      cases hri : richI ⟨op, a, b, n, l⟩ with
      | true =>
        rw [if_pos ⟨hp, rfl⟩]
        rw [hri] at HRI
        clear hri hin HE HFo hp hpr
        go_enter Tryd.func12, Tryd.ntmps12
        go_upto_region 1 with (fail)
        rw [← HW.out]
        go_wp2_with (first | (go_at_call 25; refine HIP.out.mono ?_; rintro e w1 ⟨rfl, hb1⟩; have HB1 := Lib.hid (show Below W.heap.size W w1 from hb1); obtain ⟨j0, j1, j2, j3, j4, jp⟩ := HKX.out w1 hb1; clear hb1) | (go_at_call 26; refine (HRI.out _).mono ?_; rintro e w2 ⟨rfl, hb2⟩; have HB2 := Lib.hid (show Below W.heap.size W w2 from below_then HB1.out hb2); obtain ⟨j0, j1, j2, j3, j4, jp⟩ := HKX.out w2 HB2.out; clear hb2))
        go_ret
        exact ⟨x, (HG1.out.1.below HB2.out).1, HG1.out.2.trans (HG1.out.1.below HB2.out).2, rfl, fun hx => (by simp at hx)⟩
      | false =>
        rw [if_neg (fun hx => by cases hx.2)]
        rw [hri] at HRI
        clear hri hp hpr
        cases he : existsC F.env x.pl ⟨op, a, b, n, l⟩ with
        | false =>
          rw [if_pos rfl]
          have HEX := Lib.hid (fun w1 g1 => he ▸ HE.out hin w1 g1)
          clear HE HFo he
          go_enter Tryd.func12, Tryd.ntmps12
          go_upto_region 1 with (fail)
          rw [← HW.out]
          go_wp2_with (first | (go_at_call 25; refine HIP.out.mono ?_; rintro e w1 ⟨rfl, hb1⟩; have HB1 := Lib.hid (show Below W.heap.size W w1 from hb1); obtain ⟨j0, j1, j2, j3, j4, jp⟩ := HKX.out w1 hb1; clear hb1) | (go_at_call 26; refine (HRI.out _).mono ?_; rintro e w2 ⟨rfl, hb2⟩; have HB2 := Lib.hid (show Below W.heap.size W w2 from below_then HB1.out hb2); obtain ⟨j0, j1, j2, j3, j4, jp⟩ := HKX.out w2 HB2.out; clear hb2) | (go_at_call 27; refine (HEX.out _ (HG1.out.1.below HB2.out).1).mono ?_; rintro e w3 ⟨rfl, hb3⟩; have HB3 := Lib.hid (show Below W.heap.size W w3 from below_then HB2.out hb3); obtain ⟨j0, j1, j2, j3, j4, jp⟩ := HKX.out w3 HB3.out; clear hb3))
          go_ret
          exact ⟨x, (HG1.out.1.below HB3.out).1, HG1.out.2.trans (HG1.out.1.below HB3.out).2, rfl, fun hx => (by simp at hx)⟩
        | true =>
          rw [if_neg (by decide)]
          have HEX := Lib.hid (fun w1 g1 => he ▸ HE.out hin w1 g1)
          have HFO := Lib.hid (HFo.out hin he)
          clear HE HFo he
          cases hf : followC F.env x.pl ⟨op, a, b, n, l⟩ with
          | none =>
            rw [hf] at HFO
            clear hf
            go_enter Tryd.func12, Tryd.ntmps12
            go_upto_region 1 with (fail)
            rw [← HW.out]
            go_wp2_with (first | (go_at_call 25; refine HIP.out.mono ?_; rintro e w1 ⟨rfl, hb1⟩; have HB1 := Lib.hid (show Below W.heap.size W w1 from hb1); obtain ⟨j0, j1, j2, j3, j4, jp⟩ := HKX.out w1 hb1; clear hb1) | (go_at_call 26; refine (HRI.out _).mono ?_; rintro e w2 ⟨rfl, hb2⟩; have HB2 := Lib.hid (show Below W.heap.size W w2 from below_then HB1.out hb2); obtain ⟨j0, j1, j2, j3, j4, jp⟩ := HKX.out w2 HB2.out; clear hb2) | (go_at_call 27; refine (HEX.out _ (HG1.out.1.below HB2.out).1).mono ?_; rintro e w3 ⟨rfl, hb3⟩; have HB3 := Lib.hid (show Below W.heap.size W w3 from below_then HB2.out hb3); obtain ⟨j0, j1, j2, j3, j4, jp⟩ := HKX.out w3 HB3.out; clear hb3) | (go_at_call 28; refine (HFO.out _ (HG1.out.1.below HB3.out).1).mono ?_; rintro e w4 ⟨x4, g4, s4, rfl, hp4⟩; have HG4 := Lib.hid g4; have HS4 := Lib.hid s4; have HP4 := Lib.hid hp4; clear g4 s4 hp4))
            go_ret
            exact ⟨x4, HG4.out, (HG1.out.2.trans (HG1.out.1.below HB3.out).2).trans HS4.out, rfl, fun hx => (by simp at hx)⟩
          | some q =>
            rw [hf] at HFO
            clear hf
            go_enter Tryd.func12, Tryd.ntmps12
            go_upto_region 1 with (fail)
            rw [← HW.out]
            go_wp2_with (first | (go_at_call 25; refine HIP.out.mono ?_; rintro e w1 ⟨rfl, hb1⟩; have HB1 := Lib.hid (show Below W.heap.size W w1 from hb1); obtain ⟨j0, j1, j2, j3, j4, jp⟩ := HKX.out w1 hb1; clear hb1) | (go_at_call 26; refine (HRI.out _).mono ?_; rintro e w2 ⟨rfl, hb2⟩; have HB2 := Lib.hid (show Below W.heap.size W w2 from below_then HB1.out hb2); obtain ⟨j0, j1, j2, j3, j4, jp⟩ := HKX.out w2 HB2.out; clear hb2) | (go_at_call 27; refine (HEX.out _ (HG1.out.1.below HB2.out).1).mono ?_; rintro e w3 ⟨rfl, hb3⟩; have HB3 := Lib.hid (show Below W.heap.size W w3 from below_then HB2.out hb3); obtain ⟨j0, j1, j2, j3, j4, jp⟩ := HKX.out w3 HB3.out; clear hb3) | (go_at_call 28; refine (HFO.out _ (HG1.out.1.below HB3.out).1).mono ?_; rintro e w4 ⟨x4, g4, s4, rfl, hp4⟩; have HG4 := Lib.hid g4; have HS4 := Lib.hid s4; have HP4 := Lib.hid hp4; clear g4 s4 hp4))
            go_ret
            exact ⟨x4, HG4.out, (HG1.out.2.trans (HG1.out.1.below HB3.out).2).trans HS4.out, rfl, fun _ => HP4.out q rfl⟩
    · have d1 : (pr == 1) = false := by simpa using hp
      rw [if_neg (fun hx => hp hx.1)]
      clear hp hpr
      cases he : existsC F.env x.pl ⟨op, a, b, n, l⟩ with
      | false =>
        rw [if_pos rfl]
        have HEX := Lib.hid (fun w1 g1 => he ▸ HE.out hin w1 g1)
        clear HE HFo he
        go_enter Tryd.func12, Tryd.ntmps12
        go_upto_region 1 with (fail)
        rw [← HW.out]
        go_wp2_with (first | (go_at_call 25; refine HIP.out.mono ?_; rintro e w1 ⟨rfl, hb1⟩; have HB1 := Lib.hid (show Below W.heap.size W w1 from hb1); obtain ⟨j0, j1, j2, j3, j4, jp⟩ := HKX.out w1 hb1; clear hb1) | (go_at_call 27; refine (HEX.out _ (HG1.out.1.below HB1.out).1).mono ?_; rintro e w3 ⟨rfl, hb3⟩; have HB3 := Lib.hid (show Below W.heap.size W w3 from below_then HB1.out hb3); obtain ⟨j0, j1, j2, j3, j4, jp⟩ := HKX.out w3 HB3.out; clear hb3))
        go_ret
        exact ⟨x, (HG1.out.1.below HB3.out).1, HG1.out.2.trans (HG1.out.1.below HB3.out).2, rfl, fun hx => (by simp at hx)⟩
      | true =>
        rw [if_neg (by decide)]
        have HEX := Lib.hid (fun w1 g1 => he ▸ HE.out hin w1 g1)
        have HFO := Lib.hid (HFo.out hin he)
        clear HE HFo he
        cases hf : followC F.env x.pl ⟨op, a, b, n, l⟩ with
        | none =>
          rw [hf] at HFO
          clear hf
          go_enter Tryd.func12, Tryd.ntmps12
          go_upto_region 1 with (fail)
          rw [← HW.out]
          go_wp2_with (first | (go_at_call 25; refine HIP.out.mono ?_; rintro e w1 ⟨rfl, hb1⟩; have HB1 := Lib.hid (show Below W.heap.size W w1 from hb1); obtain ⟨j0, j1, j2, j3, j4, jp⟩ := HKX.out w1 hb1; clear hb1) | (go_at_call 27; refine (HEX.out _ (HG1.out.1.below HB1.out).1).mono ?_; rintro e w3 ⟨rfl, hb3⟩; have HB3 := Lib.hid (show Below W.heap.size W w3 from below_then HB1.out hb3); obtain ⟨j0, j1, j2, j3, j4, jp⟩ := HKX.out w3 HB3.out; clear hb3) | (go_at_call 28; refine (HFO.out _ (HG1.out.1.below HB3.out).1).mono ?_; rintro e w4 ⟨x4, g4, s4, rfl, hp4⟩; have HG4 := Lib.hid g4; have HS4 := Lib.hid s4; have HP4 := Lib.hid hp4; clear g4 s4 hp4))
          go_ret
          exact ⟨x4, HG4.out, (HG1.out.2.trans (HG1.out.1.below HB3.out).2).trans HS4.out, rfl, fun hx => (by simp at hx)⟩
        | some q =>
          rw [hf] at HFO
          clear hf
          go_enter Tryd.func12, Tryd.ntmps12
          go_upto_region 1 with (fail)
          rw [← HW.out]
          go_wp2_with (first | (go_at_call 25; refine HIP.out.mono ?_; rintro e w1 ⟨rfl, hb1⟩; have HB1 := Lib.hid (show Below W.heap.size W w1 from hb1); obtain ⟨j0, j1, j2, j3, j4, jp⟩ := HKX.out w1 hb1; clear hb1) | (go_at_call 27; refine (HEX.out _ (HG1.out.1.below HB1.out).1).mono ?_; rintro e w3 ⟨rfl, hb3⟩; have HB3 := Lib.hid (show Below W.heap.size W w3 from below_then HB1.out hb3); obtain ⟨j0, j1, j2, j3, j4, jp⟩ := HKX.out w3 HB3.out; clear hb3) | (go_at_call 28; refine (HFO.out _ (HG1.out.1.below HB3.out).1).mono ?_; rintro e w4 ⟨x4, g4, s4, rfl, hp4⟩; have HG4 := Lib.hid g4; have HS4 := Lib.hid s4; have HP4 := Lib.hid hp4; clear g4 s4 hp4))
          go_ret
          exact ⟨x4, HG4.out, (HG1.out.2.trans (HG1.out.1.below HB3.out).2).trans HS4.out, rfl, fun _ => HP4.out q rfl⟩
end
section
open Go.RowKit
def spCells (s : Sp) : List Value := [.int .i64 s.1, .int .i64 s.2.1, .int .i64 s.2.2]
def flatS (l : List Sp) : List Value := l.flatMap spCells
theorem flatS_snoc (l : List Sp) (x : Sp) : flatS (l ++ [x]) = flatS l ++ spCells x := by simp [flatS]
theorem flatS_cons (x : Sp) (l : List Sp) : flatS (x :: l) = spCells x ++ flatS l := by simp [flatS]
theorem spAt_cons (x : Sp) (l : List Sp) (k : Nat) : spAt (x :: l) (k + 1) = spAt l k := rfl
theorem flatS_at (l : List Sp) : ∀ k, k < l.length → (flatS l)[k * 3]? = some (.int .i64 (spAt l k).1) ∧ (flatS l)[k * 3 + 1]? = some (.int .i64 (spAt l k).2.1) ∧ (flatS l)[k * 3 + 2]? = some (.int .i64 (spAt l k).2.2) := by
  induction l with
  | nil => intro k h; simp at h
  | cons x l ih =>
    intro k h
    rw [flatS_cons]
    cases k with
    | zero => exact ⟨rfl, rfl, rfl⟩
    | succ k =>
      have h3 : (spCells x).length = 3 := rfl
      rw [List.getElem?_append_right (by rw [h3]; omega), List.getElem?_append_right (by rw [h3]; omega), List.getElem?_append_right (by rw [h3]; omega), h3, show (k + 1) * 3 - 3 = k * 3 by omega, show (k + 1) * 3 + 1 - 3 = k * 3 + 1 by omega, show (k + 1) * 3 + 2 - 3 = k * 3 + 2 by omega]
      exact ih k (by simp at h; omega)
theorem flatS_set (l : List Sp) : ∀ (k : Nat) (e z : Int), k < l.length → flatS (l.set k ((spAt l k).1, e, (spAt l k).2.2)) = (flatS l).set (k * 3 + 1) (.int .i64 e) ∧ flatS (l.set k ((spAt l k).1, (spAt l k).2.1, z)) = (flatS l).set (k * 3 + 2) (.int .i64 z) := by
  induction l with
  | nil => intro k e z h; simp at h
  | cons x l ih =>
    intro k e z h
    cases k with
    | zero => simp only [List.set_cons_zero, flatS_cons]; exact ⟨rfl, rfl⟩
    | succ k =>
      have h3 : (spCells x).length = 3 := rfl
      obtain ⟨h1, h2⟩ := ih k e z (by simp at h; omega)
      simp only [List.set_cons_succ, flatS_cons, spAt_cons, h1, h2]
      rw [List.set_append_right _ _ (by rw [h3]; omega), List.set_append_right _ _ (by rw [h3]; omega), h3, show (k + 1) * 3 + 1 - 3 = k * 3 + 1 by omega, show (k + 1) * 3 + 2 - 3 = k * 3 + 2 by omega]
      exact ⟨rfl, rfl⟩
def CodeAt (w : World) (A : Option Addr) (m : Nat) (ops : List Int) : Prop :=
  0 < m → ∃ g o : Nat, A = some ⟨g, o, none⟩ ∧ g < w.heap.size ∧ ∀ j, j < m → ∃ (u1 u2 u3 : Int) (Al : Option Addr) (nl cl : Nat), w.cell? ⟨g, o + j * 5, none⟩ = some (.int .i64 (ops.getD j 0)) ∧ w.cell? ⟨g, o + j * 5 + 1, none⟩ = some (.int .i64 u1) ∧ w.cell? ⟨g, o + j * 5 + 2, none⟩ = some (.int .i64 u2) ∧ w.cell? ⟨g, o + j * 5 + 3, none⟩ = some (.int .u64 u3) ∧ w.cell? ⟨g, o + j * 5 + 4, none⟩ = some (.slice Al nl cl)
theorem CodeAt.below {w w' : World} {A : Option Addr} {m : Nat} {ops : List Int} (h : CodeAt w A m ops) (hb : Below w.heap.size w w') : CodeAt w' A m ops := fun hm => by
  obtain ⟨g, o, e, hg, hc⟩ := h hm
  refine ⟨g, o, e, Nat.lt_of_lt_of_le hg hb.size, fun j hj => ?_⟩
  obtain ⟨u1, u2, u3, Al, nl, cl, h0, h1, h2, h3, h4⟩ := hc j hj
  exact ⟨u1, u2, u3, Al, nl, cl, (hb.cell (p := ⟨g, o + j * 5, none⟩) hg).trans h0, (hb.cell (p := ⟨g, o + j * 5 + 1, none⟩) hg).trans h1, (hb.cell (p := ⟨g, o + j * 5 + 2, none⟩) hg).trans h2, (hb.cell (p := ⟨g, o + j * 5 + 3, none⟩) hg).trans h3, (hb.cell (p := ⟨g, o + j * 5 + 4, none⟩) hg).trans h4⟩
theorem CodeAt.less {w : World} {A : Option Addr} {m k : Nat} {ops : List Int} (h : CodeAt w A m ops) (hk : k ≤ m) : CodeAt w A k ops := fun h0 => by
  obtain ⟨g, o, e, hg, hc⟩ := h (by omega)
  exact ⟨g, o, e, hg, fun j hj => hc j (by omega)⟩
section
variable {ops : List Int} {z : Int} {i : Nat} {s : MSt}
theorem mstep_open (h : opensB (ops.getD i 0) = true) : mstep ops z i s = some ⟨s.out ++ [((i : Int), -1, z)], s.op ++ [s.out.length], max s.deep (s.op.length + 1)⟩ := by
  unfold mstep; rw [if_pos (of_decide_eq_true h)]
theorem mstep_none {i : Nat} (h : (ops.getD i 0 = 5 ∨ ops.getD i 0 = 11) ∧ s.op = []) : mstep ops z i s = none := by
  unfold mstep; rw [if_neg (by omega), h.2]
  rcases h.1 with h | h
  · rw [if_pos h]; rfl
  · rw [if_neg (by omega), if_pos h]; rfl
theorem mstep_bad {k : Nat} {t : List Nat} (h5 : ops.getD i 0 = 5) (ho : s.op = t ++ [k]) (hb : decide (ops.getD (spAt s.out k).1.toNat 0 = 4 ∧ (spAt s.out k).2.1 = -1) = false) : mstep ops z i s = none := by
  unfold mstep; rw [if_neg (by omega), if_pos h5, ho, List.getLast?_concat]; simp only; rw [if_neg (of_decide_eq_false hb)]
theorem mstep_else {k : Nat} {t : List Nat} (h5 : ops.getD i 0 = 5) (ho : s.op = t ++ [k]) (hb : decide (ops.getD (spAt s.out k).1.toNat 0 = 4 ∧ (spAt s.out k).2.1 = -1) = true) : mstep ops z i s = some ⟨s.out.set k ((spAt s.out k).1, (i : Int), (spAt s.out k).2.2), s.op, s.deep⟩ := by
  unfold mstep; rw [if_neg (by omega), if_pos h5]
  have e : s.op.getLast? = some k := by rw [ho, List.getLast?_concat]
  rw [e]; simp only; rw [if_pos (of_decide_eq_true hb)]
theorem mstep_end {k : Nat} {t : List Nat} (h11 : ops.getD i 0 = 11) (ho : s.op = t ++ [k]) : mstep ops z i s = some ⟨s.out.set k ((spAt s.out k).1, (spAt s.out k).2.1, (i : Int)), t, s.deep⟩ := by
  unfold mstep; rw [if_neg (by omega), if_neg (by omega), if_pos h11, ho, List.getLast?_concat]; simp
theorem mstep_other (h1 : opensB (ops.getD i 0) = false) (h2 : ops.getD i 0 ≠ 5) (h3 : ops.getD i 0 ≠ 11) : mstep ops z i s = some s := by
  unfold mstep; rw [if_neg (of_decide_eq_false h1), if_neg h2, if_neg h3]
end
theorem mrun_succ {ops : List Int} {z : Int} {i : Nat} {s : MSt} (h : mrun ops z i = some s) : mrun ops z (i + 1) = mstep ops z i s := by
  show (mrun ops z i).bind _ = _; rw [h]; rfl
theorem list_end {l : List Nat} (h : 0 < l.length) : ∃ t k, l = t ++ [k] ∧ l.length = t.length + 1 := by
  rcases List.eq_nil_or_concat l with rfl | ⟨t, x, rfl⟩
  · simp at h
  · exact ⟨t, x, by simp, by simp⟩
set_option maxRecDepth 10000 in
theorem divides_any (w : World) (A : Option Addr) (m c : Nat) (ops : List Int) (hc : CodeAt w A m ops) (a : Nat) (ha : a < m) (hm : m ≤ 1000000) (e z : Int) :
    Calls Tryd.prog 81 #[.slice A m c, .agg #[.int .i64 (a : Int), .int .i64 e, .int .i64 z]] w (BoolPost (decide (ops.getD a 0 = 4 ∧ e = -1)) w) := by
  obtain ⟨g, o, rfl, hg, hcell⟩ := hc (by omega)
  obtain ⟨_, _, _, _, _, _, h0, _⟩ := hcell a ha
  have k0 : (w.alloc (.cells #[.int .i64 (a : Int), .int .i64 e, .int .i64 z] 127)).cell? ⟨g, o + a * 5, none⟩ = some (.int .i64 (ops.getD a 0)) := by rw [World.cell?_alloc_lt _ _ _ (by exact hg)]; exact h0
  clear hcell h0 hc
  generalize ops.getD a 0 = op at k0 ⊢
  by_cases h4 : op = 4
  · have d4 : (op == 4) = true := by simpa using h4
    by_cases he : e = -1
    · have de : (e == -1) = true := by simpa using he
      rw [show decide (op = 4 ∧ e = -1) = true from decide_eq_true ⟨h4, he⟩]
      clear h4 he
      go_enter Tryd.func81, Tryd.ntmps81
      go_wp2
      go_ret
      exact ⟨rfl, (Below.refl _ _).alloc (Nat.le_refl _) _⟩
    · have de : (e == -1) = false := by simpa using he
      rw [show decide (op = 4 ∧ e = -1) = false from decide_eq_false (fun h => he h.2)]
      clear h4 he
      go_enter Tryd.func81, Tryd.ntmps81
      go_wp2
      go_ret
      exact ⟨rfl, (Below.refl _ _).alloc (Nat.le_refl _) _⟩
  · have d4 : (op == 4) = false := by simpa using h4
    rw [show decide (op = 4 ∧ e = -1) = false from decide_eq_false (fun h => h4 h.1)]
    clear h4
    go_enter Tryd.func81, Tryd.ntmps81
    go_wp2
    go_ret
    exact ⟨rfl, (Below.refl _ _).alloc (Nat.le_refl _) _⟩
end
section
open Go.RowKit
theorem CodeK.code {w : World} {v : Value} {c : List Ins} (h : CodeK (fun k => k < w.heap.size) w v c) : ∃ A cap, v = .slice A c.length cap ∧ c.length ≤ cap ∧ CodeAt w A c.length (c.map Ins.op) := by
  obtain ⟨A, cap, rfl, h1, _, _, h3⟩ := h
  refine ⟨A, cap, rfl, h1, fun hm => ?_⟩
  obtain ⟨g, o, rfl, hg, hc⟩ := h3 hm
  refine ⟨g, o, rfl, hg, fun j hj => ?_⟩
  have hop : (c.map Ins.op).getD j 0 = (c.getD j ins0).op := by
    rw [List.getD_eq_getElem?_getD, List.getD_eq_getElem?_getD, List.getElem?_map, List.getElem?_eq_getElem hj]; rfl
  obtain ⟨u0, k0, rfl⟩ := hc j 0 hj (by omega)
  obtain ⟨u1, k1, rfl⟩ := hc j 1 hj (by omega)
  obtain ⟨u2, k2, rfl⟩ := hc j 2 hj (by omega)
  obtain ⟨u3, k3, rfl, _⟩ := hc j 3 hj (by omega)
  obtain ⟨u4, k4, h4⟩ := hc j 4 hj (by omega)
  obtain ⟨Al, cl, rfl, _⟩ := IntsK.form h4.1
  rw [hop]
  exact ⟨_, _, _, Al, _, cl, k0, k1, k2, k3, k4⟩
theorem FunsK.at_ {w : World} {g o m c : Nat} {l : List Fnc} (h : FunsK (fun k => k < w.heap.size) w (.slice (some ⟨g, o, none⟩) m c) l) (j : Nat) (hj : j < l.length) :
    ∃ (Al : Option Addr) (nl cl : Nat) (Ac : Option Addr) (cc : Nat), w.cell? ⟨g, o + j * 3, none⟩ = some (.int .i64 (l.getD j fnc0).ty) ∧ w.cell? ⟨g, o + j * 3 + 1, none⟩ = some (.slice Al nl cl) ∧ w.cell? ⟨g, o + j * 3 + 2, none⟩ = some (.slice Ac (l.getD j fnc0).code.length cc) ∧ (l.getD j fnc0).code.length ≤ cc ∧ CodeAt w Ac (l.getD j fnc0).code.length ((l.getD j fnc0).code.map Ins.op) := by
  obtain ⟨u0, k0, rfl⟩ := CellsK.at_ h j 0 hj (by omega)
  obtain ⟨u1, k1, h1⟩ := CellsK.at_ h j 1 hj (by omega)
  obtain ⟨u2, k2, h2⟩ := CellsK.at_ h j 2 hj (by omega)
  obtain ⟨Al, cl, rfl, _⟩ := IntsK.form h1
  obtain ⟨Ac, cc, rfl, hcc, hcd⟩ := CodeK.code h2
  exact ⟨Al, _, cl, Ac, cc, k0, k1, k2, hcc, hcd⟩
open Go.ChangeShapes Go.WideShapes
end
end Go.Proofs.YteohmkceapblkaaDoor
