/- A part of the proof. -/
import Derived.Test.YteohmkceapblkaaDoorJ13
import Derived.Test.YteohmkceapblkaaDoorJ16
namespace Go.Proofs.YteohmkceapblkaaDoor
section
open Go.RowKit
theorem cwithin_any (n : Int) (l : Nat) (w : World) : Calls Tryd.prog 21 #[.int .i64 n, .int .i64 (l : Int)] w fun e w' => e = .returned (.bool (withinB n l)) ∧ w = w' := by
  unfold withinB
  by_cases h1 : 0 ≤ n
  · have d1 : decide ((0 : Int) ≤ n) = true := decide_eq_true h1
    cases h2 : decide (n < (l : Int)) <;>
    · rw [d1]
      go_enter Tryd.func21, Tryd.ntmps21
      go_wp2
      go_ret
      exact ⟨rfl, rfl⟩
  · have d1 : decide ((0 : Int) ≤ n) = false := decide_eq_false h1
    rw [d1]
    go_enter Tryd.func21, Tryd.ntmps21
    go_wp2
    go_ret
    exact ⟨rfl, rfl⟩
set_option maxRecDepth 100000 in
set_option maxHeartbeats 1000000 in
theorem richI_any (x : Ins) (Lv : Value) (hL : ∃ A n c, Lv = .slice A n c) (w : World) : Calls Tryd.prog 26 #[.agg #[.int .i64 x.op, .int .i64 x.a, .int .i64 x.b, .int .u64 x.n, Lv]] w (BoolPost (richI x) w) := by
  obtain ⟨A, nl, c, rfl⟩ := hL
  obtain ⟨op, a, b, n, l⟩ := x
  unfold richI
  simp only
  obtain ⟨W, hW⟩ : ∃ W, W = w.alloc (.cells #[.int .i64 op, .int .i64 a, .int .i64 b, .int .u64 n, .slice A nl c] 30) := ⟨_, rfl⟩
  have hb : Below w.heap.size w W := hW ▸ (Below.refl _ _).alloc (Nat.le_refl _) _
  have hc : ∀ j : Nat, W.cell? ⟨w.heap.size, j, none⟩ = (#[.int .i64 op, .int .i64 a, .int .i64 b, .int .u64 n, .slice A nl c] : Array Value)[j]? := fun j => by rw [hW, World.cell?_alloc_new]
  have HB := Lib.hid hb
  have HC : Hid (∀ wz, Below W.heap.size W wz → wz.cell? ⟨w.heap.size, 0, none⟩ = some (.int .i64 op) ∧ wz.cell? ⟨w.heap.size, 1, none⟩ = some (.int .i64 a)) := Lib.hid fun wz hz =>
    ⟨(hz.cell (World.block_lt_of_cell? W _ (hc 0))).trans (hc 0), (hz.cell (World.block_lt_of_cell? W _ (hc 1))).trans (hc 1)⟩
  have HR := Lib.hid (fun w => rich_any op w)
  have HO := Lib.hid (fun w => opens_any op w)
  have HW := Lib.hid hW
  obtain ⟨k0, k1⟩ := HC.out W (Below.refl _ _)
  clear hb hc hW
  cases h1 : richB op with
  | true =>
    rw [h1] at HR
    clear h1
    go_enter Tryd.func26, Tryd.ntmps26
    go_upto_region 1 with (fail)
    rw [← HW.out]
    go_wp2_with (go_at_call 46; refine (HR.out _).mono ?_; rintro e w1 ⟨rfl, hb1⟩; have HB1 := Lib.hid hb1; obtain ⟨j0, j1⟩ := HC.out w1 hb1; clear hb1)
    go_ret
    exact ⟨rfl, below_then HB.out HB1.out⟩
  | false =>
    rw [h1] at HR
    clear h1
    cases h2 : opensB op with
    | false =>
      rw [h2] at HO
      clear h2
      go_enter Tryd.func26, Tryd.ntmps26
      go_upto_region 1 with (fail)
      rw [← HW.out]
      go_wp2_with (first | (go_at_call 46; refine (HR.out _).mono ?_; rintro e w1 ⟨rfl, hb1⟩; have HB1 := Lib.hid hb1; obtain ⟨j0, j1⟩ := HC.out w1 hb1; clear hb1) | (go_at_call 47; refine (HO.out _).mono ?_; rintro e w2 ⟨rfl, rfl⟩))
      go_ret
      exact ⟨rfl, below_then HB.out HB1.out⟩
    | true =>
      rw [h2] at HO
      clear h2
      cases h3 : decide ((0 : Int) ≤ a) <;>
      · go_enter Tryd.func26, Tryd.ntmps26
        go_upto_region 1 with (fail)
        rw [← HW.out]
        go_wp2_with (first | (go_at_call 46; refine (HR.out _).mono ?_; rintro e w1 ⟨rfl, hb1⟩; have HB1 := Lib.hid hb1; obtain ⟨j0, j1⟩ := HC.out w1 hb1; clear hb1) | (go_at_call 47; refine (HO.out _).mono ?_; rintro e w2 ⟨rfl, rfl⟩))
        go_ret
        exact ⟨rfl, below_then HB.out HB1.out⟩
def Ws.pl (x : Ws) : Pl := ⟨x.s, x.f.map Fv.fr⟩
theorem ended_any {F : Wx} {w : World} {x : Ws} (hF : F.prg) (h : Wk F w x) : Calls Tryd.prog 13 #[.pointer (some ⟨F.G, 0, none⟩)] w (fun e w' => e = .returned (.bool (x.f.length == 0)) ∧ w = w') := by
  obtain ⟨Af, cf, hfv⟩ := owns_slice h.fo
  have p1 := h.p1 hF
  rw [hfv] at p1
  clear h hfv
  generalize x.f.length = k at *
  by_cases h0 : k = 0
  · subst h0
    go_enter Tryd.func13, Tryd.ntmps13
    go_wp2
    go_ret
    exact ⟨rfl, rfl⟩
  · have hk : ((k : Int) == 0) = false := by simp; omega
    have hk2 : (k == 0) = false := by simp; omega
    rw [hk2]
    clear h0 hk2
    go_enter Tryd.func13, Tryd.ntmps13
    go_wp2
    go_ret
    exact ⟨rfl, rfl⟩
set_option maxRecDepth 100000 in
set_option maxHeartbeats 1000000 in
theorem inPlace_any {F : Wx} {w : World} {x : Ws} (hF : F.prg) (h : Wk F w x) (op : Int) : Calls Tryd.prog 25 #[.pointer (some ⟨F.G, 0, none⟩), .int .i64 op] w (BoolPost (inPlaceC x.pl op) w) := by
  have HEN : Hid (∀ w9 : World, w = w9 → Calls Tryd.prog 13 #[.pointer (some ⟨F.G, 0, none⟩)] w9 (fun e w' => e = .returned (.bool (x.f.length == 0)) ∧ w9 = w')) := Lib.hid fun w9 e9 => e9 ▸ ended_any hF h
  unfold inPlaceC Ws.pl
  simp only [List.length_map]
  rw [← Ws.top_fr]
  by_cases h0 : x.f.length = 0
  · obtain ⟨Af, cf, hfv⟩ := owns_slice h.fo
    have p1 := h.p1 hF
    rw [hfv, h0] at p1
    rw [if_pos h0]
    clear h hfv
    go_enter Tryd.func25, Tryd.ntmps25
    rw [h0] at HEN
    go_wp2_with (go_at_call 13; refine (HEN.out _ rfl).mono ?_; rintro e w0 ⟨rfl, rfl⟩)
    go_ret
    exact ⟨rfl, Below.refl _ _⟩
  · rw [if_neg h0]
    obtain ⟨g, A, c, cf, hc, hsv, hfv⟩ := h.cel hF (by omega)
    obtain ⟨g', cf', he, _, _, _, _, t0, _⟩ := h.tcell (by omega)
    rw [hfv] at he
    simp only [Value.slice.injEq, Option.some.injEq, Addr.mk.injEq] at he
    obtain ⟨⟨rfl, -⟩, -, rfl⟩ := he
    have HC := Lib.hid hc
    have p1 := hc.p1
    have HT := Lib.hid (fun j => top_at (w.drewN j) F.G g x.f.length cf hc.p1 hc.k0 hc.k1 hc.k2)
    have HK := Lib.hid (fun w => known_any op w)
    obtain ⟨k, hk⟩ : ∃ k, x.f.length = k := ⟨_, rfl⟩
    rw [hk] at p1 HT h0 t0 HEN
    rw [show (k == 0) = false by simp; omega] at HEN
    have hk0 : ((k : Int) == 0) = false := by simp; omega
    rw [show x.top.fr.op = x.top.op from rfl]
    generalize x.top.op = o at t0 ⊢
    clear h hc hsv hfv HC
    by_cases h5 : op = 5
    · subst h5
      rw [if_pos rfl]
      by_cases h4 : o = 4
      · have d4 : (o == 4) = true := by simpa using h4
        rw [decide_eq_true h4]
        go_enter Tryd.func25, Tryd.ntmps25
        go_wp2_with (first | (go_at_call 13; refine (HEN.out _ rfl).mono ?_; rintro e w0 ⟨rfl, rfl⟩) | (go_at_call 44; refine (HT.out 0).mono ?_; rintro e w1 ⟨rfl, mm, rfl⟩))
        go_ret
        exact ⟨rfl, below_drewN (Below.refl _ _) _⟩
      · have d4 : (o == 4) = false := by simpa using h4
        rw [decide_eq_false h4]
        go_enter Tryd.func25, Tryd.ntmps25
        go_wp2_with (first | (go_at_call 13; refine (HEN.out _ rfl).mono ?_; rintro e w0 ⟨rfl, rfl⟩) | (go_at_call 44; refine (HT.out 0).mono ?_; rintro e w1 ⟨rfl, mm, rfl⟩))
        go_ret
        exact ⟨rfl, below_drewN (Below.refl _ _) _⟩
    · rw [if_neg h5]
      have d5 : (op == 5) = false := by simpa using h5
      generalize knownB op = kb at HK ⊢
      go_enter Tryd.func25, Tryd.ntmps25
      go_wp2_with (first | (go_at_call 13; refine (HEN.out _ rfl).mono ?_; rintro e w0 ⟨rfl, rfl⟩) | (go_at_call 45; refine (HK.out _).mono ?_; rintro e w1 ⟨rfl, hb⟩; have HB := Lib.hid hb; clear hb))
      go_ret
      exact ⟨rfl, HB.out⟩
def FixPost (q : List Int × List Int) (w : World) (e : Ending) (w' : World) : Prop :=
  ∃ p r : Value, e = .returned (.tuple #[p, r]) ∧ IntsK (fun k => w.heap.size ≤ k ∧ k < w'.heap.size) w' p q.1 ∧ IntsK (fun k => w.heap.size ≤ k ∧ k < w'.heap.size) w' r q.2 ∧ Below w.heap.size w w'
theorem RowOf.ints {w w' : World} {v : Value} {l : List Int} (h : RowOf w' v l) (hn : ∀ a k c, v = .slice (some a) k c → w.heap.size ≤ a.block) : IntsK (fun k => w.heap.size ≤ k ∧ k < w'.heap.size) w' v l := by
  rcases h with ⟨rfl, rfl⟩ | ⟨g, cap, rfl, h2, h3, h4, h5⟩
  · exact .nil _ _
  · exact ⟨_, cap, rfl, by unfold maxLen; omega, (fun e => by cases e), fun _ => ⟨g, 0, rfl, ⟨hn _ _ _ rfl, h2⟩, fun j hj => by rw [Nat.zero_add]; exact h5 j hj⟩⟩
theorem ints_new1 (w : World) {W : World} (hb : Below w.heap.size w W) (a : Int) : IntsK (fun k => w.heap.size ≤ k ∧ k < (W.alloc (.cells #[.int .i64 a] 3)).heap.size) (W.alloc (.cells #[.int .i64 a] 3)) (.slice (some ⟨W.heap.size, 0, none⟩) 1 1) [a] :=
  ⟨_, 1, rfl, by unfold maxLen; simp, (fun e => by cases e), fun _ => ⟨W.heap.size, 0, rfl, ⟨hb.size, by rw [alloc_size]; omega⟩, fun j hj => by
    obtain rfl : j = 0 := by simp at hj; omega
    rw [World.cell?_alloc_new]; rfl⟩⟩
theorem ints_new2 (w : World) {W : World} (hb : Below w.heap.size w W) (a b : Int) : IntsK (fun k => w.heap.size ≤ k ∧ k < (W.alloc (.cells #[.int .i64 a, .int .i64 b] 3)).heap.size) (W.alloc (.cells #[.int .i64 a, .int .i64 b] 3)) (.slice (some ⟨W.heap.size, 0, none⟩) 2 2) [a, b] :=
  ⟨_, 2, rfl, by unfold maxLen; simp, (fun e => by cases e), fun _ => ⟨W.heap.size, 0, rfl, ⟨hb.size, by rw [alloc_size]; omega⟩, fun j hj => by
    have hj2 : j < 2 := hj
    rw [World.cell?_alloc_new]
    match j, hj2 with
    | 0, _ => rfl
    | 1, _ => rfl⟩⟩
end
section
open Go.RowKit
set_option maxRecDepth 100000 in
set_option maxHeartbeats 2000000 in
theorem fixed_any (op : Int) (w : World) : Calls Tryd.prog 78 #[.int .i64 op] w (FixPost (fixedC op) w) := by
  have HC := Lib.hid (fun w => const_any op w)
  have HN := Lib.hid (fun w => nnum_any op w)
  have HA := Lib.hid (fun w => access_any op w)
  unfold fixedC
  by_cases h1 : constB op ≠ 0
  · rw [if_pos h1]
    have d1 : (constB op != 0) = true := by simpa using h1
    rw [d1] at HC
    clear d1 h1
    generalize constB op = t at HC ⊢
    go_enter Tryd.func78, Tryd.ntmps78
    go_wp2_with (go_at_call 73; refine (HC.out _).mono ?_; rintro e w1 ⟨rfl, rfl⟩)
    go_ret2
    exact ⟨_, _, rfl, .nil _ _, ints_new1 _ (Below.refl _ _) _, (Below.refl _ _).alloc (Nat.le_refl _) _⟩
  · rw [if_neg h1]
    have d1 : (constB op != 0) = false := by simpa using h1
    rw [d1] at HC
    clear d1 h1
    generalize constB op = t0 at HC
    cases h2 : numB op with
    | true =>
      rw [if_pos rfl]
      have HNN : Hid (∀ w, Calls Tryd.prog 86 #[.int .i64 op] w fun e w' => ∃ (Ap : Option Addr) (np cp : Nat) (Aq : Option Addr) (nq cq : Nat), e = .returned (.tuple #[.agg #[.slice Ap np cp, .slice Aq nq cq], .bool true]) ∧ IntsK (fun k => w.heap.size ≤ k ∧ k < w'.heap.size) w' (.slice Ap np cp) (paramsB op) ∧ IntsK (fun k => w.heap.size ≤ k ∧ k < w'.heap.size) w' (.slice Aq nq cq) (resultsB op) ∧ Below w.heap.size w w') := Lib.hid fun w => (HN.out w).mono fun e w' h => by
        obtain ⟨p, q, rfl, hp, hq, np, nq, hb⟩ := h
        obtain ⟨Ap, n1, cp, rfl⟩ := hp.slice
        obtain ⟨Aq, n2, cq, rfl⟩ := hq.slice
        exact ⟨Ap, n1, cp, Aq, n2, cq, by rw [h2], hp.ints np, hq.ints nq, hb⟩
      clear HN h2
      go_enter Tryd.func78, Tryd.ntmps78
      go_upto_region 6 with (first | (go_at_call 73; refine (HC.out _).mono ?_; rintro e w1 ⟨rfl, rfl⟩) | (go_at_call 86; refine (HNN.out _).mono ?_; rintro e w2 ⟨Ap, np, cp, Aq, n2, cq, rfl, hp, hq, hb⟩; have HP := Lib.hid hp; have HQ := Lib.hid hq; have HB := Lib.hid hb; clear hp hq hb))
      go_quiet (fail)
      go_wp2
      go_ret2
      have hb3 : ∀ (o : Obj) (n : Nat), Below w2.heap.size w2 ((w2.alloc o).drewN n) := fun o n => below_drewN ((Below.refl _ _).alloc (Nat.le_refl _) o) n
      exact ⟨_, _, rfl, HP.out.keep (Keeps.below (hb3 _ _) fun k hk => hk.2) fun k hk => ⟨hk.1, Nat.lt_of_lt_of_le hk.2 (hb3 _ _).size⟩, HQ.out.keep (Keeps.below (hb3 _ _) fun k hk => hk.2) fun k hk => ⟨hk.1, Nat.lt_of_lt_of_le hk.2 (hb3 _ _).size⟩, below_then HB.out (hb3 _ _)⟩
    | false =>
      rw [if_neg (by decide)]
      have HNN : Hid (∀ w, Calls Tryd.prog 86 #[.int .i64 op] w fun e w' => ∃ (Ap : Option Addr) (np cp : Nat) (Aq : Option Addr) (nq cq : Nat), e = .returned (.tuple #[.agg #[.slice Ap np cp, .slice Aq nq cq], .bool false]) ∧ Below w.heap.size w w') := Lib.hid fun w => (HN.out w).mono fun e w' h => by
        obtain ⟨p, q, rfl, hp, hq, np, nq, hb⟩ := h
        obtain ⟨Ap, n1, cp, rfl⟩ := hp.slice
        obtain ⟨Aq, n2, cq, rfl⟩ := hq.slice
        exact ⟨Ap, n1, cp, Aq, n2, cq, by rw [h2], hb⟩
      clear HN h2
      obtain ⟨⟨a1, a2, a3, a4⟩, ha⟩ : ∃ q, accB op = q := ⟨_, rfl⟩
      rw [ha] at HA ⊢
      unfold AccPost at HA
      simp only at HA ⊢
      clear ha
      cases a4 with
      | false =>
        rw [if_neg (by decide)]
        go_enter Tryd.func78, Tryd.ntmps78
        go_wp2_with (first | (go_at_call 73; refine (HC.out _).mono ?_; rintro e w1 ⟨rfl, rfl⟩) | (go_at_call 86; refine (HNN.out _).mono ?_; rintro e w2 ⟨Ap, np, cp, Aq, n2, cq, rfl, hb⟩; have HB := Lib.hid hb; clear hb) | (go_at_call 50; refine (HA.out _).mono ?_; rintro e w3 ⟨rfl, hb⟩; have HB3 := Lib.hid hb; clear hb))
        go_ret2
        have hb3 := below_then HB.out (((Below.refl _ _).alloc (Nat.le_refl _) _).trans (HB3.out.mono (by rw [alloc_size]; omega)))
        exact ⟨_, _, rfl, .nil _ _, .nil _ _, hb3⟩
      | true =>
        rw [if_pos rfl]
        by_cases h54 : 54 ≤ op
        · rw [if_pos h54]
          have d54 : decide ((54 : Int) ≤ op) = true := decide_eq_true h54
          clear h54
          go_enter Tryd.func78, Tryd.ntmps78
          go_wp2_with (first | (go_at_call 73; refine (HC.out _).mono ?_; rintro e w1 ⟨rfl, rfl⟩) | (go_at_call 86; refine (HNN.out _).mono ?_; rintro e w2 ⟨Ap, np, cp, Aq, n2, cq, rfl, hb⟩; have HB := Lib.hid hb; clear hb) | (go_at_call 50; refine (HA.out _).mono ?_; rintro e w3 ⟨rfl, hb⟩; have HB3 := Lib.hid hb; clear hb))
          go_ret2
          have hb3 := below_then HB.out (((Below.refl _ _).alloc (Nat.le_refl _) _).trans (HB3.out.mono (by rw [alloc_size]; omega)))
          exact ⟨_, _, rfl, ints_new2 _ hb3 _ _, .nil _ _, hb3.alloc hb3.size _⟩
        · rw [if_neg h54]
          have d54 : decide ((54 : Int) ≤ op) = false := decide_eq_false h54
          clear h54
          go_enter Tryd.func78, Tryd.ntmps78
          go_wp2_with (first | (go_at_call 73; refine (HC.out _).mono ?_; rintro e w1 ⟨rfl, rfl⟩) | (go_at_call 86; refine (HNN.out _).mono ?_; rintro e w2 ⟨Ap, np, cp, Aq, n2, cq, rfl, hb⟩; have HB := Lib.hid hb; clear hb) | (go_at_call 50; refine (HA.out _).mono ?_; rintro e w3 ⟨rfl, hb⟩; have HB3 := Lib.hid hb; clear hb))
          go_ret2
          have hb3 := below_then HB.out (((Below.refl _ _).alloc (Nat.le_refl _) _).trans (HB3.out.mono (by rw [alloc_size]; omega)))
          have hb4 := hb3.alloc hb3.size (.cells #[.int .i64 127] 3)
          have h1 := ints_new1 w hb3 127
          refine ⟨_, _, rfl, h1.keep (Keeps.below ((Below.refl _ _).alloc (Nat.le_refl _) _) fun k hk => hk.2) fun k hk => ⟨hk.1, by rw [alloc_size]; have := hk.2; omega⟩, ?_, hb4.alloc hb4.size _⟩
          have h2 := ints_new1 w hb4 a2
          rw [show (w3.alloc (.cells #[.int .i64 127] 3)).heap.size = w3.heap.size + 1 from alloc_size _ _] at h2
          exact h2
end
end Go.Proofs.YteohmkceapblkaaDoor
