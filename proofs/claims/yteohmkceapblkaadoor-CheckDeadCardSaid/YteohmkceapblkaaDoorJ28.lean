/- A part of the proof. -/
import Derived.Test.YteohmkceapblkaaDoorJ27
namespace Go.Proofs.YteohmkceapblkaaDoor
section
open Go.RowKit
theorem range_getD (n j d : Nat) (h : j < n) : (List.range n).getD j d = j := by
  rw [List.getD_eq_getElem?_getD, List.getElem?_range h]; rfl
theorem fsig_some {m : Mdl} (h : typesC m = true) {f : Nat} (hf : f < m.funs.length) : ∃ t, fsigB m ((m.imps.length : Int) + (f : Int)) = some t := by
  unfold typesC at h
  rw [Bool.and_eq_true] at h
  have h1 : withinB (m.funs.getD f fnc0).ty m.types.length = true := List.all_eq_true.1 h.2 _ (getD_mem' m.funs f fnc0 hf)
  unfold withinB at h1
  rw [Bool.and_eq_true] at h1
  have h2 := of_decide_eq_true h1.1
  have h3 := of_decide_eq_true h1.2
  have h4 := fsigB_fun (m := m) hf
  rw [Int.natCast_add] at h4
  rw [h4]
  unfold typeB
  rw [if_pos (by omega)]
  exact ⟨_, rfl⟩
set_option maxRecDepth 100000 in
set_option maxHeartbeats 4000000 in
theorem funcs_ok {good : Ins → Prop} (HS : StepsOk good) (w : World) (v : Mv) (m : Mdl) (h : ModAt (fun k => k < w.heap.size) w v m) (hs : Short m) (hty : ∀ t ∈ m.types, t.1.length ≤ 8 ∧ t.2.length ≤ 8) (htc : typesC m = true) (prof : Int) (hcl : ∀ f ∈ m.funs, f.code.length ≤ 65536 ∧ ∀ i ∈ f.code, good i) :
    Calls Tryd.prog 20 #[.agg v.cells, .int .i64 prof] w (fun e w' => e = .returned (.int .i64 (funcsC m prof)) ∧ Below w.heap.size w w') := by
  have HFN := Lib.hid (fun wz (hb : Below w.heap.size w wz) (f : Nat) (hf : f < m.funs.length) => (by
    obtain ⟨t, ht⟩ := fsig_some htc hf
    have hm := getD_mem' m.funs f fnc0 hf
    exact func_ok HS wz v m (h.keep (Keeps.below hb fun _ hk => hk) fun _ hk => Nat.lt_of_lt_of_le hk hb.size) hs hty f hf t ht prof (hcl _ hm).1 (hcl _ hm).2 : Calls Tryd.prog 6 #[.agg v.cells, .int .i64 (f : Int), .int .i64 prof] wz (FuncPost (funcC m (f : Int) prof) wz)))
  have hs2 := hs.2.2.1
  clear hs hty htc hcl
  obtain ⟨A0, c0, A1, c1, A2, c2, A3, c3, A4, c4, A5, c5, A6, c6, A7, c7, rfl⟩ := mod_slices h
  simp only [Mv.cells] at HFN ⊢
  clear h
  obtain ⟨n0, hn0⟩ : ∃ n, m.types.length = n := ⟨_, rfl⟩
  obtain ⟨n1, hn1⟩ : ∃ n, m.imps.length = n := ⟨_, rfl⟩
  obtain ⟨n2, hn2⟩ : ∃ n, m.funs.length = n := ⟨_, rfl⟩
  obtain ⟨n3, hn3⟩ : ∃ n, m.mems.length = n := ⟨_, rfl⟩
  obtain ⟨n4, hn4⟩ : ∃ n, m.globs.length = n := ⟨_, rfl⟩
  obtain ⟨n5, hn5⟩ : ∃ n, m.exps.length = n := ⟨_, rfl⟩
  obtain ⟨n6, hn6⟩ : ∃ n, m.datas.length = n := ⟨_, rfl⟩
  obtain ⟨n7, hn7⟩ : ∃ n, m.cus.length = n := ⟨_, rfl⟩
  have HN2 := Lib.hid hn2
  have HN3 := Lib.hid hn3
  rw [hn0, hn1, hn2, hn3, hn4, hn5, hn6, hn7] at HFN ⊢
  obtain ⟨W, hW⟩ : ∃ W, W = w.alloc (.cells #[.slice A0 n0 c0, .slice A1 n1 c1, .slice A2 n2 c2, .slice A3 n3 c3, .slice A4 n4 c4, .slice A5 n5 c5, .slice A6 n6 c6, .slice A7 n7 c7] 42) := ⟨_, rfl⟩
  have hbw : Below w.heap.size w W := hW ▸ (Below.refl _ _).alloc (Nat.le_refl _) _
  have HBW := Lib.hid hbw
  have HB8 : Hid (∀ wz, Below W.heap.size W wz → Box8 wz w.heap.size (.slice A0 n0 c0) (.slice A1 n1 c1) (.slice A2 n2 c2) (.slice A3 n3 c3) (.slice A4 n4 c4) (.slice A5 n5 c5) (.slice A6 n6 c6) (.slice A7 n7 c7)) := Lib.hid fun wz hz => by rw [hW] at hz; exact box8_new w _ _ _ _ _ _ _ _ hz
  have HW := Lib.hid hW
  obtain ⟨b0, b1, b2, b3, b4, b5, b6, b7⟩ := HB8.out W (Below.refl _ _)
  clear hbw hW hn0 hn1 hn2 hn3 hn4 hn5 hn6 hn7
  rw [HN2.out] at hs2
  go_enter Tryd.func20, Tryd.ntmps20
  go_upto_region 1 with (fail)
  rw [← HW.out]
  go_wp2_with fail
  clear b0 b1 b2 b3 b4 b5 b6 b7
  go_loopw [11] (fun i wr => ∃ k : Nat, k ≤ n2 ∧ i = .int .i64 (k : Int) ∧ Hid (Below W.heap.size W wr) ∧ Hid (∀ j, j < k → (funcC m ((List.range n2).getD j 0 : Nat) prof).2 = 0)) (fun i _ => n2 - (intOf i).toNat)
  case atStart => exact ⟨0, Nat.zero_le _, rfl, Lib.hid (Below.refl _ _), Lib.hid fun j hj => absurd hj (Nat.not_lt_zero _)⟩
  case round =>
    obtain ⟨w0, rfl⟩ : ∃ w0, w0 = wr := ⟨_, rfl⟩
    obtain ⟨k, hk, rfl, HB, HA⟩ := hrel
    by_cases hlt : k < n2
    · have hd : decide ((k : Int) < (n2 : Int)) = true := by simp; omega
      have hd2 : decide (k < n2) = true := by simp; omega
      obtain ⟨b0, b1, b2, b3, b4, b5, b6, b7⟩ := HB8.out w0 HB.out
      have HCF := Lib.hid (HFN.out w0 (below_then HBW.out HB.out) k hlt)
      have HAT := Lib.hid (fun (hz : (funcC m (k : Int) prof).2 ≠ 0) => (by
        have h := firstC_at (g := fun q : Nat => (funcC m (q : Int) prof).2) (d := 0) (l := List.range n2) HA.out (by rw [List.length_range]; exact hlt) (by rw [range_getD n2 k 0 hlt]; exact hz)
        rw [range_getD n2 k 0 hlt] at h
        unfold funcsC
        rw [HN2.out]
        exact h : funcsC m prof = (funcC m (k : Int) prof).2))
      have HAN := Lib.hid (fun (hz : (funcC m (k : Int) prof).2 = 0) j (hj : j < k + 1) => (by
        rcases Nat.lt_or_ge j k with h1 | h1
        · exact HA.out j h1
        · rw [show j = k by omega, range_getD n2 k 0 hlt]; exact hz : (funcC m ((List.range n2).getD j 0 : Nat) prof).2 = 0))
      generalize funcC m (k : Int) prof = r at HCF HAT HAN
      obtain ⟨r1, r2⟩ := r
      by_cases hz : r2 = 0
      · subst hz
        have HAZ := Lib.hid (HAN.out rfl)
        clear HAT HAN
        go_wp2_with (go_at_call 6; refine (HCF.out).mono ?_; rintro e w1 ⟨rfl, hb1⟩; have HB1 := Lib.hid (below_then HB.out hb1); clear hb1)
        go_roundw
        case rel => exact ⟨k + 1, by omega, by go_num, HB1, HAZ⟩
        case measure => simp [intOf]; omega
      · have hzb : (r2 != 0) = true := by simpa using hz
        have HAZ := Lib.hid (HAT.out hz)
        clear HAT HAN hz
        go_wp2_with (go_at_call 6; refine (HCF.out).mono ?_; rintro e w1 ⟨rfl, hb1⟩; have HB1 := Lib.hid (below_then HB.out hb1); clear hb1)
        go_ret
        exact ⟨ret_i64 (HAZ.out).symm, below_then HBW.out HB1.out⟩
    · have hd : decide ((k : Int) < (n2 : Int)) = false := by simp; omega
      have hd2 : decide (k < n2) = false := by simp; omega
      obtain rfl : n2 = k := by omega
      have HF := Lib.hid (show funcsC m prof = 0 by unfold funcsC; rw [HN2.out]; exact firstC_zero (g := fun q : Nat => (funcC m (q : Int) prof).2) (d := 0) (by rw [List.length_range]; exact HA.out))
      go_wp2
      go_ret
      exact ⟨ret_i64 (HF.out).symm, below_then HBW.out HB.out⟩
end
section
open Go.RowKit
theorem Tryd.infoSpan : (Tryd.prog.info? 127).map (fun i => (i.zero, i.size, i.bytes)) = some (some (.agg #[.int .i64 0, .int .i64 0, .int .i64 0]), 3, 24) := by kernel_rfl
def natV (k : Nat) : Value := .int .i64 (k : Int)
def PairPost (ops : List Int) (m : Nat) (w : World) (e : Ending) (w' : World) : Prop :=
  match mrun ops 0 m with
  | none => e = .returned (.tuple #[.slice none 0 0, .int .i64 0, .bool false]) ∧ Below w.heap.size w w'
  | some s => ∃ v, e = .returned (.tuple #[v, .int .i64 (s.deep : Int), .bool (decide (s.op.length = 0))]) ∧ w'.ownsRow 0 127 3 v s.out.length (flatS s.out) ∧ (∀ g, v.ownBlock = some g → w.heap.size ≤ g) ∧ Below w.heap.size w w'
theorem pair_none {ops : List Int} {m k : Nat} {w w' : World} (h : mrun ops 0 k = none) (hk : k ≤ m) (hb : Below w.heap.size w w') : PairPost ops m w (.returned (.tuple #[.slice none 0 0, .int .i64 0, .bool false])) w' := by
  unfold PairPost; rw [mrun_none h m hk]; exact ⟨rfl, hb⟩
structure Two (T : TypeId) (w wr : World) (sp op : Value) (s : MSt) : Prop where
  so : wr.ownsRow 0 T 3 sp s.out.length (flatS s.out)
  po : wr.ownsRow 0 3 1 op s.op.length (s.op.map natV)
  sn : ∀ g, sp.ownBlock = some g → w.heap.size ≤ g ∧ op.ownBlock ≠ some g
  pn : ∀ g, op.ownBlock = some g → w.heap.size ≤ g
  bel : Below w.heap.size w wr
theorem Two.below {T : TypeId} {w wr w' : World} {sp op : Value} {s : MSt} (h : Two T w wr sp op s) (hb : Below wr.heap.size wr w') : Two T w w' sp op s := ⟨owns_below h.so hb, owns_below h.po hb, h.sn, h.pn, below_then h.bel hb⟩
theorem Two.alloc {T : TypeId} {w wr : World} {sp op : Value} {s : MSt} (h : Two T w wr sp op s) (o : Obj) : Two T w (wr.alloc o) sp op s := h.below ((Below.refl _ _).alloc (Nat.le_refl _) o)
theorem Two.pushP {T : TypeId} {w wr w' : World} {sp op v : Value} {s : MSt} (h : Two T w wr sp op s) (hg : wr.grownBy w' op.ownBlock) (hat : v.ownBlock = op.ownBlock ∨ v.ownBlock = some wr.heap.size) :
    w'.ownsRow 0 T 3 sp s.out.length (flatS s.out) ∧ (∀ g, sp.ownBlock = some g → w.heap.size ≤ g ∧ v.ownBlock ≠ some g) ∧ (∀ g, v.ownBlock = some g → w.heap.size ≤ g) ∧ Below w.heap.size w w' := by
  refine ⟨h.so.kept hg ?_, fun g hg' => ⟨(h.sn g hg').1, fun e => ?_⟩, fun g hg' => ?_, h.bel.grown hg h.bel.size h.pn⟩
  · cases hs : sp.ownBlock with
    | none => exact .inl rfl
    | some g => exact .inr fun e => (h.sn g hs).2 e.symm
  · rcases hat with h1 | h1
    · exact (h.sn g hg').2 (h1 ▸ e)
    · have e2 := h1.symm.trans e
      simp only [Option.some.injEq] at e2
      have := (h.so.lt g hg').2
      omega
  · rcases hat with h1 | h1
    · exact h.pn g (h1 ▸ hg')
    · have e2 := h1.symm.trans hg'
      simp only [Option.some.injEq] at e2
      have := h.bel.size
      omega
theorem Two.pushS {T : TypeId} {w wr w' : World} {sp op v : Value} {k : Nat} {os : List Value} (hpo : wr.ownsRow 0 3 1 op k os) (hsn : ∀ g, sp.ownBlock = some g → w.heap.size ≤ g ∧ op.ownBlock ≠ some g) (hpn : ∀ g, op.ownBlock = some g → w.heap.size ≤ g) (hb : Below w.heap.size w wr)
    {m : Nat} {xs : List Value} (ho : w'.ownsRow 0 T 3 v m xs) (hg : wr.grownBy w' sp.ownBlock) (hat : v.ownBlock = sp.ownBlock ∨ v.ownBlock = some wr.heap.size) (t : MSt) (h1 : t.out.length = m) (h2 : flatS t.out = xs) (h3 : t.op.length = k) (h4 : t.op.map natV = os) : Two T w w' v op t := by
  have hne : op.ownBlock = none ∨ op.ownBlock ≠ sp.ownBlock := by
    cases hs : op.ownBlock with
    | none => exact .inl rfl
    | some g => exact .inr fun e => (hsn g e.symm).2 hs
  refine ⟨by rw [h1, h2]; exact ho, by rw [h3, h4]; exact hpo.kept hg hne, fun g hg' => ?_, hpn, hb.grown hg hb.size fun g hg' => (hsn g hg').1⟩
  · rcases hat with h5 | h5
    · exact hsn g (h5 ▸ hg')
    · have e2 := h5.symm.trans hg'
      simp only [Option.some.injEq] at e2
      have := hb.size
      refine ⟨by omega, fun e => ?_⟩
      have := (hpo.lt g e).2
      omega
theorem Two.put {T : TypeId} {w wr : World} {g n c : Nat} {op op' : Value} {s t : MSt} (h : Two T w wr (.slice (some ⟨g, 0, none⟩) n c) op s) (j : Nat) (u : Value) (h1 : t.out.length = s.out.length) (h2 : flatS t.out = (flatS s.out).set j u)
    (hop : op'.ownBlock = op.ownBlock) (hpo : wr.ownsRow 0 3 1 op' t.op.length (t.op.map natV)) : Two T w (wr.setCell ⟨g, j, none⟩ u) (.slice (some ⟨g, 0, none⟩) n c) op' t := by
  have hn : n = s.out.length := by
    rcases h.so.2 with ⟨h, _⟩ | ⟨g', cap', cur, he, _⟩
    · cases h
    · simp only [Value.slice.injEq] at he; exact he.2.1
  subst hn
  obtain ⟨h3, _⟩ := h.so.stored j u
  have hgn := h.sn g rfl
  exact ⟨by rw [h1, h2]; exact h3, ownsRow_setCell_other hpo (by rw [hop]; exact hgn.2) u, fun g' hg' => by rw [hop]; exact h.sn g' hg', fun g' hg' => h.pn g' (hop ▸ hg'), h.bel.setCell (by exact hgn.1) u⟩
set_option maxRecDepth 100000 in
set_option maxHeartbeats 2000000 in
theorem pair_any (w : World) (A : Option Addr) (m c : Nat) (ops : List Int) (hc : CodeAt w A m ops) (hm : m ≤ 950000) :
    Calls Tryd.prog 69 #[.slice A m c] w (PairPost ops m w) := by
  have HC := Lib.hid hc
  clear hc
  go_enter Tryd.func69, Tryd.ntmps69
  go_wp2_with fail
  go_loopw [2, 3, 5, 11] (fun sp dp op i wr => ∃ (k : Nat) (s : MSt), k ≤ m ∧ i = .int .i64 (k : Int) ∧ Hid (mrun ops 0 k = some s) ∧ Hid (Two 127 w wr sp op s) ∧ dp = .int .i64 (s.deep : Int) ∧ Hid (s.deep ≤ k)) (fun _ _ _ i _ => m - (intOf i).toNat)
  case atStart => exact ⟨0, ⟨[], [], 0⟩, Nat.zero_le _, rfl, Lib.hid rfl, Lib.hid ⟨World.ownsRow_nil _ _ _ _, World.ownsRow_nil _ _ _ _, (fun g h => by cases h), (fun g h => by cases h), Below.refl _ _⟩, rfl, Lib.hid (Nat.le_refl _)⟩
  case round =>
    obtain ⟨k, s, hk, rfl, HR, HT, rfl, HDP⟩ := hrel
    have HV := Lib.hid (mrun_inv _ _ _ _ HR.out)
    obtain ⟨As, cs, rfl⟩ := owns_slice HT.out.so
    obtain ⟨Ap, cp, rfl⟩ := owns_slice HT.out.po
    have hol : s.op.length ≤ s.out.length := HV.out.opl
    have hsl : s.out.length ≤ k := HV.out.outl
    by_cases hlt : k < m
    case' neg =>
      obtain rfl : k = m := by omega
      have hd0 : decide ((k : Int) < (k : Int)) = false := by simp
      have HP : Hid (∀ wz, Two 127 w wz (.slice As s.out.length cs) (.slice Ap s.op.length cp) s → PairPost ops k w (.returned (.tuple #[.slice As s.out.length cs, .int .i64 (s.deep : Int), .bool (decide (s.op.length = 0))])) wz) := fun wz hz => by
        unfold PairPost; rw [HR.out]; exact ⟨_, rfl, hz.so, fun g hg => (hz.sn g hg).1, hz.bel⟩
      have hbo : (((s.op.length : Nat) : Int) == 0) = decide (s.op.length = 0) := by
        by_cases h0 : s.op.length = 0
        · simp [h0]
        · rw [show decide (s.op.length = 0) = false from decide_eq_false h0]; simpa using h0
      generalize decide (s.op.length = 0) = bo at HP hbo
      have HTW := HT
      generalize s.op.length = no at *
      generalize s.out.length = ns at *
      go_wp2
      go_ret3
      exact HP.out _ HTW.out
    have hd0 : decide ((k : Int) < (m : Int)) = true := by simp; omega
    obtain ⟨g, o, rfl, hg, hcell⟩ := (HC.out.below HT.out.bel) (by omega)
    obtain ⟨u1, u2, u3, Al, nl, cl, k0, k1, k2, k3, k4⟩ := hcell k hlt
    obtain ⟨X, hX⟩ : ∃ X, ops.getD k 0 = X := ⟨_, rfl⟩
    rw [hX] at k0
    have HX := Lib.hid hX
    clear hX hcell
    have HSU := Lib.hid (mrun_succ HR.out)
    have HT1 : Hid (Two 127 w (wr.alloc (.cells #[.int .i64 X, .int .i64 u1, .int .i64 u2, .int .u64 u3, .slice Al nl cl] 30)) (.slice As s.out.length cs) (.slice Ap s.op.length cp) s) := Lib.hid (HT.out.alloc _)
    have b0 : (wr.alloc (.cells #[.int .i64 X, .int .i64 u1, .int .i64 u2, .int .u64 u3, .slice Al nl cl] 30)).cell? ⟨wr.heap.size, 0, none⟩ = some (.int .i64 X) := World.cell?_alloc_new wr _ _ 0
    have HC1 : Hid (CodeAt (wr.alloc (.cells #[.int .i64 X, .int .i64 u1, .int .i64 u2, .int .u64 u3, .slice Al nl cl] 30)) (some ⟨g, o, none⟩) m ops) := Lib.hid (HC.out.below (HT1.out.bel))
    have HOP := Lib.hid (fun wz => opens_any X wz)
    have HOX := Lib.hid (show opensB (ops.getD k 0) = opensB X by rw [HX.out])
    go_wp2_with fail
    go_at_call 47
    refine (HOP.out _).mono ?_
    rintro e w' ⟨rfl, rfl⟩
    clear HOP k0 k1 k2 k3 k4
    generalize wr.alloc (.cells #[.int .i64 X, .int .i64 u1, .int .i64 u2, .int .u64 u3, .slice Al nl cl] 30) = W1 at HT1 b0 HC1 ⊢
    generalize hob : opensB X = ob at HOX ⊢
    have HOB := Lib.hid hob
    clear hob
    cases ob
    case' true =>
      have HN := Lib.hid (HSU.out.trans (mstep_open HOX.out))
      clear HSU b0 HT
      go_wp2_with (at_builtin; first
        | (refine wpList_append_row rfl (.tmp 23) (.tmp 26) 22 3 rfl _ 1 8 Tryd.underlying22 Tryd.infoInt rfl (by decide) (by decide) (.slice Ap s.op.length cp) s.op.length (s.op.map natV) (by rfl) ((HT1.out.alloc _).po) _ 1 [natV s.out.length] (by rfl) (by rfl) (news_new W1 _ _ 1 1) (by simp [natV, Value.oneCell']) (by omega) ?_; intro v1 wa ho1 hg1 ha1; obtain ⟨q1, q2, q3, q4⟩ := (HT1.out.alloc _).pushP hg1 ha1; have Q1 := Lib.hid q1; have Q2 := Lib.hid q2; have Q3 := Lib.hid q3; have Q4 := Lib.hid q4; clear q1 q2 q3 q4; obtain ⟨B1, c1, rfl⟩ := owns_slice ho1)
        | (refine wpList_append_row rfl (.tmp 28) (.tmp 31) 76 127 rfl _ 3 24 Tryd.underlying76 Tryd.infoSpan rfl (by decide) (by decide) (.slice As s.out.length cs) s.out.length (flatS s.out) (by rfl) (Q1.out.alloc _) _ 1 (spCells ((k : Int), -1, 0)) (by rfl) (by rfl) (news_new wa _ _ 1 1) (by simp [spCells, Value.oneCell']) (by omega) ?_; intro v2 wb ho2 hg2 ha2; obtain ⟨B2, c2, rfl⟩ := owns_slice ho2))
      go_roundw
      case rel =>
        refine ⟨k + 1, ⟨s.out ++ [((k : Int), -1, 0)], s.op ++ [s.out.length], max s.deep (s.op.length + 1)⟩, by omega, by go_num, HN, Lib.hid (Two.pushS (ho1.alloc _) Q2.out Q3.out ((below_new Q4.out _)) ho2 hg2 ha2 _ (by simp) (flatS_snoc _ _) (by simp) (by simp)), ?_, Lib.hid ?_⟩
        · simp only [Value.int.injEq, true_and]
          by_cases hmx : s.deep < s.op.length + 1
          · first | (rw [if_pos (by omega), Nat.max_eq_right (by omega)]; omega) | omega
          · first | rw [if_neg (by omega), Nat.max_eq_left (by omega)] | omega
        · have := HDP.out; show max s.deep (s.op.length + 1) ≤ _; omega
      case measure => simp [intOf]; omega
    have hX5 : X = 5 ∨ X = 11 ∨ (X ≠ 5 ∧ X ≠ 11) := by omega
    rcases hX5 with rfl | rfl | ⟨hn5, hn11⟩
    case' inr.inr =>
      have HN := Lib.hid (HSU.out.trans (mstep_other HOX.out (by rw [HX.out]; exact hn5) (by rw [HX.out]; exact hn11)))
      have d5 : (X == 5) = false := by simpa using hn5
      have d11 : (X == 11) = false := by simpa using hn11
      clear hn5 hn11
      go_wp2
      go_roundw
      case rel => exact ⟨k + 1, s, by omega, by go_num, HN, HT1, rfl, Lib.hid (by have := HDP.out; omega)⟩
      case measure => simp [intOf]; omega
    all_goals
      obtain ⟨no, hno⟩ : ∃ no, s.op.length = no := ⟨_, rfl⟩
      rw [hno] at HT1 hol ⊢
      have HNO := Lib.hid hno
      clear hno HT
      rcases Nat.eq_zero_or_pos no with h0 | h0
      case' inl =>
        subst h0
        have HN : Hid (mrun ops 0 (k + 1) = none) := Lib.hid (HSU.out.trans (mstep_none ⟨by rw [HX.out]; simp, List.eq_nil_of_length_eq_zero HNO.out⟩))
        go_wp2
        go_ret3
        exact pair_none HN.out (by omega) HT1.out.bel
      obtain ⟨t, j, htj, htl⟩ := list_end (l := s.op) (by rw [HNO.out]; exact h0)
      obtain ⟨tl, rfl⟩ : ∃ tl, no = tl + 1 := ⟨no - 1, by omega⟩
      have htl2 : t.length = tl := by have := HNO.out; omega
      have hjs : j < s.out.length := HV.out.lt j (by rw [htj]; simp)
      obtain ⟨ha0, hak⟩ := HV.out.a0 j hjs
      obtain ⟨an, hne⟩ : ∃ an : Nat, (spAt s.out j).1 = (an : Int) := ⟨(spAt s.out j).1.toNat, by omega⟩
      have ham : an < m := by omega
      obtain ⟨gp, cp, hpe⟩ : ∃ gp cp', Value.slice Ap (tl + 1) cp = .slice (some ⟨gp, 0, none⟩) (tl + 1) cp' := by
        rcases HT1.out.po.2 with ⟨h, _⟩ | ⟨gp, cap, cur, h, _⟩
        · cases h
        · simp only [Value.slice.injEq] at h
          obtain ⟨rfl, -, rfl⟩ := h
          exact ⟨gp, _, rfl⟩
      obtain ⟨gs, cs', hse⟩ : ∃ gs cs', Value.slice As s.out.length cs = .slice (some ⟨gs, 0, none⟩) s.out.length cs' := by
        rcases HT1.out.so.2 with ⟨h, h2⟩ | ⟨gp, cap, cur, h, _⟩
        · simp only [Value.slice.injEq] at h; omega
        · simp only [Value.slice.injEq] at h
          obtain ⟨rfl, -, rfl⟩ := h
          exact ⟨gp, _, rfl⟩
      simp only [Value.slice.injEq] at hpe hse
      obtain ⟨rfl, -, rfl⟩ := hpe
      obtain ⟨rfl, -, rfl⟩ := hse
      have HCL : Hid (∀ wz, Below W1.heap.size W1 wz → wz.cell? ⟨gp, tl, none⟩ = some (.int .i64 (j : Int)) ∧ wz.cell? ⟨gs, j * 3, none⟩ = some (.int .i64 (an : Int)) ∧ wz.cell? ⟨gs, j * 3 + 1, none⟩ = some (.int .i64 (spAt s.out j).2.1) ∧ wz.cell? ⟨gs, j * 3 + 2, none⟩ = some (.int .i64 (spAt s.out j).2.2) ∧ wz.frozen? ⟨gs, j * 3 + 1, none⟩ = false ∧ wz.frozen? ⟨gs, j * 3 + 2, none⟩ = false) := fun wz hz => by
        have h2 := HT1.out.below hz
        obtain ⟨f1, f2, f3⟩ := flatS_at s.out j hjs
        have hp := h2.po
        rw [HNO.out] at hp
        refine ⟨?_, ?_, ?_, ?_, h2.so.frozenAt _, h2.so.frozenAt _⟩
        · rw [hp.cellAt tl (by omega), htj, ← htl2]; simp [natV]
        · rw [h2.so.cellAt _ (by omega), f1, hne]
        · rw [h2.so.cellAt _ (by omega), f2]
        · rw [h2.so.cellAt _ (by omega), f3]
      have HJS := Lib.hid hjs
      have HTJ := Lib.hid htj
      have HTL := Lib.hid htl2
      have HNE := Lib.hid hne
      clear htj htl htl2 hne h0 ha0 hak
      obtain ⟨kp, ka, ke, kz, kf, kg⟩ := HCL.out W1 (Below.refl _ _)
      obtain ⟨ev, hev⟩ : ∃ ev, (spAt s.out j).2.1 = ev := ⟨_, rfl⟩
      obtain ⟨zv, hzv⟩ : ∃ zv, (spAt s.out j).2.2 = zv := ⟨_, rfl⟩
      rw [hev] at ke
      rw [hzv] at kz
      have HEV := Lib.hid hev
      have HZV := Lib.hid hzv
      clear hev hzv
    case' false.inl.inr =>
      have HDV := Lib.hid (divides_any W1 (some ⟨g, o, none⟩) m c ops HC1.out an ham (by omega) ev zv)
      obtain ⟨db, hdb⟩ : ∃ db, decide (ops.getD an 0 = 4 ∧ ev = -1) = db := ⟨_, rfl⟩
      rw [hdb] at HDV
      have HDB : Hid (decide (ops.getD (spAt s.out j).1.toNat 0 = 4 ∧ (spAt s.out j).2.1 = -1) = db) := by rw [Hid, HNE.out, HEV.out, Int.toNat_natCast]; exact hdb
      clear hdb kf kg
      go_wp2_with fail
      go_at_call 81
      refine HDV.out.mono ?_
      rintro e w2 ⟨rfl, hb2⟩
      obtain ⟨kp2, _, _, _, kf2, _⟩ := HCL.out w2 hb2
      have HT2 := Lib.hid (HT1.out.below hb2)
      have b2 : w2.cell? ⟨wr.heap.size, 0, none⟩ = some (.int .i64 5) := (hb2.cell (p := ⟨wr.heap.size, 0, none⟩) (World.block_lt_of_cell? _ _ b0)).trans b0
      clear HDV hb2 kp ka ke kz b0
      cases db
      case' false =>
        have HN := Lib.hid (HSU.out.trans (mstep_bad HX.out HTJ.out HDB.out))
        go_wp2
        go_ret3
        exact pair_none HN.out (by omega) HT2.out.bel
      have HN := Lib.hid (HSU.out.trans (mstep_else HX.out HTJ.out HDB.out))
      have HPO := Lib.hid (HT2.out.po)
      go_wp2
      go_roundw
      case rel =>
        refine ⟨k + 1, _, by omega, by go_num, HN, Lib.hid (HT2.out.put (j * 3 + 1) (.int .i64 (k : Int)) (by simp) (flatS_set s.out j (k : Int) 0 HJS.out).1 rfl HPO.out), rfl, Lib.hid (by have := HDP.out; show s.deep ≤ _; omega)⟩
      case measure => simp [intOf]; omega
    have HN := Lib.hid (HSU.out.trans (mstep_end HX.out HTJ.out))
    have HPO : Hid (W1.ownsRow 0 3 1 (.slice (some ⟨gp, 0, none⟩) tl cp) t.length (t.map natV)) := by
      have h1 := HT1.out.po
      rw [HNO.out] at h1
      have h2 := owns_cut h1 (Nat.le_succ tl)
      rw [HTJ.out, List.map_append, Nat.mul_one, ← HTL.out, ← List.length_map (f := natV), List.take_left, List.length_map, HTL.out] at h2
      rw [HTL.out]; exact h2
    have htc : tl ≤ cp := by
      rcases HT1.out.po.2 with ⟨h, _⟩ | ⟨gp', cap, cur, h, _, _, h3, _⟩
      · cases h
      · simp only [Value.slice.injEq] at h
        obtain ⟨_, _, rfl⟩ := h
        rw [HNO.out] at h3
        omega
    clear kf
    go_wp2
    go_roundw
    case rel =>
      refine ⟨k + 1, _, by omega, by go_num, HN, Lib.hid (HT1.out.put (j * 3 + 2) (.int .i64 (k : Int)) (by simp) (flatS_set s.out j 0 (k : Int) HJS.out).2 rfl HPO.out), rfl, Lib.hid (by have := HDP.out; show s.deep ≤ _; omega)⟩
    case measure => simp [intOf]; omega
end
end Go.Proofs.YteohmkceapblkaaDoor
