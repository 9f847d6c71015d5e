/- A part of the proof. -/
import Derived.Test.YteohmkceapblkaaDoorJ5
import Derived.Test.YteohmkceapblkaaDoorJ9
namespace Go.Proofs.YteohmkceapblkaaDoor
section
open Go.RowKit
structure Pl where
  s : List Int
  f : List Fr
def fr0 : Fr := ⟨0, [], [], 0, false⟩
def topF (f : List Fr) : Fr := f.getD (f.length - 1) fr0
def agreeB (t want : Int) : Bool := t == want || t == 0
def holdC (h : Nat) (dead : Bool) (s q : List Int) : Bool := (List.range q.length).all fun k => if s.length + k < h + q.length then dead else agreeB (s.getD (s.length + k - q.length) 0) (q.getD k 0)
def takeC (p : Pl) (q : List Int) : Option Pl := if holdC (topF p.f).h (topF p.f).dead p.s q then some ⟨p.s.take (max (p.s.length - q.length) (topF p.f).h), p.f⟩ else none
def giveC (p : Pl) (q : List Int) : Pl := ⟨p.s ++ q, p.f⟩
def beginC (p : Pl) (op : Int) (ps rs : List Int) : Pl := ⟨p.s ++ ps, p.f ++ [⟨op, ps, rs, p.s.length, false⟩]⟩
def finishC (p : Pl) : Option (Fr × Pl) := (takeC p (topF p.f).rs).bind fun p1 => if p1.s.length ≤ (topF p.f).h then some (topF p.f, ⟨p1.s, p.f.take (p.f.length - 1)⟩) else none
def deadC (p : Pl) : Pl := ⟨p.s.take (topF p.f).h, p.f.set (p.f.length - 1) { topF p.f with dead := true }⟩
def leaveC (p : Pl) (q : List Int) : Option Pl := (takeC p q).map deadC
def popC (p : Pl) : Option (Int × Pl) := if p.s.length ≤ (topF p.f).h then (if (topF p.f).dead then some (0, p) else none) else some (p.s.getD (p.s.length - 1) 0, ⟨p.s.take (p.s.length - 1), p.f⟩)
def labelC (p : Pl) (n : Nat) : List Int := if (p.f.getD (p.f.length - 1 - n) fr0).op = 3 then (p.f.getD (p.f.length - 1 - n) fr0).ps else (p.f.getD (p.f.length - 1 - n) fr0).rs
def withinB (n : Int) (l : Nat) : Bool := decide (0 ≤ n) && decide (n < (l : Int))
structure Env where
  m : Mdl
  prof : Int
  lo : List Int
  ro : List Int
def richI (x : Ins) : Bool := richB x.op || (opensB x.op && decide (0 ≤ x.a))
def inPlaceC (p : Pl) (op : Int) : Bool := if p.f.length = 0 then false else if op = 5 then decide ((topF p.f).op = 4) else knownB op
def existsC (e : Env) (p : Pl) (x : Ins) : Bool :=
  if x.op = 2 ∨ x.op = 3 ∨ x.op = 4 then (blockB e.m x.a).isSome
  else if x.op = 12 ∨ x.op = 13 then withinB x.a p.f.length
  else if x.op = 14 then x.l.all (fun n => withinB n p.f.length) && decide (0 < x.l.length)
  else if x.op = 16 ∨ x.op = 18 then (fsigB e.m x.a).isSome
  else if x.op = 32 ∨ x.op = 33 ∨ x.op = 34 then withinB x.a e.lo.length
  else if x.op = 35 ∨ x.op = 36 then withinB x.a e.m.globs.length
  else if x.op = 63 ∨ x.op = 64 ∨ x.op = 64523 then withinB x.a e.m.mems.length
  else if x.op = 64520 then withinB x.a e.m.mems.length && withinB x.b e.m.datas.length
  else if x.op = 64522 then withinB x.a e.m.mems.length && withinB x.b e.m.mems.length
  else if x.op = 64521 then withinB x.a e.m.datas.length
  else !(accB x.op).2.2.2 || withinB x.a e.m.mems.length
def fixedC (op : Int) : List Int × List Int :=
  if constB op ≠ 0 then ([], [constB op]) else if numB op then (paramsB op, resultsB op)
  else if (accB op).2.2.2 then (if 54 ≤ op then ([127, (accB op).2.1], []) else ([127], [(accB op).2.1])) else ([], [])
def glob0 : Int × Bool × Int := (0, false, 0)
def effectC (e : Env) (p : Pl) (x : Ins) : List Int × List Int :=
  if x.op = 13 then (labelC p x.a.toNat ++ [127], labelC p x.a.toNat)
  else if x.op = 16 then (fsigB e.m x.a).getD ([], [])
  else if x.op = 32 then ([], [e.lo.getD x.a.toNat 0])
  else if x.op = 33 then ([e.lo.getD x.a.toNat 0], [])
  else if x.op = 34 then ([e.lo.getD x.a.toNat 0], [e.lo.getD x.a.toNat 0])
  else if x.op = 35 then ([], [(e.m.globs.getD x.a.toNat glob0).1])
  else if x.op = 63 then ([], [127])
  else if x.op = 64 then ([127], [127])
  else if x.op = 64520 ∨ x.op = 64522 ∨ x.op = 64523 then ([127, 127, 127], [])
  else fixedC x.op
def openC (e : Env) (p : Pl) (x : Ins) : Option Pl :=
  (if x.op = 4 then takeC p [127] else some p).bind fun p1 => (takeC p1 ((blockB e.m x.a).getD ([], [])).1).map fun p2 => beginC p2 x.op ((blockB e.m x.a).getD ([], [])).1 ((blockB e.m x.a).getD ([], [])).2
def divideC (p : Pl) : Option Pl := (finishC p).map fun q => beginC q.2 5 q.1.ps q.1.rs
def closeC (p : Pl) : Option Pl := (finishC p).bind fun q => if q.1.op = 4 ∧ q.1.ps ≠ q.1.rs then none else some (giveC q.2 q.1.rs)
def branchC (p : Pl) (l : List Int) : Option Pl := (takeC p [127]).bind fun p1 =>
  if l.all (fun n => (labelC p1 n.toNat).length == (labelC p1 (l.getD (l.length - 1) 0).toNat).length && holdC (topF p1.f).h (topF p1.f).dead p1.s (labelC p1 n.toNat)) then leaveC p1 (labelC p1 (l.getD (l.length - 1) 0).toNat) else none
def chooseC (p : Pl) : Option Pl := (takeC p [127]).bind fun p1 => (popC p1).bind fun u => (popC u.2).bind fun l => if agreeB l.1 u.1 then some (giveC l.2 [u.1]) else none
def followC (e : Env) (p : Pl) (x : Ins) : Option Pl :=
  if x.op = 2 ∨ x.op = 3 ∨ x.op = 4 then openC e p x
  else if x.op = 5 then divideC p
  else if x.op = 11 then closeC p
  else if x.op = 0 then leaveC p []
  else if x.op = 12 then leaveC p (labelC p x.a.toNat)
  else if x.op = 14 then branchC p x.l
  else if x.op = 15 then leaveC p e.ro
  else if x.op = 18 then (if ((fsigB e.m x.a).getD ([], [])).2 = e.ro then leaveC p ((fsigB e.m x.a).getD ([], [])).1 else none)
  else if x.op = 26 then (popC p).map fun q => q.2
  else if x.op = 27 then chooseC p
  else if x.op = 36 then (if (e.m.globs.getD x.a.toNat glob0).2.1 then takeC p [(e.m.globs.getD x.a.toNat glob0).1] else none)
  else (takeC p (effectC e p x).1).map fun q => giveC q (effectC e p x).2
def stepC (e : Env) (p : Pl) (x : Ins) : Int × Pl :=
  if inPlaceC p x.op = false then (12, p)
  else if e.prof = 1 ∧ richI x = true then (24, p)
  else if existsC e p x = false then (23, p)
  else match followC e p x with
    | none => (14, p)
    | some q => (0, q)
def walkC (e : Env) : List Ins → Nat → Pl → Int × Int
  | [], _, p => if 0 < p.f.length then (-1, 12) else (-1, 0)
  | x :: l, k, p => if (stepC e p x).1 = 0 then walkC e l (k + 1) (stepC e p x).2 else ((k : Int), (stepC e p x).1)
def envC (m : Mdl) (f : Nat) (prof : Int) : Env := ⟨m, prof, locB m ((m.imps.length : Int) + f), ((fsigB m ((m.imps.length : Int) + f)).getD ([], [])).2⟩
def funcC (m : Mdl) (f : Int) (prof : Int) : Int × Int :=
  if withinB f m.funs.length = false then (-1, 1)
  else if (fsigB m ((m.imps.length : Int) + f)).isSome = false then (-1, 23)
  else walkC (envC m f.toNat prof) (m.funs.getD f.toNat fnc0).code 0 (beginC ⟨[], []⟩ 2 [] (envC m f.toNat prof).ro)
end
section
open Go.RowKit
set_option maxRecDepth 100000 in
set_option maxHeartbeats 1000000 in
theorem agree_any (t want : Int) (w : World) : Calls Tryd.prog 77 #[.int .i64 t, .int .i64 want] w fun e w' => e = .returned (.bool (agreeB t want)) ∧ w = w' := by
  unfold agreeB
  by_cases h1 : t = want
  · have d1 : (t == want) = true := by simpa using h1
    rw [d1]
    go_enter Tryd.func77, Tryd.ntmps77
    go_wp2
    go_ret
    exact ⟨rfl, rfl⟩
  · have d1 : (t == want) = false := by simpa using h1
    rw [d1]
    go_enter Tryd.func77, Tryd.ntmps77
    go_wp2
    go_ret
    exact ⟨rfl, rfl⟩
def Wx.prg (F : Wx) : Prop := F.doc = false ∧ F.bt = 65 ∧ F.ft = 92
theorem Wk.p0 {F : Wx} {w : World} {x : Ws} (h : Wk F w x) (hF : F.prg) : w.cell? ⟨F.G, 0, none⟩ = some x.sv := by
  rw [h.cell]; unfold wcells; rw [hF.1]; rfl
theorem Wk.p1 {F : Wx} {w : World} {x : Ws} (h : Wk F w x) (hF : F.prg) : w.cell? ⟨F.G, 1, none⟩ = some x.fv := by
  rw [h.cell]; unfold wcells; rw [hF.1]; rfl
def Ws.top (x : Ws) : Fv := x.f.getD (x.f.length - 1) ⟨0, .slice none 0 0, .slice none 0 0, [], [], 0, false⟩
theorem Ws.top_fr (x : Ws) : x.top.fr = topF (x.f.map Fv.fr) := by
  unfold Ws.top topF
  rw [List.length_map, List.getD_eq_getElem?_getD, List.getD_eq_getElem?_getD, List.getElem?_map]
  cases x.f[x.f.length - 1]? <;> rfl
theorem Wk.tcell {F : Wx} {w : World} {x : Ws} (h : Wk F w x) (h0 : 0 < x.f.length) : ∃ g c : Nat, x.fv = .slice (some ⟨g, 0, none⟩) x.f.length c ∧ x.f.length ≤ c ∧ c ≤ maxLen ∧ g < w.heap.size ∧ (∀ o, w.frozen? ⟨g, o, none⟩ = false) ∧
    w.cell? ⟨g, (x.f.length - 1) * 5, none⟩ = some (.int .i64 x.top.op) ∧ w.cell? ⟨g, (x.f.length - 1) * 5 + 1, none⟩ = some x.top.pv ∧ w.cell? ⟨g, (x.f.length - 1) * 5 + 2, none⟩ = some x.top.rv ∧ w.cell? ⟨g, (x.f.length - 1) * 5 + 3, none⟩ = some (.int .i64 (x.top.h : Int)) ∧ w.cell? ⟨g, (x.f.length - 1) * 5 + 4, none⟩ = some (.bool x.top.dead) := by
  obtain ⟨g, c, he, h1, h2, h3, h4, h5⟩ := h.fcell h0
  have h6 := fun i hi => h5 (x.f.length - 1) (by omega) i hi ⟨0, .slice none 0 0, .slice none 0 0, [], [], 0, false⟩
  exact ⟨g, c, he, h1, h2, h3, h4, h6 0 (by decide), h6 1 (by decide), h6 2 (by decide), h6 3 (by decide), h6 4 (by decide)⟩
def ReadPost (v : Value) (w : World) (e : Ending) (w' : World) : Prop := e = .returned v ∧ ∃ m, w' = w.drewN m
theorem ReadPost.below {v : Value} {w : World} {e : Ending} {w' : World} (h : ReadPost v w e w') : e = .returned v ∧ Below w.heap.size w w' := by
  obtain ⟨rfl, m, rfl⟩ := h; exact ⟨rfl, below_drewN (Below.refl _ _) m⟩
set_option maxRecDepth 100000 in
set_option maxHeartbeats 1000000 in
theorem top_at (w : World) (G g n c : Nat) (p1 : w.cell? ⟨G, 1, none⟩ = some (.slice (some ⟨g, 0, none⟩) n c)) (h0 : 0 < n) (h1 : n ≤ c) (h2 : c ≤ maxLen) :
    Calls Tryd.prog 44 #[.pointer (some ⟨G, 0, none⟩)] w (ReadPost (.pointer (some ⟨g, (n - 1) * 5, none⟩)) w) := by
  unfold maxLen at h2
  have e1 : IntKind.i64.wrap ((n : Int) - 1) = ((n - 1 : Nat) : Int) := by rw [show ((n : Int) - 1) = ((n - 1 : Nat) : Int) by omega]; exact IntWalk.i64_in _ (by omega)
  have hlt : n - 1 < n := by omega
  generalize n - 1 = k at *
  go_enter Tryd.func44, Tryd.ntmps44
  go_wp2_with fail
  go_quiet (fail)
  go_wp2
  go_ret
  exact ⟨rfl, _, rfl⟩
structure Cel (w : World) (G g k : Nat) (A : Option Addr) (n c cf : Nat) (hh : Nat) (dd : Bool) : Prop where
  p0 : w.cell? ⟨G, 0, none⟩ = some (.slice A n c)
  p1 : w.cell? ⟨G, 1, none⟩ = some (.slice (some ⟨g, 0, none⟩) k cf)
  k0 : 0 < k
  k1 : k ≤ cf
  k2 : cf ≤ maxLen
  n1 : n ≤ c
  n2 : c ≤ maxLen
  ch : w.cell? ⟨g, (k - 1) * 5 + 3, none⟩ = some (.int .i64 (hh : Int))
  cd : w.cell? ⟨g, (k - 1) * 5 + 4, none⟩ = some (.bool dd)
theorem Wk.cel {F : Wx} {w : World} {x : Ws} (h : Wk F w x) (hF : F.prg) (h0 : 0 < x.f.length) : ∃ (g : Nat) (A : Option Addr) (c cf : Nat), Cel w F.G g x.f.length A x.s.length c cf x.top.h x.top.dead ∧ x.sv = .slice A x.s.length c ∧ x.fv = .slice (some ⟨g, 0, none⟩) x.f.length cf := by
  obtain ⟨g, cf, he, h1, h2, h3, h4, t0, t1, t2, t3, t4⟩ := h.tcell h0
  obtain ⟨A, c, hs, s1, s2⟩ := h.sform
  exact ⟨g, A, c, cf, ⟨by rw [h.p0 hF, hs], by rw [h.p1 hF, he], h0, h1, h2, s1, s2, t3, t4⟩, hs, he⟩
theorem Cel.drewN {w : World} {G g k : Nat} {A : Option Addr} {n c cf hh : Nat} {dd : Bool} (h : Cel w G g k A n c cf hh dd) (m : Nat) : Cel (w.drewN m) G g k A n c cf hh dd := ⟨h.p0, h.p1, h.k0, h.k1, h.k2, h.n1, h.n2, h.ch, h.cd⟩
theorem Cel.below {w w' : World} {G g k : Nat} {A : Option Addr} {n c cf hh : Nat} {dd : Bool} (h : Cel w G g k A n c cf hh dd) (hb : Below w.heap.size w w') : Cel w' G g k A n c cf hh dd :=
  have lt : ∀ {p : Addr} {u : Value}, w.cell? p = some u → w'.cell? p = some u := fun hc => (hb.cell (World.block_lt_of_cell? w _ hc)).trans hc
  ⟨lt h.p0, lt h.p1, h.k0, h.k1, h.k2, h.n1, h.n2, lt h.ch, lt h.cd⟩
theorem holdC_yes {h : Nat} {d : Bool} {s q : List Int} (H : ∀ k, k < q.length → (if s.length + k < h + q.length then d else agreeB (s.getD (s.length + k - q.length) 0) (q.getD k 0)) = true) : holdC h d s q = true := by
  unfold holdC; rw [List.all_eq_true]; intro k hk; exact H k (List.mem_range.1 hk)
theorem holdC_no {h : Nat} {d : Bool} {s q : List Int} {k : Nat} (hk : k < q.length) (H : (if s.length + k < h + q.length then d else agreeB (s.getD (s.length + k - q.length) 0) (q.getD k 0)) = false) : holdC h d s q = false := by
  cases hc : holdC h d s q with
  | false => rfl
  | true =>
    unfold holdC at hc
    rw [List.all_eq_true] at hc
    rw [hc k (List.mem_range.2 hk)] at H; cases H
set_option maxRecDepth 100000 in
set_option maxHeartbeats 1000000 in
theorem holds_any {F : Wx} {w : World} {x : Ws} (hF : F.prg) (h : Wk F w x) (h0 : 0 < x.f.length) (hs : x.s.length ≤ 1000000) (tv : Value) (q : List Int) (hq : IntsK (wfree F w x) w tv q) (hql : q.length ≤ 1000000) (hh : x.top.h ≤ x.s.length) :
    Calls Tryd.prog 76 #[.pointer (some ⟨F.G, 0, none⟩), tv] w (ReadPost (.bool (holdC x.top.h x.top.dead x.s q)) w) := by
  obtain ⟨g, A, c, cf, hc, hsv, hfv⟩ := h.cel hF h0
  obtain ⟨At, ct, htv, hmt, _⟩ := hq.form
  have HS := fun h0 => h.scell h0
  rw [hsv] at HS
  have HHS := Lib.hid HS
  have HQ := hq
  rw [htv] at HQ ⊢
  have HHQ := Lib.hid HQ
  have HC := Lib.hid hc
  obtain ⟨R, hR⟩ : ∃ R, holdC x.top.h x.top.dead x.s q = R := ⟨_, rfl⟩
  rw [hR]
  clear h HS HQ hq htv hsv hfv hF hc
  generalize x.top.h = ht at *
  generalize x.top.dead = dd at *
  obtain ⟨n, hn⟩ : ∃ n, x.s.length = n := ⟨_, rfl⟩
  obtain ⟨m, hm⟩ : ∃ m, q.length = m := ⟨_, rfl⟩
  obtain ⟨k, hk⟩ : ∃ k, x.f.length = k := ⟨_, rfl⟩
  have HHR : Hid (holdC ht dd x.s q = R) := Lib.hid hR
  have HN := Lib.hid hn
  have HM := Lib.hid hm
  rw [hn] at HC hs hh HHS
  rw [hk] at HC h0
  rw [hm] at HHQ hql ⊢
  clear hn hm hk hR
  have p1 := HC.out.p1
  have HT := Lib.hid (fun j => top_at (w.drewN j) F.G g k cf HC.out.p1 HC.out.k0 HC.out.k1 HC.out.k2)
  go_enter Tryd.func76, Tryd.ntmps76
  go_wp2_with (go_at_call 44; refine (HT.out 0).mono ?_; rintro e w1 ⟨rfl, mm, rfl⟩)
  have hwr0 : IntKind.i64.wrap ((n : Int) - (m : Int)) = (n : Int) - (m : Int) := IntWalk.i64_in _ (by omega)
  clear p1 HT
  go_loopw [13] (fun i wr => ∃ k a : Nat, k ≤ m ∧ i = .int .i64 (k : Int) ∧ wr = w.drewN a ∧ Hid (∀ j, j < k → (if n + j < ht + m then dd else agreeB (x.s.getD (n + j - m) 0) (q.getD j 0)) = true)) (fun i _ => m - (intOf i).toNat)
  case atStart => exact ⟨0, _, Nat.zero_le _, rfl, rfl, Lib.hid (fun j hj => absurd hj (Nat.not_lt_zero j))⟩
  case round =>
    obtain ⟨j, a, hj, rfl, rfl, HJ⟩ := hrel
    by_cases hjm : j < m
    · have hjn : (0 : Int) ≤ j := Int.natCast_nonneg _
      have hd : decide ((j : Int) < (m : Int)) = true := by simp; omega
      obtain ⟨gl, ol, c2, he, _, _⟩ := HHQ.out.some_ (by rw [HM.out]; omega)
      rw [HM.out] at he
      simp only [Value.slice.injEq] at he
      obtain ⟨rfl, -, rfl⟩ := he
      have k2 := HHQ.out.at_ j (by omega)
      obtain ⟨y, hy⟩ : ∃ y, q.getD j 0 = y := ⟨_, rfl⟩
      rw [hy] at k2
      have HY := Lib.hid hy
      clear hy
      have e2 : IntKind.i64.wrap ((n : Int) - (m : Int) + (j : Int)) = (n : Int) - (m : Int) + (j : Int) := IntWalk.i64_in _ (by omega)
      obtain ⟨p0, p1, _, _, _, n1, n2, ch, cd⟩ := HC.out
      by_cases hlt : n + j < ht + m
      · have hd2 : decide ((n : Int) - (m : Int) + (j : Int) < (ht : Int)) = true := by simp; omega
        have hd3 : decide ((ht : Int) ≤ (n : Int) - (m : Int) + (j : Int)) = false := by simp; omega
        cases dd with
        | false =>
          have hr : R = false := by rw [← HHR.out]; exact holdC_no (k := j) (by rw [HM.out]; exact hjm) (by rw [HN.out, HM.out, if_pos hlt])
          subst hr
          go_wp2
          go_ret
          exact ⟨rfl, _, rfl⟩
        | true =>
          go_wp2
          go_roundw
          case rel => exact ⟨j + 1, _, by omega, by go_num, rfl, Lib.hid (fun i hi => by
            rcases Nat.lt_or_ge i j with h1 | h1
            · exact HJ.out i h1
            · obtain rfl : i = j := by omega
              rw [if_pos hlt])⟩
          case measure => simp [intOf]; omega
      · have hd2 : decide ((n : Int) - (m : Int) + (j : Int) < (ht : Int)) = false := by simp; omega
        have hd3 : decide ((ht : Int) ≤ (n : Int) - (m : Int) + (j : Int)) = true := by simp; omega
        obtain ⟨z, hz⟩ : ∃ z : Nat, n + j - m = z := ⟨_, rfl⟩
        have hzi : (n : Int) - (m : Int) + (j : Int) = (z : Int) := by omega
        have hd2' : decide (z < ht) = false := by simp; omega
        have hd3' : decide (ht ≤ z) = true := by simp; omega
        clear hd2 hd3
        have e3 : IntKind.i64.wrap ((n : Int) - (m : Int) + (j : Int)) = (z : Int) := by rw [e2, hzi]
        clear e2
        have hzn : z < n := by omega
        obtain ⟨gs, cs, he, _, _, _, hcs⟩ := HHS.out (by omega)
        simp only [Value.slice.injEq] at he
        obtain ⟨rfl, -, rfl⟩ := he
        have k3 := hcs z hzn
        obtain ⟨t, htt⟩ : ∃ t, x.s.getD z 0 = t := ⟨_, rfl⟩
        rw [htt] at k3
        have HZ : Hid (agreeB (x.s.getD (n + j - m) 0) (q.getD j 0) = agreeB t y) := Lib.hid (by rw [hz, htt, HY.out])
        clear hcs htt
        have HLT := Lib.hid hlt
        have HZZ := Lib.hid hz
        clear hlt hz hzi
        have AG := fun w => agree_any t y w
        cases hag : agreeB t y with
        | false =>
          rw [hag] at AG
          have hr : R = false := by rw [← HHR.out]; exact holdC_no (k := j) (by rw [HM.out]; exact hjm) (by rw [HN.out, HM.out, if_neg HLT.out, HZ.out, hag])
          subst hr
          clear hag
          go_wp2_with (go_at_call 77; refine (AG _).mono ?_; rintro e w1 ⟨rfl, rfl⟩)
          go_ret
          exact ⟨rfl, _, rfl⟩
        | true =>
          rw [hag] at AG
          have HAG := Lib.hid hag
          clear hag
          go_wp2_with (go_at_call 77; refine (AG _).mono ?_; rintro e w1 ⟨rfl, rfl⟩)
          go_roundw
          case rel => exact ⟨j + 1, _, by omega, by go_num, rfl, Lib.hid (fun i hi => by
            rcases Nat.lt_or_ge i j with h1 | h1
            · exact HJ.out i h1
            · obtain rfl : i = j := by omega
              rw [if_neg HLT.out, HZ.out, HAG.out])⟩
          case measure => simp [intOf]; omega
    · have hd : decide ((j : Int) < (m : Int)) = false := by simp; omega
      have hr : R = true := by
        rw [← HHR.out]
        refine holdC_yes fun k hk => ?_
        rw [HN.out, HM.out]
        exact HJ.out k (by rw [HM.out] at hk; omega)
      subst hr
      go_wp2
      go_ret
      exact ⟨rfl, _, rfl⟩
end
end Go.Proofs.YteohmkceapblkaaDoor
