/- A part of the proof. -/
import Derived.Test.YtepgopnnaeoolaaGreatDoorJ39
namespace Go.Proofs.YtepgopnnaeoolaaGreatDoor
section
structure Inv (n:Nat) (p:Pl):Prop where
 sl:p.s.length≤8 * n
 fl:p.f.length≤n+1
 ar:∀ a ∈ p.f,a.ps.length≤8∧a.rs.length≤8
 hi:(p.f.map Fr.h).Pairwise (·≤·)
 lo:∀ a ∈ p.f,a.h≤p.s.length
theorem topF_snoc (f:List Fr) (t:Fr):topF (f++[t])=t:=by simp[topF]
theorem snoc_of {α:Type} (f:List α) (h:0<f.length):∃ g t,f=g++[t] :=
 ⟨f.dropLast,f.getLast (by intro e;rw[e]at h;exact absurd h (Nat.lt_irrefl _)),(List.dropLast_concat_getLast _).symm⟩
theorem Inv.ends {n:Nat} {p:Pl} (h:Inv n p) (h0:0<p.f.length):∃ f t,p.f=f++[t]∧topF p.f=t∧(∀ a ∈ f,a.h≤t.h)∧t.h≤p.s.length∧t.ps.length≤8∧t.rs.length≤8:=by
 obtain⟨f,t,e⟩:=snoc_of p.f h0;have hp:=h.hi;rw[e,List.map_append,List.pairwise_append]at hp;refine⟨f,t,e,by rw[e,topF_snoc],fun a ha=>hp.2.2 _ (List.mem_map.2 ⟨a,ha,rfl⟩) _ (by simp),h.lo t (by rw[e];simp),h.ar t (by rw[e];simp)⟩
theorem Inv.top {n:Nat} {p:Pl} (h:Inv n p) (h0:0<p.f.length):(topF p.f).h≤p.s.length∧(topF p.f).ps.length≤8∧(topF p.f).rs.length≤8:=by
 obtain⟨f,t,_,e,_,h1,h2,h3⟩:=h.ends h0;rw[e];exact⟨h1,h2,h3⟩
theorem Inv.all {n:Nat} {p:Pl} (h:Inv n p) (h0:0<p.f.length):∀ a ∈ p.f,a.h≤(topF p.f).h:=by
 obtain⟨f,t,e,e2,h1,_⟩:=h.ends h0;rw[e2,e];intro a ha;rcases List.mem_append.1 ha with h2|h2
 ·exact h1 a h2
 ·rw[List.mem_singleton.1 h2];exact nR _
theorem Inv.cut {n:Nat} {p:Pl} (h:Inv n p) (h0:0<p.f.length) (k:Nat) (hk:(topF p.f).h≤k):Inv n ⟨p.s.take k,p.f⟩ :=
 ⟨Nat.le_trans (by simp only[List.length_take];omega) h.sl,h.fl,h.ar,h.hi,fun a ha=>by
  have h1:=h.all h0 a ha;have h2:=h.lo a ha;show a.h≤(p.s.take k).length;rw[List.length_take];omega⟩
theorem Inv.up {n:Nat} {p:Pl} (h:Inv n p):Inv (n+1) p:=⟨Nat.le_trans h.sl (by omega),Nat.le_trans h.fl (by omega),h.ar,h.hi,h.lo⟩
theorem Inv.take {n:Nat} {p p':Pl} {q:List Int} (h:Inv n p) (h0:0<p.f.length) (ht:VH p q=some p'):Inv n p'∧p'.f=p.f:=by
 unfold VH at ht
 split at ht
 ·simp only[Option.some.injEq]at ht;subst ht;exact⟨h.cut h0 _ (Nat.le_max_right _ _),rfl⟩
 ·cases ht
theorem Inv.give {n:Nat} {p:Pl} {q:List Int} (h:Inv n p) (hq:q.length≤8):Inv (n+1) (giveC p q) :=
 ⟨by have:=h.sl;show(p.s++q).length≤_;rw[List.length_append];omega,Nat.le_trans h.fl (by show _≤n+1+1;omega),h.ar,h.hi,fun a ha=>by
  have:=h.lo a ha;show a.h≤(p.s++q).length;rw[List.length_append];omega⟩
theorem Inv.begin {n:Nat} {p:Pl} {op:Int} {ps rs:List Int} (h:Inv n p) (hp:ps.length≤8) (hr:rs.length≤8):Inv (n+1) (V0 p op ps rs) :=
 ⟨by have:=h.sl;show(p.s++ps).length≤_;rw[List.length_append];omega,by have:=h.fl;show(p.f++[_]).length≤_;rw[List.length_append];simp;omega,fun a ha=>by
  rcases List.mem_append.1 ha with h1|h1
  ·exact h.ar a h1
  ·rw[List.mem_singleton.1 h1];exact⟨hp,hr⟩,
  by
   show(List.map Fr.h (p.f++[_])).Pairwise _;rw[List.map_append,List.pairwise_append];refine⟨h.hi,by simp,fun a ha b hb=>?_⟩;obtain⟨c,hc,rfl⟩:=List.mem_map.1 ha;simp only[List.map_cons,List.map_nil,List.mem_singleton]at hb;subst hb;exact h.lo c hc,fun a ha=>by
   show a.h≤(p.s++ps).length;rw[List.length_append];rcases List.mem_append.1 ha with h1|h1
   ·have:=h.lo a h1;omega
   ·rw[List.mem_singleton.1 h1];show p.s.length≤_;omega⟩
theorem Inv.dead {n:Nat} {p:Pl} (h:Inv n p) (h0:0<p.f.length):Inv n (deadC p):=by
 obtain⟨f,t,e,e2,h1,h2,h3⟩:=h.ends h0;have hf:(deadC p).f=f++[{ t with dead:=true }]:=by
  unfold deadC;simp only;rw[e2,e];simp
 have hs:(deadC p).s=p.s.take t.h:=by unfold deadC;simp only;rw[e2]
 have hm:∀ a ∈ (deadC p).f,a.h≤t.h:=fun a ha=>by
  rw[hf]at ha;rcases List.mem_append.1 ha with h4|h4
  ·exact h1 a h4
  ·rw[List.mem_singleton.1 h4];exact nR _
 refine⟨by rw[hs,List.length_take];have:=h.sl;omega,by rw[hf];have:=h.fl;rw[e]at this;simp at this ⊢;omega,fun a ha=>?_,?_,fun a ha=>by rw[hs,List.length_take];have:=hm a ha;omega⟩
 ·rw[hf]at ha;rcases List.mem_append.1 ha with h4|h4
  ·exact h.ar a (by rw[e];simp[h4])
  ·rw[List.mem_singleton.1 h4];exact h3
 ·rw[hf];have:=h.hi;rw[e]at this;simpa using this
theorem Inv.leave {n:Nat} {p p':Pl} {q:List Int} (h:Inv n p) (h0:0<p.f.length) (hl:VL p q=some p'):Inv n p':=by
 unfold VL at hl;obtain⟨p1,h1,rfl⟩:=Option.map_eq_some_iff.1 hl;obtain⟨h2,h3⟩:=h.take h0 h1;exact h2.dead (by rw[h3];exact h0)
theorem Inv.finish {n:Nat} {p p':Pl} {fr:Fr} (h:Inv n p) (h0:0<p.f.length) (hl:finishC p=some (fr,p')):Inv n p'∧fr.ps.length≤8∧fr.rs.length≤8∧p'.f.length+1=p.f.length:=by
 unfold finishC at hl;obtain⟨p1,h1,h2⟩:=Option.bind_eq_some_iff.1 hl;obtain⟨h3,h4⟩:=h.take h0 h1
 split at h2
 ·rename_i h5
  simp only[Option.some.injEq,Prod.mk.injEq]at h2;obtain⟨rfl,rfl⟩:=h2;obtain⟨f,t,e,e2,h6,h7,h8⟩:=h.ends h0;have ht:p.f.take (p.f.length - 1)=f:=by rw[e];simp
  rw[e2]at h5 ⊢;refine⟨⟨h3.sl,by show(p.f.take _).length≤_;rw[List.length_take];have:=h.fl;omega,fun a ha=>h.ar a (List.mem_of_mem_take ha),?_,fun a ha=>?_⟩,h8.1,h8.2,by show(p.f.take _).length+1=_;rw[List.length_take];omega⟩
  ·have:=h.hi;show(List.map Fr.h (p.f.take _)).Pairwise _;rw[ht];rw[e,List.map_append,List.pairwise_append]at this;exact this.1
  ·have ha':a ∈ p.f.take (p.f.length - 1):=ha;rw[ht]at ha';show a.h≤p1.s.length;have h9:=h6 a ha';have h10:t.h≤p1.s.length:=h3.lo t (by rw[h4,e];simp);omega
 ·cases h2
theorem Inv.pop {n:Nat} {p:Pl} {q:Int×Pl} (h:Inv n p) (h0:0<p.f.length) (hl:popC p=some q):Inv n q.2∧q.2.f=p.f:=by
 unfold popC at hl
 split at hl
 ·split at hl
  ·simp only[Option.some.injEq]at hl;subst hl;exact⟨h,rfl⟩
  ·cases hl
 ·simp only[Option.some.injEq]at hl;subst hl;exact⟨h.cut h0 _ (by omega),rfl⟩
theorem labelC_len {n:Nat} {p:Pl} (h:Inv n p) (k:Nat):(WV p k).length≤8:=by
 unfold WV;by_cases hk:p.f.length - 1 - k<p.f.length
 ·have hm:p.f.getD (p.f.length - 1 - k) fr0 ∈ p.f:=Ve _ _ _ hk
  split
  ·exact(h.ar _ hm).1
  ·exact(h.ar _ hm).2
 ·have h1:p.f.length≤p.f.length - 1 - k:=by omega
  have h0:p.f.getD (p.f.length - 1 - k) fr0=fr0:=by rw[List.getD_eq_getElem?_getD,List.getElem?_eq_none h1];rfl
  rw[h0];exact nZ _
structure EnvOk (e:Env):Prop where
 ro:e.ro.length≤8
 ty:∀ t ∈ e.m.types,t.1.length≤8∧t.2.length≤8
theorem EnvOk.sig {e:Env} (h:EnvOk e) (k:Int):((WT e.m k).getD ([],[])).1.length≤8∧((WT e.m k).getD ([],[])).2.length≤8:=by
 cases hs:WT e.m k with
 | none=>exact⟨nZ _,nZ _⟩
 | some t=>exact h.ty t (fsigB_mem hs)
theorem EnvOk.block {e:Env} (h:EnvOk e) (k:Int):((WL e.m k).getD ([],[])).1.length≤8∧((WL e.m k).getD ([],[])).2.length≤8:=by
 unfold WL
 split
 ·exact⟨by simp,by simp⟩
 split
 ·exact⟨by simp,by simp⟩
 split
 ·exact⟨by simp,by simp⟩
 split
 ·exact⟨by simp,by simp⟩
 cases hs:typeB e.m k with
 | none=>exact⟨nZ _,nZ _⟩
 | some t=>exact h.ty t (typeB_mem hs)
theorem EnvOk.eff {e:Env} (h:EnvOk e) {n:Nat} {p:Pl} (hp:Inv n p) (x:VV):(Vx e p x).1.length≤9∧(Vx e p x).2.length≤8:=by
 have hl:=labelC_len hp x.a.toNat;have hs:=h.sig x.a;have hf:=fixedC_len x.op;unfold Vx
 split
 ·exact⟨by rw[List.length_append];simp;omega,hl⟩
 split
 ·exact⟨by omega,by omega⟩
 split
 ·exact⟨by simp,by simp⟩
 split
 ·exact⟨by simp,by simp⟩
 split
 ·exact⟨by simp,by simp⟩
 split
 ·exact⟨by simp,by simp⟩
 split
 ·exact⟨by simp,by simp⟩
 split
 ·exact⟨by simp,by simp⟩
 split
 ·exact⟨by simp,by simp⟩
 exact⟨by omega,by omega⟩
theorem Inv.follow {e:Env} {n:Nat} {p q:Pl} {x:VV} (he:EnvOk e) (h:Inv n p) (h0:0<p.f.length) (hf:Wr e p x=some q):Inv (n+1) q:=by
 unfold Wr at hf;by_cases c0:x.op=2∨x.op=3∨x.op=4
 ·rw[if_pos c0]at hf;unfold openC at hf;obtain⟨p1,h1,h2⟩:=Option.bind_eq_some_iff.1 hf;obtain⟨p2,h3,rfl⟩:=Option.map_eq_some_iff.1 h2;have h4:Inv n p1∧p1.f=p.f:=by
   split at h1
   ·exact h.take h0 h1
   ·simp only[Option.some.injEq]at h1;subst h1;exact⟨h,rfl⟩
  have h5:=h4.1.take (by rw[h4.2];exact h0) h3;exact h5.1.begin (he.block _).1 (he.block _).2
 rw[if_neg c0]at hf;by_cases c1:x.op=5
 ·rw[if_pos c1]at hf;unfold divideC at hf;obtain⟨⟨fr,p1⟩,h1,rfl⟩:=Option.map_eq_some_iff.1 hf;obtain⟨h2,h3,h4,_⟩:=h.finish h0 h1;exact h2.begin h3 h4
 rw[if_neg c1]at hf;by_cases c2:x.op=11
 ·rw[if_pos c2]at hf;unfold closeC at hf;obtain⟨⟨fr,p1⟩,h1,h2⟩:=Option.bind_eq_some_iff.1 hf;obtain⟨h3,h4,h5,_⟩:=h.finish h0 h1
  split at h2
  ·cases h2
  ·simp only[Option.some.injEq]at h2;subst h2;exact h3.give h5
 rw[if_neg c2]at hf;by_cases c3:x.op=0
 ·rw[if_pos c3]at hf;exact(h.leave h0 hf).up
 rw[if_neg c3]at hf;by_cases c4:x.op=12
 ·rw[if_pos c4]at hf;exact(h.leave h0 hf).up
 rw[if_neg c4]at hf;by_cases c5:x.op=14
 ·rw[if_pos c5]at hf;unfold branchC at hf;obtain⟨p1,h1,h2⟩:=Option.bind_eq_some_iff.1 hf;obtain⟨h3,h4⟩:=h.take h0 h1
  split at h2
  ·exact(h3.leave (by rw[h4];exact h0) h2).up
  ·cases h2
 rw[if_neg c5]at hf;by_cases c6:x.op=15
 ·rw[if_pos c6]at hf;exact(h.leave h0 hf).up
 rw[if_neg c6]at hf;by_cases c7:x.op=18
 ·rw[if_pos c7]at hf
  split at hf
  ·exact(h.leave h0 hf).up
  ·cases hf
 rw[if_neg c7]at hf;by_cases c8:x.op=26
 ·rw[if_pos c8]at hf;obtain⟨p1,h1,rfl⟩:=Option.map_eq_some_iff.1 hf;exact(h.pop h0 h1).1.up
 rw[if_neg c8]at hf;by_cases c9:x.op=27
 ·rw[if_pos c9]at hf;unfold chooseC at hf;obtain⟨p1,h1,h2⟩:=Option.bind_eq_some_iff.1 hf;obtain⟨u,h3,h4⟩:=Option.bind_eq_some_iff.1 h2;obtain⟨l,h5,h6⟩:=Option.bind_eq_some_iff.1 h4;obtain⟨a1,a2⟩:=h.take h0 h1;obtain⟨b1,b2⟩:=a1.pop (by rw[a2];exact h0) h3;obtain⟨c1,c2⟩:=b1.pop (by rw[b2,a2];exact h0) h5
  split at h6
  ·simp only[Option.some.injEq]at h6;subst h6;exact c1.give (by simp)
  ·cases h6
 rw[if_neg c9]at hf;by_cases c10:x.op=36
 ·rw[if_pos c10]at hf
  split at hf
  ·exact(h.take h0 hf).1.up
  ·cases hf
 rw[if_neg c10]at hf;obtain⟨p1,h1,rfl⟩:=Option.map_eq_some_iff.1 hf;exact(h.take h0 h1).1.give (he.eff h x).2
theorem inPlaceC_pos {p:Pl} {op:Int} (h:Vt p op=true):0<p.f.length:=by
 unfold Vt at h
 split at h
 ·cases h
 ·omega
theorem Inv.step {e:Env} {n:Nat} {p:Pl} {x:VV} (he:EnvOk e) (h:Inv n p) (hs:(VZ e p x).1=0):Inv (n+1) (VZ e p x).2:=by
 unfold VZ at hs ⊢
 split at hs
 ·cases hs
 rename_i h1
 rw[if_neg h1]
 split at hs
 ·cases hs
 rename_i h2
 rw[if_neg h2]
 split at hs
 ·cases hs
 rename_i h3
 rw[if_neg h3];have h0:0<p.f.length:=inPlaceC_pos (op:=x.op) (by cases hi:Vt p x.op with|true=>rfl|false=>exact absurd hi h1);cases hf:Wr e p x with
 | none=>rw[hf]at hs;cases hs
 | some q=>exact h.follow he h0 hf
theorem Inv.first (op:Int) (ro:List Int) (hr:ro.length≤8):Inv 0 (V0 ⟨[],[]⟩ op [] ro) :=
 ⟨nR _,nR _,fun a ha=>by
  have ha:a ∈ [(⟨op,[],ro,0,false⟩:Fr)]:=ha;rw[List.mem_singleton.1 ha];exact⟨nZ _,hr⟩,by simp[V0],fun a ha=>by
  have ha:a ∈ [(⟨op,[],ro,0,false⟩:Fr)]:=ha;rw[List.mem_singleton.1 ha];exact nR _⟩
end
section
def VN {α:Type} (g:α→Int):List α→Int
 | []=>0
 | a :: l=>if g a=0 then VN g l else g a
theorem firstC_zero {α:Type} {g:α→Int} {l:List α} {d:α} (h:∀ j,j<l.length→g (l.getD j d)=0):VN g l=0:=by
 induction l with
 | nil=>rfl
 | cons a l ih =>
  have h0:g a=0:=h 0 (by simp);rw[VN,if_pos h0];exact ih fun j hj=>h (j+1) (by simp;omega)
theorem firstC_at {α:Type} {g:α→Int} {d:α}:∀ {l:List α} {k:Nat},(∀ j,j<k→g (l.getD j d)=0)→k<l.length→g (l.getD k d)≠0→VN g l=g (l.getD k d):=by
 intro l;induction l with
 | nil=>intro k _ hk;simp at hk
 | cons a l ih =>
  intro k h hk hn;cases k with
  | zero=>rw[VN];exact if_neg hn
  | succ k =>
   have h0:g a=0:=h 0 (by omega);rw[VN,if_pos h0];exact ih (fun j hj=>h (j+1) (by omega)) (by simpa using hk) hn
def matC (f:Fnc):Int:=(matchP (f.code.map VV.op)).2
def impIn (n:Nat) (i:ByteArray×ByteArray×Int):Bool:=Wm i.2.2 n
def funIn (n:Nat) (f:Fnc):Bool:=Wm f.ty n
def UG (m:W8):Bool:=m.imps.all (impIn m.types.length) && m.funs.all (funIn m.types.length)
def countC (m:W8) (kind:Int):Nat:=if kind=0 then m.imps.length+m.funs.length else if kind=2 then m.mems.length else m.globs.length
def expIn (m:W8) (e:ByteArray×Int×Int):Bool:=Wm e.2.2 (countC m e.2.1)
def datIn (n:Nat) (d:Dat):Bool:=!d.act || Wm d.mem n
def typPl (t:List Int×List Int):Bool:=decide (t.2.length≤1)
def expPl (m:W8) (e:ByteArray×Int×Int):Bool:=!(decide (e.2.1=3) && (m.globs.getD e.2.2.toNat UK).2.1)
def plainC (m:W8):Bool:=m.types.all typPl && m.datas.all Dat.act && m.exps.all (expPl m) && decide (m.mems.length≤1)
def funcsC (m:W8) (prof:Int):Int:=VN (fun k:Nat=>(Um m (k:Int) prof).2) (List.range m.funs.length)
def Vl (m:W8) (prof:Int):Int :=
 if prof≠1∧prof≠2 then 1
 else if Vf m≠0 then Vf m
 else if VN matC m.funs≠0 then VN matC m.funs
 else if (UG m && m.exps.all (expIn m) && m.datas.all (datIn m.mems.length))=false then 23
 else if prof=1∧plainC m=false then 24
 else funcsC m prof
end
section
open Go.RowKit
set_option maxHeartbeats 4000000
set_option maxRecDepth 100000
def wxOf (G:Nat) (v:Mv) (m:W8) (prof:Int) (lov:Value) (lo:List Int) (rv:Value) (ro:List Int):Wx:=⟨G,false,120,135,v,m,prof,lov,lo,rv,ro⟩
def ws0:Ws:=⟨.slice none 0 0,.slice none 0 0,[],[]⟩
theorem wk_start (w:World) (v:Mv) (m:W8) (prof:Int) (lov:Value) (lo:List Int) (rv:Value) (ro:List Int) (hm:WQ (fun k=>k<w.heap.size) w v m) (hl:Wg (fun k=>k<w.heap.size) w lov lo) (hr:Wg (fun k=>k<w.heap.size) w rv ro) :
 Wk (wxOf w.heap.size v m prof lov lo rv ro) (w.alloc (.cells (Vj (wxOf w.heap.size v m prof lov lo rv ro) ws0) 120)) ws0∧∀ k,k<w.heap.size→WB (wxOf w.heap.size v m prof lov lo rv ro) (w.alloc (.cells (Vj (wxOf w.heap.size v m prof lov lo rv ro) ws0) 120)) ws0 k:=by
 have hfr:∀ k,k<w.heap.size→WB (wxOf w.heap.size v m prof lov lo rv ro) (w.alloc (.cells (Vj (wxOf w.heap.size v m prof lov lo rv ro) ws0) 120)) ws0 k:=fun k hk=>by
  refine⟨by rw[Wq];omega,?_⟩;rintro(e|e|e)
  ·have:k=w.heap.size:=e;omega
  ·cases e
  ·cases e
 have hb:=Wi (bR w.heap.size w) (.cells (Vj (wxOf w.heap.size v m prof lov lo rv ro) ws0) 120);have hk:Wf (fun k=>k<w.heap.size) w (w.alloc (.cells (Vj (wxOf w.heap.size v m prof lov lo rv ro) ws0) 120)):=Wf.below hb fun _ hk=>hk;exact⟨⟨VO w _,World.ownsRow_nil _ _ _ _,fun g hg=>(by cases hg),World.ownsRow_nil _ _ _ _,fun g hg=>(by cases hg),⟨hm.keep hk hfr,hl.keep hk hfr,hr.keep hk hfr,fun f hf=>(by cases hf)⟩⟩,hfr⟩
def BegPost (v:Mv) (m:W8) (f prof:Int) (w:World) (e:Ending) (w':World):Prop :=
 ∃ F x,F.prg∧F.v=v∧F.m=m∧F.env=UD m f.toNat prof∧e=.returned (.tuple #[.pointer (some ⟨F.G,0,none⟩),.int .i64 0])∧Wk F w' x∧x.pl=V0 ⟨[],[]⟩ 2 [] F.ro∧(∀ k,k<w.heap.size→WB F w' x k)∧Below w.heap.size w w'
theorem beg_end {w W4 w':World} {G:Nat} {v:Mv} {m:W8} {f prof:Int} {lov rv:Value} {x:Ws} {ro lo:List Int} (hlo:(UD m f.toNat prof).lo=lo) (hro:(UD m f.toNat prof).ro=ro) (hb:Below w.heap.size w W4)
 (hg:Wk (wxOf G v m prof lov lo rv ro) w' x) (hs:WE (wxOf G v m prof lov lo rv ro) W4 ws0 w' x) (hfr:∀ k,k<w.heap.size→WB (wxOf G v m prof lov lo rv ro) W4 ws0 k)
 (hf:x.f=[⟨2,.slice none 0 0,rv,[],ro,0,false⟩]) (hx:x.s=[]) :
 BegPost v m f prof w (.returned (.tuple #[.pointer (some ⟨G,0,none⟩),.int .i64 0])) w':=by
 refine⟨_,x,⟨rfl,rfl,rfl⟩,rfl,rfl,?_,rfl,hg,?_,fun k hk=>hs.mono k (hfr k hk),hb.trans (hs.keeps.to_below hfr)⟩
 ·show(⟨m,prof,lo,ro⟩:Env)=_;rw[← hro,← hlo];rfl
 ·unfold Ws.pl V0;rw[hf,hx];rfl
theorem beg_any (w:World) (v:Mv) (m:W8) (h:WQ (fun k=>k<w.heap.size) w v m) (hs:VI m) (f:Nat) (hf:f<m.funs.length) (t:List Int×List Int) (ht:WT m ((m.imps.length:Int)+(f:Int))=some t) (prof:Int) :
 Calls Tryz.prog 42 #[.agg v.cells,.int .i64 (f:Int),.int .i64 prof] w (BegPost v m (f:Int) prof w):=by
 have hro:(UD m (f:Int).toNat prof).ro=t.2:=by show((WT m _).getD ([],[])).2=t.2;rw[Int.toNat_natCast,ht];rfl
 have hlo:(UD m (f:Int).toNat prof).lo=locB m ((m.imps.length:Int)+(f:Int)):=by show locB m _=_;rw[Int.toNat_natCast]
 have hwi:Wm (f:Int) m.funs.length=true:=by unfold Wm;simp;omega
 obtain⟨fi,hfi⟩:∃ fi:Int,fi=(m.imps.length:Int)+(f:Int):=⟨_,rfl⟩;have hs1:=hs.2.1;have hs2:=hs.2.2.1;have hfb : -9223372036854775808≤fi∧fi≤9223372036854775807:=by omega
 rw[← hfi]at ht hlo;have HRO:=hD hro;have HLO:=hD hlo;have HSG:=hD (fun wz (hb:Below w.heap.size w wz)=>ht ▸ sig_any wz v m (h.keep (Wf.below hb fun _ hk=>hk) fun _ hk=>WW hk hb.size) hs fi hfb);have HLC:=hD (fun wz (hb:Below w.heap.size w wz)=>locals_any wz v m (h.keep (Wf.below hb fun _ hk=>hk) fun _ hk=>WW hk hb.size) hs fi hfb);generalize locB m fi=lo at HLC HLO;have HMA:=hD (fun wz (hb:Below w.heap.size w wz)=>(h.keep (Wf.below hb fun _ hk=>hk) fun _ hk=>WW hk hb.size:WQ (fun k=>k<wz.heap.size) wz v m));obtain⟨A0,c0,A1,c1,A2,c2,A3,c3,A4,c4,A5,c5,A6,c6,A7,c7,rfl⟩:=WC h;simp only[Mv.cells]at HSG HLC ⊢;clear h hs;obtain⟨n0,hn0⟩:∃ n,m.types.length=n:=⟨_,rfl⟩;obtain⟨n1,hn1⟩:∃ n,m.imps.length=n:=⟨_,rfl⟩;obtain⟨n2,hn2⟩:∃ n,m.funs.length=n:=⟨_,rfl⟩;obtain⟨n3,hn3⟩:∃ n,m.mems.length=n:=⟨_,rfl⟩;obtain⟨n4,hn4⟩:∃ n,m.globs.length=n:=⟨_,rfl⟩;obtain⟨n5,hn5⟩:∃ n,m.exps.length=n:=⟨_,rfl⟩;obtain⟨n6,hn6⟩:∃ n,m.datas.length=n:=⟨_,rfl⟩;obtain⟨n7,hn7⟩:∃ n,m.cus.length=n:=⟨_,rfl⟩;rw[hn0,hn1,hn2,hn3,hn4,hn5,hn6,hn7]at HSG HLC HMA ⊢;rw[hn1]at hfi hs1;rw[hn2]at hwi hs2;have e1:IntKind.i64.wrap ((n1:Int)+(f:Int))=fi:=by rw[← hfi];exact IntWalk.i64_in _ (by omega)
 obtain⟨W,hW⟩:∃ W,W=w.alloc (.cells #[.slice A0 n0 c0,.slice A1 n1 c1,.slice A2 n2 c2,.slice A3 n3 c3,.slice A4 n4 c4,.slice A5 n5 c5,.slice A6 n6 c6,.slice A7 n7 c7] 33):=⟨_,rfl⟩;have hbw:Below w.heap.size w W:=hW ▸ (bR _ _).alloc (nR _) _;have HBW:=hD hbw;have HB8:Hid (∀ wz,Below W.heap.size W wz→V4 wz w.heap.size (.slice A0 n0 c0) (.slice A1 n1 c1) (.slice A2 n2 c2) (.slice A3 n3 c3) (.slice A4 n4 c4) (.slice A5 n5 c5) (.slice A6 n6 c6) (.slice A7 n7 c7)):=hD fun wz hz=>by rw[hW]at hz;exact Vq w _ _ _ _ _ _ _ _ hz
 have HW:=hD hW;obtain⟨b0,b1,b2,b3,b4,b5,b6,b7⟩:=HB8.out W (bR _ _);clear hbw hW hn0 hn1 hn2 hn3 hn4 hn5 hn6 hn7 hs1 hs2 hfi hfb hf ht hro hlo;go_enter Tryz.func42,Tryz.ntmps42
 go_upto_region 1 with (fail)
 rw[← HW.out]
 go_upto_region 4 with (first|(go_at_call 64;refine(V7 _ _ _).mono ?_;rintro e w1 ⟨rfl,rfl⟩;rw[hwi]))
 clear b0 b1 b2 b3 b4 b5 b6 b7 hwi;obtain⟨b0,b1,b2,b3,b4,b5,b6,b7⟩:=HB8.out W (bR _ _)
 go_upto_region 5 with (first|(go_at_call 65;refine(HSG.out W HBW.out).mono ?_;rintro e w1 ⟨pv,rv,rfl,hp,hr,hb1⟩;obtain⟨Ap,cp,rfl,_,_⟩:=hp.form;obtain⟨Ar,cr,rfl,_,_⟩:=hr.form;have HB1:=hD hb1;have HRV:=hD hr;clear hp hr hb1))
 obtain⟨W2,hW2⟩:∃ W2,W2=w1.alloc (.cells #[.slice Ap t.1.length cp,.slice Ar t.2.length cr] 66):=⟨_,rfl⟩;have HB2:Hid (Below W.heap.size W W2):=hD (hW2 ▸ Wi HB1.out _);have HB12:Hid (Below w1.heap.size w1 W2):=hD (hW2 ▸ Wi (bR _ _) _);have HZ:Hid (∀ wz,Below W2.heap.size W2 wz→wz.cell? ⟨w1.heap.size,1,none⟩=some (.slice Ar t.2.length cr)∧V4 wz w.heap.size (.slice A0 n0 c0) (.slice A1 n1 c1) (.slice A2 n2 c2) (.slice A3 n3 c3) (.slice A4 n4 c4) (.slice A5 n5 c5) (.slice A6 n6 c6) (.slice A7 n7 c7)):=hD fun wz hz=>by
  refine⟨?_,HB8.out wz (Wa HB2.out hz)⟩;rw[hW2]at hz;exact(hz.cell (p:=⟨w1.heap.size,1,none⟩) (by simp)).trans (wN w1 _ _ 1)
 rw[← hW2];clear hW2 b0 b1 b2 b3 b4 b5 b6 b7;obtain⟨z1,b0,b1,b2,b3,b4,b5,b6,b7⟩:=HZ.out W2 (bR _ _)
 go_upto_region 7 with (fail)
 go_region_held3 (fun wz=>wz.cell? ⟨w1.heap.size,1,none⟩=some (.slice Ar t.2.length cr)∧wz.cell? ⟨w.heap.size,0,none⟩=some (.slice A0 n0 c0)∧wz.cell? ⟨w.heap.size,1,none⟩=some (.slice A1 n1 c1)∧wz.cell? ⟨w.heap.size,2,none⟩=some (.slice A2 n2 c2)∧wz.cell? ⟨w.heap.size,3,none⟩=some (.slice A3 n3 c3)∧wz.cell? ⟨w.heap.size,4,none⟩=some (.slice A4 n4 c4)∧wz.cell? ⟨w.heap.size,5,none⟩=some (.slice A5 n5 c5)∧wz.cell? ⟨w.heap.size,6,none⟩=some (.slice A6 n6 c6)∧wz.cell? ⟨w.heap.size,7,none⟩=some (.slice A7 n7 c7))
  (first|go_keep|exact⟨z1,b0,b1,b2,b3,b4,b5,b6,b7⟩|exact HX3.out)
  ((go_at_call 66;refine(HLC.out _ (Wa HBW.out (Wa HB2.out ((bR _ _).drew)))).mono ?_;rintro e w3 ⟨Al,cl,rfl,_,hl3,hb3⟩;have HL3:=hD hl3;have HB3:=hD (Wa ((bR W2.heap.size W2).drew) hb3);have HX3:=hD (HZ.out _ HB3.out);clear hl3 hb3))
 clear z1 b0 b1 b2 b3 b4 b5 b6 b7;obtain⟨W4,hW4⟩:∃ W4,W4=w3.alloc (.cells #[.slice none 0 0,.slice none 0 0,.slice A0 n0 c0,.slice A1 n1 c1,.slice A2 n2 c2,.slice A3 n3 c3,.slice A4 n4 c4,.slice A5 n5 c5,.slice A6 n6 c6,.slice A7 n7 c7,.int .i64 prof,.slice Al lo.length cl,.slice Ar t.2.length cr] 120):=⟨_,rfl⟩;have hb23:Below W.heap.size W w3:=Wa HB2.out HB3.out;have hr3:Wg (fun k=>k<w3.heap.size) w3 (.slice Ar t.2.length cr) t.2:=HRV.out.keep (Wf.below (HB12.out.trans (HB3.out.mono HB12.out.size)) fun k hk=>by rcases hk with hk|hk;exact hk.elim;exact hk.2) fun k hk=>by
  have h1:=HB12.out.size;have h2:=HB3.out.size;rcases hk with hk|hk
  ·exact hk.elim
  ·omega
 have hst:=wk_start w3 _ m prof (.slice Al lo.length cl) lo (.slice Ar t.2.length cr) t.2 (HMA.out w3 (Wa HBW.out hb23)) (HL3.out.keep (.refl _ _) fun _ hk=>hk.2) hr3;have HST:=hD (show Wk _ W4 ws0∧∀ k,k<w3.heap.size→WB _ W4 ws0 k by rw[hW4];exact hst);have HW4:=hD hW4;have hz4:=HZ.out W4 (Wa HB3.out (hW4 ▸ Wi (bR _ _) _));have HZ4:=hD hz4;have z1:=hz4.1;have HB23:=hD hb23;have HLT:Hid (w1.heap.size<w3.heap.size):=hD (WW (wL W2 _ (HZ.out W2 (bR _ _)).1) HB3.out.size);rw[← HW4.out];clear hst hr3 hb23 hW4 hz4
 go_upto_region 8 with (fail)
 go_region_held3 (fun wz=>wz.cell? ⟨w1.heap.size,1,none⟩=some (.slice Ar t.2.length cr))
  (first|go_keep|exact z1|exact HX5.out)
  ((go_at_call 67;refine(begin_any ⟨rfl,rfl,rfl⟩ HST.out.1.drew.1 2 (.slice none 0 0) (.slice Ar t.2.length cr) [] t.2 (Wg.nil _ _) HST.out.1.drew.1.reads.own (by show 0+0≤1000000;omega) (by show 0+1≤1000000;omega)).mono ?_;rintro e w5 ⟨rfl,x5,hg5,hs5,hf5,hx5⟩;have HG5:=hD hg5;have HS5:=hD (HST.out.1.drew.2.trans hs5);have HF5:=hD hf5;have HX55:=hD hx5;have HX5:=hD ((HS5.out.keeps.cell (p:=⟨w1.heap.size,1,none⟩) (HST.out.2 _ HLT.out)).trans z1);clear hg5 hs5 hf5 hx5))
 clear z1;go_wp2
 go_ret2
 have hsz:w.heap.size≤w3.heap.size:=(Wa HBW.out HB23.out).size;exact beg_end HLO.out HRO.out (by rw[HW4.out];exact Wi (Wa HBW.out HB23.out) _) HG5.out HS5.out (fun k hk=>HST.out.2 k (by omega)) (by rw[HF5.out];rfl) (by rw[HX55.out];rfl)
end
section
open Go.RowKit
set_option maxHeartbeats 4000000
set_option maxRecDepth 100000
theorem Z5 {P:Prop}(h:P:=by
 go_ret;refine⟨x3,HG3.out,HG1.out.2.trans HS3.out,rfl,fun q hq=>?_⟩;obtain rfl:=Option.some.inj hq;show Ws.pl x3=_;unfold Ws.pl;rw[HX3.out.1,HX3.out.2]):P:=h
theorem Z6 {P:Prop}(h:P:=by
 go_ret;exact⟨x3,HG3.out,HG1.out.2.trans HS3.out,rfl,fun q hq=>(by cases hq)⟩):P:=h
theorem pop_pl (x:Ws):popC x.pl=if x.s.length≤x.top.h then (if x.top.dead then some (0,x.pl) else none) else some (x.s.getD (x.s.length - 1) 0,⟨x.s.take (x.s.length - 1),x.pl.f⟩):=by
 unfold popC;rw[Ws.pl_top];rfl
theorem follow_0 {F:Wx} {w:World} {x:Ws} (hF:F.prg) (h:Wk F w x) (h0:0<x.f.length) (hs:x.s.length≤900000) (hh:x.top.h≤x.s.length) (a b n:Int) (l:List Int) (Al:Option Addr) (nl cl:Nat) :
 Calls Tryz.prog 71 #[.pointer (some ⟨F.G,0,none⟩),.agg #[.int .i64 0,.int .i64 a,.int .i64 b,.int .u64 n,.slice Al nl cl]] w (Vb F w x (Wr F.env x.pl ⟨0,a,b,n,l⟩)):=by
 rw[show Wr F.env x.pl ⟨0,a,b,n,l⟩=VL x.pl [] by unfold Wr;simp];obtain⟨W,hW⟩:∃ W,W=w.alloc (.cells #[.int .i64 0,.int .i64 a,.int .i64 b,.int .u64 n,.slice Al nl cl] 76):=⟨_,rfl⟩;have k0:W.cell? ⟨w.heap.size,0,none⟩=some (.int .i64 0):=by rw[hW,wN];rfl
 have HG1:=hD (hW ▸ h.alloc (.cells #[.int .i64 0,.int .i64 a,.int .i64 b,.int .u64 n,.slice Al nl cl] 76):Wk F W x∧WE F w x W x);have HW:=hD hW;have HT:=hD (wleave_any hF HG1.out.1 h0 (by omega) (.slice none 0 0) [] (Wg.nil _ _) (by simp) hh);clear hW h;cases hR:Vn x.top.h x.top.dead x.s [] with
 | false =>
  rw[leave_no hR];rw[hR]at HT;clear hR;go_enter Tryz.func71,Tryz.ntmps71
  go_upto_region 1 with (fail)
  rw[← HW.out];go_wp2_with (go_at_call 96;refine HT.out.mono ?_;rintro e w3 ⟨rfl,x3,g3,s3,-⟩;have HG3:=hD g3;have HS3:=hD s3;clear g3 s3)
  exact Z6
 | true =>
  rw[leave_yes hR];rw[hR]at HT;clear hR;go_enter Tryz.func71,Tryz.ntmps71
  go_upto_region 1 with (fail)
  rw[← HW.out];go_wp2_with (go_at_call 96;refine HT.out.mono ?_;rintro e w3 ⟨rfl,x3,g3,s3,hx⟩;have HG3:=hD g3;have HS3:=hD s3;have HX3:=hD (hx rfl);clear g3 s3 hx)
  exact Z5
theorem follow_11 {F:Wx} {w:World} {x:Ws} (hF:F.prg) (h:Wk F w x) (h0:0<x.f.length) (hs:x.s.length≤900000) (hh:x.top.h≤x.s.length) (hrl:x.top.rs.length≤100000) (a b n:Int) (l:List Int) (Al:Option Addr) (nl cl:Nat) :
 Calls Tryz.prog 71 #[.pointer (some ⟨F.G,0,none⟩),.agg #[.int .i64 11,.int .i64 a,.int .i64 b,.int .u64 n,.slice Al nl cl]] w (Vb F w x (Wr F.env x.pl ⟨11,a,b,n,l⟩)):=by
 rw[show Wr F.env x.pl ⟨11,a,b,n,l⟩=closeC x.pl by unfold Wr;simp];obtain⟨W,hW⟩:∃ W,W=w.alloc (.cells #[.int .i64 11,.int .i64 a,.int .i64 b,.int .u64 n,.slice Al nl cl] 76):=⟨_,rfl⟩;have k0:W.cell? ⟨w.heap.size,0,none⟩=some (.int .i64 11):=by rw[hW,wN];rfl
 have HG1:=hD (hW ▸ h.alloc (.cells #[.int .i64 11,.int .i64 a,.int .i64 b,.int .u64 n,.slice Al nl cl] 76):Wk F W x∧WE F w x W x);have HW:=hD hW;have HT:=hD (close_any hF HG1.out.1 h0 hs hrl hh);clear hW h;cases hR:x.mayShut with
 | false =>
  rw[close_no hR];rw[hR]at HT;clear hR;go_enter Tryz.func71,Tryz.ntmps71
  go_upto_region 1 with (fail)
  rw[← HW.out];go_wp2_with (go_at_call 95;refine HT.out.mono ?_;rintro e w3 ⟨rfl,x3,g3,s3,-⟩;have HG3:=hD g3;have HS3:=hD s3;clear g3 s3)
  exact Z6
 | true =>
  rw[close_yes hR];rw[hR]at HT;clear hR;go_enter Tryz.func71,Tryz.ntmps71
  go_upto_region 1 with (fail)
  rw[← HW.out];go_wp2_with (go_at_call 95;refine HT.out.mono ?_;rintro e w3 ⟨rfl,x3,g3,s3,hx⟩;have HG3:=hD g3;have HS3:=hD s3;have HX3:=hD (hx rfl);clear g3 s3 hx)
  exact Z5
theorem follow_26 {F:Wx} {w:World} {x:Ws} (hF:F.prg) (h:Wk F w x) (h0:0<x.f.length) (hs:x.s.length≤900000) (a b n:Int) (l:List Int) (Al:Option Addr) (nl cl:Nat) :
 Calls Tryz.prog 71 #[.pointer (some ⟨F.G,0,none⟩),.agg #[.int .i64 26,.int .i64 a,.int .i64 b,.int .u64 n,.slice Al nl cl]] w (Vb F w x (Wr F.env x.pl ⟨26,a,b,n,l⟩)):=by
 rw[show Wr F.env x.pl ⟨26,a,b,n,l⟩=(popC x.pl).map fun q=>q.2 by unfold Wr;simp];obtain⟨W,hW⟩:∃ W,W=w.alloc (.cells #[.int .i64 26,.int .i64 a,.int .i64 b,.int .u64 n,.slice Al nl cl] 76):=⟨_,rfl⟩;have k0:W.cell? ⟨w.heap.size,0,none⟩=some (.int .i64 26):=by rw[hW,wN];rfl
 have HG1:=hD (hW ▸ h.alloc (.cells #[.int .i64 26,.int .i64 a,.int .i64 b,.int .u64 n,.slice Al nl cl] 76):Wk F W x∧WE F w x W x);have HW:=hD hW;have HT:=hD (pop_any hF HG1.out.1 h0 (by omega));clear hW h;rw[pop_pl];by_cases hle:x.s.length≤x.top.h
 ·rw[if_pos hle,if_pos hle]at HT;rw[if_pos hle];cases hd:x.top.dead with
  | false =>
   rw[hd]at HT;clear hd;go_enter Tryz.func71,Tryz.ntmps71
   go_upto_region 1 with (fail)
   rw[← HW.out];go_wp2_with (go_at_call 100;refine HT.out.mono ?_;rintro e w3 ⟨rfl,x3,g3,s3,hf3,hs3⟩;have HG3:=hD g3;have HS3:=hD s3;have HX3:=hD (And.intro hf3 hs3);clear g3 s3 hf3 hs3)
   exact Z6
  | true =>
   rw[hd]at HT;clear hd;go_enter Tryz.func71,Tryz.ntmps71
   go_upto_region 1 with (fail)
   rw[← HW.out];go_wp2_with (go_at_call 100;refine HT.out.mono ?_;rintro e w3 ⟨rfl,x3,g3,s3,hf3,hs3⟩;have HG3:=hD g3;have HS3:=hD s3;have HX3:=hD (And.intro hf3 hs3);clear g3 s3 hf3 hs3)
   go_ret;refine⟨x3,HG3.out,HG1.out.2.trans HS3.out,rfl,fun q hq=>?_⟩;obtain rfl:=Option.some.inj hq;show Ws.pl x3=Ws.pl x;unfold Ws.pl;rw[HX3.out.1,HX3.out.2]
 ·rw[if_neg hle,if_neg hle]at HT;rw[if_neg hle];go_enter Tryz.func71,Tryz.ntmps71
  go_upto_region 1 with (fail)
  rw[← HW.out];go_wp2_with (go_at_call 100;refine HT.out.mono ?_;rintro e w3 ⟨rfl,x3,g3,s3,hf3,hs3⟩;have HG3:=hD g3;have HS3:=hD s3;have HX3:=hD (And.intro hf3 hs3);clear g3 s3 hf3 hs3)
  exact Z5
end
end Go.Proofs.YtepgopnnaeoolaaGreatDoor
