/- A part of the proof. -/
import Derived.Test.YtmfpnfdinoofpaaGreatDoorJ17
namespace Go.Proofs.YtmfpnfdinoofpaaGreatDoor
section
structure Ur (n:Nat) (p:Pl):Prop where
 sl:p.s.length≤8 * n
 fl:p.f.length≤n+1
 ar:∀ a ∈ p.f,a.ps.length≤8∧a.rs.length≤8
 hi:(p.f.map Fr.h).Pairwise (·≤·)
 lo:∀ a ∈ p.f,a.h≤p.s.length
theorem topF_snoc (f:List Fr) (t:Fr):WT (f++[t])=t:=by simp[WT]
theorem snoc_of {α:Type} (f:List α) (h:0<f.length):∃ g t,f=g++[t] :=
 ⟨f.dropLast,f.getLast (by intro e;rw[e]at h;exact absurd h (Nat.lt_irrefl _)),(List.dropLast_concat_getLast _).symm⟩
theorem Ur.ends {n:Nat} {p:Pl} (h:Ur n p) (h0:0<p.f.length):∃ f t,p.f=f++[t]∧WT p.f=t∧(∀ a ∈ f,a.h≤t.h)∧t.h≤p.s.length∧t.ps.length≤8∧t.rs.length≤8:=by
 obtain⟨f,t,e⟩:=snoc_of p.f h0;have hp:=h.hi;rw[e,List.map_append,List.pairwise_append]at hp;refine⟨f,t,e,by rw[e,topF_snoc],fun a ha=>hp.2.2 _ (List.mem_map.2 ⟨a,ha,rfl⟩) _ (by simp),h.lo t (by rw[e];simp),h.ar t (by rw[e];simp)⟩
theorem Ur.top {n:Nat} {p:Pl} (h:Ur n p) (h0:0<p.f.length):(WT p.f).h≤p.s.length∧(WT p.f).ps.length≤8∧(WT p.f).rs.length≤8:=by
 obtain⟨f,t,_,e,_,h1,h2,h3⟩:=h.ends h0;rw[e];exact⟨h1,h2,h3⟩
theorem Ur.all {n:Nat} {p:Pl} (h:Ur n p) (h0:0<p.f.length):∀ a ∈ p.f,a.h≤(WT p.f).h:=by
 obtain⟨f,t,e,e2,h1,_⟩:=h.ends h0;rw[e2,e];intro a ha;rcases List.mem_append.1 ha with h2|h2
 ·exact h1 a h2
 ·rw[List.mem_singleton.1 h2];exact nR _
theorem Ur.cut {n:Nat} {p:Pl} (h:Ur n p) (h0:0<p.f.length) (k:Nat) (hk:(WT p.f).h≤k):Ur n ⟨p.s.take k,p.f⟩ :=
 ⟨Nat.le_trans (by simp only[List.length_take];omega) h.sl,h.fl,h.ar,h.hi,fun a ha=>by
  have h1:=h.all h0 a ha;have h2:=h.lo a ha;show a.h≤(p.s.take k).length;rw[List.length_take];omega⟩
theorem Ur.up {n:Nat} {p:Pl} (h:Ur n p):Ur (n+1) p:=⟨Nat.le_trans h.sl (by omega),Nat.le_trans h.fl (by omega),h.ar,h.hi,h.lo⟩
theorem Ur.take {n:Nat} {p p':Pl} {q:List Int} (h:Ur n p) (h0:0<p.f.length) (ht:WI p q=some p'):Ur n p'∧p'.f=p.f:=by
 unfold WI at ht
 split at ht
 ·simp only[Option.some.injEq]at ht;subst ht;exact⟨h.cut h0 _ (Nat.le_max_right _ _),rfl⟩
 ·cases ht
theorem Ur.give {n:Nat} {p:Pl} {q:List Int} (h:Ur n p) (hq:q.length≤8):Ur (n+1) (Vg p q) :=
 ⟨by have:=h.sl;show(p.s++q).length≤_;rw[List.length_append];omega,Nat.le_trans h.fl (by show _≤n+1+1;omega),h.ar,h.hi,fun a ha=>by
  have:=h.lo a ha;show a.h≤(p.s++q).length;rw[List.length_append];omega⟩
theorem Ur.begin {n:Nat} {p:Pl} {op:Int} {ps rs:List Int} (h:Ur n p) (hp:ps.length≤8) (hr:rs.length≤8):Ur (n+1) (WY p op ps rs) :=
 ⟨by have:=h.sl;show(p.s++ps).length≤_;rw[List.length_append];omega,by have:=h.fl;show(p.f++[_]).length≤_;rw[List.length_append];simp;omega,fun a ha=>by
  rcases List.mem_append.1 ha with h1|h1
  ·exact h.ar a h1
  ·rw[List.mem_singleton.1 h1];exact⟨hp,hr⟩,
  by
   show(List.map Fr.h (p.f++[_])).Pairwise _;rw[List.map_append,List.pairwise_append];refine⟨h.hi,by simp,fun a ha b hb=>?_⟩;obtain⟨c,hc,rfl⟩:=List.mem_map.1 ha;simp only[List.map_cons,List.map_nil,List.mem_singleton]at hb;subst hb;exact h.lo c hc,fun a ha=>by
   show a.h≤(p.s++ps).length;rw[List.length_append];rcases List.mem_append.1 ha with h1|h1
   ·have:=h.lo a h1;omega
   ·rw[List.mem_singleton.1 h1];show p.s.length≤_;omega⟩
theorem Ur.dead {n:Nat} {p:Pl} (h:Ur n p) (h0:0<p.f.length):Ur n (VP p):=by
 obtain⟨f,t,e,e2,h1,h2,h3⟩:=h.ends h0;have hf:(VP p).f=f++[{ t with dead:=true }]:=by
  unfold VP;simp only;rw[e2,e];simp
 have hs:(VP p).s=p.s.take t.h:=by unfold VP;simp only;rw[e2]
 have hm:∀ a ∈ (VP p).f,a.h≤t.h:=fun a ha=>by
  rw[hf]at ha;rcases List.mem_append.1 ha with h4|h4
  ·exact h1 a h4
  ·rw[List.mem_singleton.1 h4];exact nR _
 refine⟨by rw[hs,List.length_take];have:=h.sl;omega,by rw[hf];have:=h.fl;rw[e]at this;simp at this ⊢;omega,fun a ha=>?_,?_,fun a ha=>by rw[hs,List.length_take];have:=hm a ha;omega⟩
 ·rw[hf]at ha;rcases List.mem_append.1 ha with h4|h4
  ·exact h.ar a (by rw[e];simp[h4])
  ·rw[List.mem_singleton.1 h4];exact h3
 ·rw[hf];have:=h.hi;rw[e]at this;simpa using this
theorem Ur.leave {n:Nat} {p p':Pl} {q:List Int} (h:Ur n p) (h0:0<p.f.length) (hl:Vo p q=some p'):Ur n p':=by
 unfold Vo at hl;obtain⟨p1,h1,rfl⟩:=Option.map_eq_some_iff.1 hl;obtain⟨h2,h3⟩:=h.take h0 h1;exact h2.dead (by rw[h3];exact h0)
theorem Ur.finish {n:Nat} {p p':Pl} {fr:Fr} (h:Ur n p) (h0:0<p.f.length) (hl:VT p=some (fr,p')):Ur n p'∧fr.ps.length≤8∧fr.rs.length≤8∧p'.f.length+1=p.f.length:=by
 unfold VT at hl;obtain⟨p1,h1,h2⟩:=Option.bind_eq_some_iff.1 hl;obtain⟨h3,h4⟩:=h.take h0 h1
 split at h2
 ·rename_i h5
  simp only[Option.some.injEq,Prod.mk.injEq]at h2;obtain⟨rfl,rfl⟩:=h2;obtain⟨f,t,e,e2,h6,h7,h8⟩:=h.ends h0;have ht:p.f.take (p.f.length - 1)=f:=by rw[e];simp
  rw[e2]at h5 ⊢;refine⟨⟨h3.sl,by show(p.f.take _).length≤_;rw[List.length_take];have:=h.fl;omega,fun a ha=>h.ar a (List.mem_of_mem_take ha),?_,fun a ha=>?_⟩,h8.1,h8.2,by show(p.f.take _).length+1=_;rw[List.length_take];omega⟩
  ·have:=h.hi;show(List.map Fr.h (p.f.take _)).Pairwise _;rw[ht];rw[e,List.map_append,List.pairwise_append]at this;exact this.1
  ·have ha':a ∈ p.f.take (p.f.length - 1):=ha;rw[ht]at ha';show a.h≤p1.s.length;have h9:=h6 a ha';have h10:t.h≤p1.s.length:=h3.lo t (by rw[h4,e];simp);omega
 ·cases h2
theorem Ur.pop {n:Nat} {p:Pl} {q:Int×Pl} (h:Ur n p) (h0:0<p.f.length) (hl:UD p=some q):Ur n q.2∧q.2.f=p.f:=by
 unfold UD at hl
 split at hl
 ·split at hl
  ·simp only[Option.some.injEq]at hl;subst hl;exact⟨h,rfl⟩
  ·cases hl
 ·simp only[Option.some.injEq]at hl;subst hl;exact⟨h.cut h0 _ (by omega),rfl⟩
theorem labelC_len {n:Nat} {p:Pl} (h:Ur n p) (k:Nat):(Ww p k).length≤8:=by
 unfold Ww;by_cases hk:p.f.length - 1 - k<p.f.length
 ·have hm:p.f.getD (p.f.length - 1 - k) fr0 ∈ p.f:=WA _ _ _ hk
  split
  ·exact(h.ar _ hm).1
  ·exact(h.ar _ hm).2
 ·have h1:p.f.length≤p.f.length - 1 - k:=by omega
  have h0:p.f.getD (p.f.length - 1 - k) fr0=fr0:=by rw[List.getD_eq_getElem?_getD,List.getElem?_eq_none h1];rfl
  rw[h0];exact nZ _
structure EnvOk (e:U5):Prop where
 ro:e.ro.length≤8
 ty:∀ t ∈ e.m.types,t.1.length≤8∧t.2.length≤8
theorem EnvOk.sig {e:U5} (h:EnvOk e) (k:Int):((WB e.m k).getD ([],[])).1.length≤8∧((WB e.m k).getD ([],[])).2.length≤8:=by
 cases hs:WB e.m k with
 | none=>exact⟨nZ _,nZ _⟩
 | some t=>exact h.ty t (fsigB_mem hs)
theorem EnvOk.block {e:U5} (h:EnvOk e) (k:Int):((Wv e.m k).getD ([],[])).1.length≤8∧((Wv e.m k).getD ([],[])).2.length≤8:=by
 unfold Wv
 split
 ·exact⟨by simp,by simp⟩
 split
 ·exact⟨by simp,by simp⟩
 split
 ·exact⟨by simp,by simp⟩
 split
 ·exact⟨by simp,by simp⟩
 cases hs:Uo e.m k with
 | none=>exact⟨nZ _,nZ _⟩
 | some t=>exact h.ty t (typeB_mem hs)
theorem EnvOk.eff {e:U5} (h:EnvOk e) {n:Nat} {p:Pl} (hp:Ur n p) (x:Vl):(Vi e p x).1.length≤9∧(Vi e p x).2.length≤8:=by
 have hl:=labelC_len hp x.a.toNat;have hs:=h.sig x.a;have hf:=fixedC_len x.op;unfold Vi
 split
 ·exact⟨by rw[List.length_append];simp;omega,hl⟩
 split
 ·exact⟨by omega,by omega⟩
 split
 ·exact⟨by simp,by simp⟩
 split
 ·exact⟨by simp,by simp⟩
 split
 ·exact⟨by simp,by simp⟩
 split
 ·exact⟨by simp,by simp⟩
 split
 ·exact⟨by simp,by simp⟩
 split
 ·exact⟨by simp,by simp⟩
 split
 ·exact⟨by simp,by simp⟩
 exact⟨by omega,by omega⟩
theorem Ur.follow {e:U5} {n:Nat} {p q:Pl} {x:Vl} (he:EnvOk e) (h:Ur n p) (h0:0<p.f.length) (hf:Wu e p x=some q):Ur (n+1) q:=by
 unfold Wu at hf;by_cases c0:x.op=2∨x.op=3∨x.op=4
 ·rw[if_pos c0]at hf;unfold openC at hf;obtain⟨p1,h1,h2⟩:=Option.bind_eq_some_iff.1 hf;obtain⟨p2,h3,rfl⟩:=Option.map_eq_some_iff.1 h2;have h4:Ur n p1∧p1.f=p.f:=by
   split at h1
   ·exact h.take h0 h1
   ·simp only[Option.some.injEq]at h1;subst h1;exact⟨h,rfl⟩
  have h5:=h4.1.take (by rw[h4.2];exact h0) h3;exact h5.1.begin (he.block _).1 (he.block _).2
 rw[if_neg c0]at hf;by_cases c1:x.op=5
 ·rw[if_pos c1]at hf;unfold divideC at hf;obtain⟨⟨fr,p1⟩,h1,rfl⟩:=Option.map_eq_some_iff.1 hf;obtain⟨h2,h3,h4,_⟩:=h.finish h0 h1;exact h2.begin h3 h4
 rw[if_neg c1]at hf;by_cases c2:x.op=11
 ·rw[if_pos c2]at hf;unfold closeC at hf;obtain⟨⟨fr,p1⟩,h1,h2⟩:=Option.bind_eq_some_iff.1 hf;obtain⟨h3,h4,h5,_⟩:=h.finish h0 h1
  split at h2
  ·cases h2
  ·simp only[Option.some.injEq]at h2;subst h2;exact h3.give h5
 rw[if_neg c2]at hf;by_cases c3:x.op=0
 ·rw[if_pos c3]at hf;exact(h.leave h0 hf).up
 rw[if_neg c3]at hf;by_cases c4:x.op=12
 ·rw[if_pos c4]at hf;exact(h.leave h0 hf).up
 rw[if_neg c4]at hf;by_cases c5:x.op=14
 ·rw[if_pos c5]at hf;unfold Uw at hf;obtain⟨p1,h1,h2⟩:=Option.bind_eq_some_iff.1 hf;obtain⟨h3,h4⟩:=h.take h0 h1
  split at h2
  ·exact(h3.leave (by rw[h4];exact h0) h2).up
  ·cases h2
 rw[if_neg c5]at hf;by_cases c6:x.op=15
 ·rw[if_pos c6]at hf;exact(h.leave h0 hf).up
 rw[if_neg c6]at hf;by_cases c7:x.op=18
 ·rw[if_pos c7]at hf
  split at hf
  ·exact(h.leave h0 hf).up
  ·cases hf
 rw[if_neg c7]at hf;by_cases c8:x.op=26
 ·rw[if_pos c8]at hf;obtain⟨p1,h1,rfl⟩:=Option.map_eq_some_iff.1 hf;exact(h.pop h0 h1).1.up
 rw[if_neg c8]at hf;by_cases c9:x.op=27
 ·rw[if_pos c9]at hf;unfold Uu at hf;obtain⟨p1,h1,h2⟩:=Option.bind_eq_some_iff.1 hf;obtain⟨u,h3,h4⟩:=Option.bind_eq_some_iff.1 h2;obtain⟨l,h5,h6⟩:=Option.bind_eq_some_iff.1 h4;obtain⟨a1,a2⟩:=h.take h0 h1;obtain⟨b1,b2⟩:=a1.pop (by rw[a2];exact h0) h3;obtain⟨c1,c2⟩:=b1.pop (by rw[b2,a2];exact h0) h5
  split at h6
  ·simp only[Option.some.injEq]at h6;subst h6;exact c1.give (by simp)
  ·cases h6
 rw[if_neg c9]at hf;by_cases c10:x.op=36
 ·rw[if_pos c10]at hf
  split at hf
  ·exact(h.take h0 hf).1.up
  ·cases hf
 rw[if_neg c10]at hf;obtain⟨p1,h1,rfl⟩:=Option.map_eq_some_iff.1 hf;exact(h.take h0 h1).1.give (he.eff h x).2
theorem inPlaceC_pos {p:Pl} {op:Int} (h:Vc p op=true):0<p.f.length:=by
 unfold Vc at h
 split at h
 ·cases h
 ·omega
theorem Ur.step {e:U5} {n:Nat} {p:Pl} {x:Vl} (he:EnvOk e) (h:Ur n p) (hs:(Vr e p x).1=0):Ur (n+1) (Vr e p x).2:=by
 unfold Vr at hs ⊢
 split at hs
 ·cases hs
 rename_i h1
 rw[if_neg h1]
 split at hs
 ·cases hs
 rename_i h2
 rw[if_neg h2]
 split at hs
 ·cases hs
 rename_i h3
 rw[if_neg h3];have h0:0<p.f.length:=inPlaceC_pos (op:=x.op) (by cases hi:Vc p x.op with|true=>rfl|false=>exact absurd hi h1);cases hf:Wu e p x with
 | none=>rw[hf]at hs;cases hs
 | some q=>exact h.follow he h0 hf
theorem Ur.first (op:Int) (ro:List Int) (hr:ro.length≤8):Ur 0 (WY ⟨[],[]⟩ op [] ro) :=
 ⟨nR _,nR _,fun a ha=>by
  have ha:a ∈ [(⟨op,[],ro,0,false⟩:Fr)]:=ha;rw[List.mem_singleton.1 ha];exact⟨nZ _,hr⟩,by simp[WY],fun a ha=>by
  have ha:a ∈ [(⟨op,[],ro,0,false⟩:Fr)]:=ha;rw[List.mem_singleton.1 ha];exact nR _⟩
end
section
theorem Zdg {P:Prop}(h:P:=by
 unfold WI at ht
 split at ht
 ·simp only[Option.some.injEq]at ht;subst ht;exact h.cut _
 ·cases ht):P:=h
theorem Zdl {P:Prop}(h:P:=by
 refine⟨rfl,?_⟩;show(WT p.f).h≤(p.s.take _).length;rw[List.length_take];omega):P:=h
def UL (p:Pl) (want:Int):Option (Int×Pl) :=
 if p.s.length=(WT p.f).h then (if (WT p.f).dead then some (0,p) else none)
 else if want=0∨p.s.getD (p.s.length - 1) 0=0∨p.s.getD (p.s.length - 1) 0=want then some (p.s.getD (p.s.length - 1) 0,⟨p.s.take (p.s.length - 1),p.f⟩) else none
def dpopsR:List Int→Pl→Option Pl
 | [],p=>some p
 | a :: l,p=>(UL p a).bind fun q=>dpopsR l q.2
def WC (p:Pl) (q:List Int):Option Pl:=dpopsR q.reverse p
theorem holdC_snoc (h:Nat) (d:Bool) (s q:List Int) (a:Int) (_hh:h≤s.length):Vm h d s (q++[a])=(Vm h d s [a] && Vm h d (s.take (max (s.length - 1) h)) q):=by
 unfold Vm;rw[List.length_append,List.length_singleton,List.range_succ,List.all_append,Bool.and_comm]
 congr 1
 ·simp only[List.all_cons,List.all_nil,Bool.and_true,List.range_succ,List.range_zero,List.nil_append];by_cases h1:s.length<h+1
  ·rw[if_pos (show s.length+q.length<h+(q.length+1) by omega),if_pos (by omega)]
  ·rw[if_neg (show ¬ s.length+q.length<h+(q.length+1) by omega),if_neg (by omega)]
   congr 1
   ·congr 1;omega
   ·simp
 ·rw[Bool.eq_iff_iff,List.all_eq_true,List.all_eq_true];refine forall_congr' fun k=>?_;refine imp_congr_right fun hk=>?_;have hk:=List.mem_range.1 hk;rw[List.length_take];by_cases h1:s.length=h
  ·rw[if_pos (by omega),if_pos (by omega)]
  ·have hm:min (max (s.length - 1) h) s.length=s.length - 1:=by omega
   have hm2:max (s.length - 1) h=s.length - 1:=by omega
   rw[hm,hm2];by_cases h2:s.length+k<h+(q.length+1)
   ·rw[if_pos h2,if_pos (by omega)]
   ·rw[if_neg h2,if_neg (by omega)];have e1:(q++[a]).getD k 0=q.getD k 0:=by
     rw[List.getD_eq_getElem?_getD,List.getD_eq_getElem?_getD,List.getElem?_append_left hk]
    have e2:(s.take (s.length - 1)).getD (s.length - 1+k - q.length) 0=s.getD (s.length+k - (q.length+1)) 0:=by
     rw[List.getD_eq_getElem?_getD,List.getD_eq_getElem?_getD,List.getElem?_take_of_lt (by omega)]
     congr 2;omega
    rw[e1,e2]
theorem takeC_snoc (p:Pl) (q:List Int) (a:Int) (hh:(WT p.f).h≤p.s.length):WI p (q++[a])=(WI p [a]).bind fun p1=>WI p1 q:=by
 unfold WI;rw[holdC_snoc _ _ _ _ _ hh];cases h1:Vm (WT p.f).h (WT p.f).dead p.s [a] with
 | false=>rfl
 | true =>
  simp only[Bool.true_and,if_true,Option.bind_some,List.length_singleton]
  split
  ·refine congrArg some ?_;rw[List.take_take,List.length_take,List.length_append,List.length_singleton]
   congr 2;omega
  ·rfl
theorem takeC_nil (p:Pl):WI p []=some p:=by
 unfold WI;rw[show Vm (WT p.f).h (WT p.f).dead p.s []=true from rfl,if_pos rfl,List.length_nil];rw[List.take_of_length_le (by omega)]
theorem dpopC_take (p:Pl) (a:Int) (ha:a≠0) (hh:(WT p.f).h≤p.s.length):(UL p a).map Prod.snd=WI p [a]:=by
 unfold UL WI Vm;simp only[List.length_singleton,List.range_succ,List.range_zero,List.nil_append,List.all_cons,List.all_nil,Bool.and_true,Nat.add_zero];by_cases h1:p.s.length=(WT p.f).h
 ·rw[if_pos h1,if_pos (show p.s.length<(WT p.f).h+1 by omega)];cases (WT p.f).dead with
  | false=>rfl
  | true =>
   simp only[if_true,Option.map_some];rw[List.take_of_length_le (by omega)]
 ·rw[if_neg h1,if_neg (show ¬ p.s.length<(WT p.f).h+1 by omega)];unfold UE;generalize p.s.getD (p.s.length - 1) 0=t;have e:([a]:List Int).getD 0 0=a:=rfl;rw[e,show max (p.s.length - 1) (WT p.f).h=p.s.length - 1 by omega];by_cases h2:t=a
  ·rw[if_pos (.inr (.inr h2))];simp[h2]
  ·by_cases h3:t=0
   ·rw[if_pos (.inr (.inl h3))];simp[h3]
   ·rw[if_neg (by rintro(h|h|h);exact ha h;exact h3 h;exact h2 h)];simp[h2,h3]
theorem U2 {p p':Pl} {q:List Int} (h:WI p q=some p') (hh:(WT p.f).h≤p.s.length):p'.f=p.f∧(WT p'.f).h≤p'.s.length:=by
 unfold WI at h
 split at h
 ·simp only[Option.some.injEq]at h;subst h;exact Zdl
 ·cases h
theorem dpopsR_take:∀ (l:List Int) (p:Pl),(∀ a ∈ l,a≠0)→(WT p.f).h≤p.s.length→dpopsR l p=WI p l.reverse
 | [],p,_,_=>(takeC_nil p).symm
 | a :: l,p,h0,hh=>by
  rw[List.reverse_cons,takeC_snoc _ _ _ hh,dpopsR,← dpopC_take p a (h0 a (by simp)) hh];have hk:=dpopC_take p a (h0 a (by simp)) hh;cases hd:UL p a with
  | none=>rfl
  | some q =>
   rw[hd]at hk;simp only[Option.map_some,Option.bind_some];refine dpopsR_take l q.2 (fun b hb=>h0 b (by simp[hb])) (U2 hk.symm hh).2
theorem Vk (p:Pl) (q:List Int) (h0:∀ a ∈ q,a≠0) (hh:(WT p.f).h≤p.s.length):WC p q=WI p q:=by
 unfold WC;rw[dpopsR_take _ _ (fun a ha=>h0 a (List.mem_reverse.1 ha)) hh,List.reverse_reverse]
def U6 (p:Pl):Option Pl:=(WC p [127]).bind fun p1=>(UL p1 0).bind fun u=>(UL u.2 0).bind fun l=>if u.1≠l.1∧u.1≠0∧l.1≠0 then none else some (Vg l.2 [if u.1=0 then l.1 else u.1])
def Uz (p:Pl):Option (Fr×Pl):=(WC p (WT p.f).rs).bind fun q=>if q.s.length=(WT p.f).h then some (WT p.f,⟨q.s,q.f.take (q.f.length - 1)⟩) else none
def UJ (p:Pl) (l:List Int):Option Pl:=(WC p [127]).bind fun p1 =>
 if l.all (fun n=>(Ww p1 n.toNat).length==(Ww p1 (l.getD (l.length - 1) 0).toNat).length && (WC p1 (Ww p1 n.toNat)).isSome) then WC p1 (Ww p1 (l.getD (l.length - 1) 0).toNat) else none
def lowZ (p:Pl):Prop:=∀ i,(WT p.f).h≤i→i+1<p.s.length→p.s.getD (i+1) 0=0→p.s.getD i 0=0
theorem dpopC_pop (p:Pl) (hh:(WT p.f).h≤p.s.length):UL p 0=UD p:=by
 unfold UL UD;by_cases h1:p.s.length=(WT p.f).h
 ·rw[if_pos h1,if_pos (Nat.le_of_eq h1)]
 ·rw[if_neg h1,if_neg (show ¬ p.s.length≤(WT p.f).h by omega),if_pos (.inl rfl)]
theorem popC_keeps {p:Pl} {q:Int×Pl} (h:UD p=some q) (hh:(WT p.f).h≤p.s.length):q.2.f=p.f∧(WT q.2.f).h≤q.2.s.length:=by
 unfold UD at h
 split at h
 ·split at h
  ·simp only[Option.some.injEq]at h;subst h;exact⟨rfl,hh⟩
  ·cases h
 ·simp only[Option.some.injEq]at h;subst h;exact Zdl
theorem lowZ.cut {p:Pl} (h:lowZ p) (k:Nat):lowZ ⟨p.s.take k,p.f⟩:=by
 intro i h1 h2 h3;have h2:i+1<(p.s.take k).length:=h2;rw[List.length_take]at h2;have e:∀ j,j<k→(p.s.take k).getD j 0=p.s.getD j 0:=fun j hj=>by
  rw[List.getD_eq_getElem?_getD,List.getD_eq_getElem?_getD,List.getElem?_take_of_lt hj]
 have h3:(p.s.take k).getD (i+1) 0=0:=h3;show(p.s.take k).getD i 0=0;rw[e _ (by omega)]at h3 ⊢;exact h i h1 (by omega) h3
theorem lowZ.take {p p':Pl} {q:List Int} (h:lowZ p) (ht:WI p q=some p'):lowZ p':=by
 exact Zdg
theorem dchooseC_eq (p:Pl) (hh:(WT p.f).h≤p.s.length) (hz:lowZ p):U6 p=Uu p:=by
 unfold U6 Uu;rw[Vk p [127] (by simp) hh];cases h1:WI p [127] with
 | none=>rfl
 | some p1 =>
  obtain⟨_,h3⟩:=U2 h1 hh;have hz1:=hz.take h1;simp only[Option.bind_some];rw[dpopC_pop p1 h3];cases h4:UD p1 with
  | none=>rfl
  | some u =>
   obtain⟨h5,h6⟩:=popC_keeps h4 h3;simp only[Option.bind_some];rw[dpopC_pop u.2 h6];cases h7:UD u.2 with
   | none=>rfl
   | some l =>
    simp only[Option.bind_some];have hul:u.1=0→l.1=0:=by
     intro h0;unfold UD at h4 h7
     split at h7
     ·split at h7
      ·simp only[Option.some.injEq]at h7;subst h7;rfl
      ·cases h7
     ·rename_i h8
      simp only[Option.some.injEq]at h7;subst h7
      split at h4
      ·rename_i h9
       split at h4
       ·simp only[Option.some.injEq]at h4;subst h4;exact absurd h9 h8
       ·cases h4
      ·rename_i h9
       simp only[Option.some.injEq]at h4;subst h4;simp only[List.length_take]at h0 h8 ⊢;have h8:¬ min (p1.s.length - 1) p1.s.length≤(WT p1.f).h:=h8;rw[List.getD_eq_getElem?_getD,List.getElem?_take_of_lt (by omega),← List.getD_eq_getElem?_getD];rw[show min (p1.s.length - 1) p1.s.length - 1=p1.s.length - 2 by omega];exact hz1 (p1.s.length - 2) (by omega) (by omega) (by rw[show p1.s.length - 2+1=p1.s.length - 1 by omega];exact h0)
    unfold UE;by_cases e1:l.1=u.1
    ·rw[if_neg (fun h=>h.1 e1.symm)];rw[show(l.1==u.1 || l.1==0)=true by simp[e1],if_pos rfl];refine congrArg (fun t=>some (Vg l.2 [t])) ?_
     split
     ·exact e1
     ·rfl
    ·by_cases e2:l.1=0
     ·rw[if_neg (fun h=>h.2.2 e2),show(l.1==u.1 || l.1==0)=true by simp[e2],if_pos rfl,if_neg (fun h=>e1 (by rw[e2,h]))]
     ·rw[if_pos ⟨fun h=>e1 h.symm,fun h=>e2 (hul h),e2⟩,show(l.1==u.1 || l.1==0)=false by simp[e1,e2]];rfl
theorem dshutC_eq (p:Pl) (h0:∀ a ∈ (WT p.f).rs,a≠0) (hh:(WT p.f).h≤p.s.length):Uz p=VT p:=by
 unfold Uz VT;rw[Vk _ _ h0 hh];cases h1:WI p (WT p.f).rs with
 | none=>rfl
 | some p1 =>
  obtain⟨h2,h3⟩:=U2 h1 hh;simp only[Option.bind_some];rw[h2]at h3 ⊢;by_cases h4:p1.s.length=(WT p.f).h
  ·rw[if_pos h4,if_pos (by omega)]
  ·rw[if_neg h4,if_neg (show ¬ p1.s.length≤(WT p.f).h by omega)]
theorem takeC_isSome (p:Pl) (q:List Int):(WI p q).isSome=Vm (WT p.f).h (WT p.f).dead p.s q:=by
 unfold WI;cases Vm (WT p.f).h (WT p.f).dead p.s q <;> rfl
theorem dtableC_eq (p:Pl) (l:List Int) (h0:∀ f ∈ p.f,(∀ a ∈ f.ps,a≠0)∧∀ a ∈ f.rs,a≠0) (hh:(WT p.f).h≤p.s.length):(UJ p l).map VP=Uw p l:=by
 unfold UJ Uw;rw[Vk p [127] (by simp) hh];cases h1:WI p [127] with
 | none=>rfl
 | some p1 =>
  obtain⟨h2,h3⟩:=U2 h1 hh;have hl:∀ n,∀ a ∈ Ww p1 n,a≠0:=by
   intro n;unfold Ww;rw[h2];generalize p.f.length - 1 - n=k;rcases Nat.lt_or_ge k p.f.length with hk|hk
   ·have hm:p.f.getD k fr0 ∈ p.f:=by rw[List.getD_eq_getElem?_getD,List.getElem?_eq_getElem hk];exact List.getElem_mem _
    split
    ·exact(h0 _ hm).1
    ·exact(h0 _ hm).2
   ·rw[List.getD_eq_getElem?_getD,List.getElem?_eq_none hk];intro a ha
    split at ha <;> cases ha
  simp only[Option.bind_some];have e:∀ n,WC p1 (Ww p1 n)=WI p1 (Ww p1 n):=fun n=>Vk _ _ (hl n) h3;simp only[e,takeC_isSome]
  split
  ·rfl
  ·rfl
end
end Go.Proofs.YtmfpnfdinoofpaaGreatDoor
