/- A part of the proof. -/
import Derived.Test.YtmfpnfdinoofpaaGreatDoorJ18
import Derived.OneCell
import Derived.ChangeSlices
import Derived.WideShapes
import Derived.Carry
import Derived.OpenShut
namespace Go.Proofs.YtmfpnfdinoofpaaGreatDoor
section
def Vp {α:Type} (g:α→Int):List α→Int
 | []=>0
 | a :: l=>if g a=0 then Vp g l else g a
theorem firstC_zero {α:Type} {g:α→Int} {l:List α} {d:α} (h:∀ j,j<l.length→g (l.getD j d)=0):Vp g l=0:=by
 induction l with
 | nil=>rfl
 | cons a l ih =>
  have h0:g a=0:=h 0 (by simp);rw[Vp,if_pos h0];exact ih fun j hj=>h (j+1) (by simp;omega)
theorem firstC_at {α:Type} {g:α→Int} {d:α}:∀ {l:List α} {k:Nat},(∀ j,j<k→g (l.getD j d)=0)→k<l.length→g (l.getD k d)≠0→Vp g l=g (l.getD k d):=by
 intro l;induction l with
 | nil=>intro k _ hk;simp at hk
 | cons a l ih =>
  intro k h hk hn;cases k with
  | zero=>rw[Vp];exact if_neg hn
  | succ k =>
   have h0:g a=0:=h 0 (by omega);rw[Vp,if_pos h0];exact ih (fun j hj=>h (j+1) (by omega)) (by simpa using hk) hn
def UO (f:Fnc):Int:=(VY (f.code.map Vl.op)).2
def impIn (n:Nat) (i:ByteArray×ByteArray×Int):Bool:=Wi i.2.2 n
def funIn (n:Nat) (f:Fnc):Bool:=Wi f.ty n
def Ub (m:Vt):Bool:=m.imps.all (impIn m.types.length) && m.funs.all (funIn m.types.length)
def countC (m:Vt) (kind:Int):Nat:=if kind=0 then m.imps.length+m.funs.length else if kind=2 then m.mems.length else m.globs.length
def expIn (m:Vt) (e:ByteArray×Int×Int):Bool:=Wi e.2.2 (countC m e.2.1)
def datIn (n:Nat) (d:Dat):Bool:=!d.act || Wi d.mem n
def typPl (t:List Int×List Int):Bool:=decide (t.2.length≤1)
def expPl (m:Vt) (e:ByteArray×Int×Int):Bool:=!(decide (e.2.1=3) && (m.globs.getD e.2.2.toNat glob0).2.1)
def plainC (m:Vt):Bool:=m.types.all typPl && m.datas.all Dat.act && m.exps.all (expPl m) && decide (m.mems.length≤1)
def funcsC (m:Vt) (prof:Int):Int:=Vp (fun k:Nat=>(Uq m (k:Int) prof).2) (List.range m.funs.length)
def UW (m:Vt) (prof:Int):Int :=
 if prof≠1∧prof≠2 then 1
 else if WU m≠0 then WU m
 else if Vp UO m.funs≠0 then Vp UO m.funs
 else if (Ub m && m.exps.all (expIn m) && m.datas.all (datIn m.mems.length))=false then 23
 else if prof=1∧plainC m=false then 24
 else funcsC m prof
end
section
def nz (l:List Int):Prop:=∀ a ∈ l,a≠0
theorem VX:nz []:=fun _ h=>by cases h
theorem Ud {a:Int} (h:a≠0):nz [a]:=fun b hb=>by rw[List.mem_singleton.1 hb];exact h
theorem nz_app {a b:List Int} (h:nz a) (k:nz b):nz (a++b):=fun c hc=>(List.mem_append.1 hc).elim (h c) (k c)
structure EnvNz (e:U5):Prop where
 ro:nz e.ro
 lo:nz e.lo
 ty:∀ t ∈ e.m.types,nz t.1∧nz t.2
 gl:∀ g ∈ e.m.globs,g.1≠0
structure VS (p:Pl):Prop where
 fr:∀ f ∈ p.f,nz f.ps∧nz f.rs
 z:∀ i,i+1<p.s.length→p.s.getD (i+1) 0=0→p.s.getD i 0=0∨∃ f ∈ p.f,f.h=i+1
theorem getD_take (s:List Int) (k j:Nat) (hj:j<k):(s.take k).getD j 0=s.getD j 0:=by
 rw[List.getD_eq_getElem?_getD,List.getD_eq_getElem?_getD,List.getElem?_take_of_lt hj]
theorem getD_left (s q:List Int) (j:Nat) (hj:j<s.length):(s++q).getD j 0=s.getD j 0:=by
 rw[List.getD_eq_getElem?_getD,List.getD_eq_getElem?_getD,List.getElem?_append_left hj]
theorem VS.cut {p:Pl} (h:VS p) (k:Nat):VS ⟨p.s.take k,p.f⟩:=⟨h.fr,fun i h1 h2=>by
 have h1:i+1<(p.s.take k).length:=h1;rw[List.length_take]at h1;have h2:(p.s.take k).getD (i+1) 0=0:=h2;show(p.s.take k).getD i 0=0∨_;rw[getD_take _ _ _ (by omega)]at h2 ⊢;exact h.z i (by omega) h2⟩
theorem VS.take {p p':Pl} {q:List Int} (h:VS p) (ht:WI p q=some p'):VS p':=by
 exact Zdg
theorem VS.zgive {p:Pl} {q:List Int} {f:List Fr} (h:VS p) (hq:nz q) (hf:∀ a ∈ f,nz a.ps∧nz a.rs) (hm:∀ a ∈ p.f,a ∈ f):VS ⟨p.s++q,f⟩:=⟨hf,fun i h1 h2=>by
 have h1:i+1<(p.s++q).length:=h1;rw[List.length_append]at h1;have h2:(p.s++q).getD (i+1) 0=0:=h2;show(p.s++q).getD i 0=0∨_;rcases Nat.lt_or_ge (i+1) p.s.length with h3|h3
 ·rw[getD_left _ _ _ h3]at h2;rw[getD_left _ _ _ (by omega)];rcases h.z i h3 h2 with h4|⟨a,ha,h4⟩
  ·exact .inl h4
  ·exact .inr ⟨a,hm a ha,h4⟩
 ·rw[List.getD_eq_getElem?_getD,List.getElem?_append_right h3,← List.getD_eq_getElem?_getD]at h2;exact absurd h2 (hq _ (WA _ _ _ (by omega)))⟩
theorem VS.give {p:Pl} {q:List Int} (h:VS p) (hq:nz q):VS (Vg p q):=h.zgive hq h.fr fun _ ha=>ha
theorem VS.begin {p:Pl} {op:Int} {ps rs:List Int} (h:VS p) (hp:nz ps) (hr:nz rs):VS (WY p op ps rs) :=
 h.zgive hp (fun a ha=>by
  rcases List.mem_append.1 ha with h1|h1
  ·exact h.fr a h1
  ·rw[List.mem_singleton.1 h1];exact⟨hp,hr⟩) fun a ha=>List.mem_append_left _ ha
theorem VS.dead {n:Nat} {p:Pl} (h:VS p) (hi:Ur n p) (h0:0<p.f.length):VS (VP p):=by
 obtain⟨f,t,e,e2,h1,h2,h3⟩:=hi.ends h0;have hf:(VP p).f=f++[{ t with dead:=true }]:=by
  unfold VP;simp only;rw[e2,e];simp
 have hs:(VP p).s=p.s.take t.h:=by unfold VP;simp only;rw[e2]
 have hc:=h.cut t.h;refine⟨fun a ha=>?_,fun i h4 h5=>?_⟩
 ·rw[hf]at ha;rcases List.mem_append.1 ha with h4|h4
  ·exact h.fr a (by rw[e];simp[h4])
  ·rw[List.mem_singleton.1 h4];exact h.fr t (by rw[e];simp)
 ·rw[hs]at h4 h5 ⊢;rcases hc.z i h4 h5 with h6|⟨a,ha,h6⟩
  ·exact .inl h6
  ·have ha:a ∈ p.f:=ha;rw[e]at ha;refine .inr ?_;rw[hf];rcases List.mem_append.1 ha with h7|h7
   ·exact⟨a,by simp[h7],h6⟩
   ·rw[List.mem_singleton.1 h7]at h6;exact⟨_,List.mem_append_right _ (List.mem_singleton.2 rfl),h6⟩
theorem VS.leave {n:Nat} {p p':Pl} {q:List Int} (h:VS p) (hi:Ur n p) (h0:0<p.f.length) (hl:Vo p q=some p'):VS p':=by
 unfold Vo at hl;obtain⟨p1,h1,rfl⟩:=Option.map_eq_some_iff.1 hl;obtain⟨h2,h3⟩:=hi.take h0 h1;exact(h.take h1).dead h2 (by rw[h3];exact h0)
theorem VS.finish {n:Nat} {p p':Pl} {fr:Fr} (h:VS p) (hi:Ur n p) (h0:0<p.f.length) (hl:VT p=some (fr,p')):VS p'∧nz fr.ps∧nz fr.rs:=by
 unfold VT at hl;obtain⟨p1,h1,h2⟩:=Option.bind_eq_some_iff.1 hl;have h3:=h.take h1;have h4:=(hi.take h0 h1).2
 split at h2
 ·rename_i h5
  simp only[Option.some.injEq,Prod.mk.injEq]at h2;obtain⟨rfl,rfl⟩:=h2;obtain⟨f,t,e,e2,h6,h7,h8⟩:=hi.ends h0;have ht:p.f.take (p.f.length - 1)=f:=by rw[e];simp
  rw[e2]at h5 ⊢;refine⟨⟨fun a ha=>h.fr a (List.mem_of_mem_take ha),fun i h9 h10=>?_⟩,h.fr t (by rw[e];simp)⟩;have h9:i+1<p1.s.length:=h9;rcases h3.z i h9 h10 with h11|⟨a,ha,h11⟩
  ·exact .inl h11
  ·refine .inr ⟨a,?_,h11⟩;show a ∈ p.f.take (p.f.length - 1);rw[ht];rw[h4,e]at ha;rcases List.mem_append.1 ha with h12|h12
   ·exact h12
   ·rw[List.mem_singleton.1 h12]at h11;omega
 ·cases h2
theorem VS.pop {p:Pl} {q:Int×Pl} (h:VS p) (hl:UD p=some q):VS q.2:=by
 unfold UD at hl
 split at hl
 ·split at hl
  ·simp only[Option.some.injEq]at hl;subst hl;exact h
  ·cases hl
 ·simp only[Option.some.injEq]at hl;subst hl;exact h.cut _
theorem VS.low {n:Nat} {p:Pl} (h:VS p) (hi:Ur n p) (h0:0<p.f.length):lowZ p:=fun i h1 h2 h3=>by
 rcases h.z i h2 h3 with h4|⟨a,ha,h4⟩
 ·exact h4
 ·have:=hi.all h0 a ha;omega
theorem VS.again {n:Nat} {p:Pl} {u l:Int×Pl} (h:VS p) (hi:Ur n p) (h0:0<p.f.length) (h1:UD p=some u) (h2:UD u.2=some l):VS (Vg l.2 [u.1]):=by
 by_cases hu:u.1=0
 ·have h3:=h.pop h1;have h4:=h3.pop h2;have hlow:=h.low hi h0;refine⟨h4.fr,fun i h5 h6=>?_⟩;have h5:i+1<(l.2.s++[u.1]).length:=h5;have h6:(l.2.s++[u.1]).getD (i+1) 0=0:=h6;show(l.2.s++[u.1]).getD i 0=0∨_;rw[List.length_append,List.length_singleton]at h5;rw[getD_left _ _ _ (by omega)];rcases Nat.lt_or_ge (i+1) l.2.s.length with h7|h7
  ·rw[getD_left _ _ _ h7]at h6;exact h4.z i h7 h6
  ·have h8:l.2.s.length=i+1:=by omega
   have hf2:l.2.f=p.f:=by rw[(hi.pop h0 h1).1.pop (by rw[(hi.pop h0 h1).2];exact h0) h2 |>.2,(hi.pop h0 h1).2]
   unfold UD at h1 h2;have hmem:WT p.f ∈ p.f:=WA _ _ _ (by omega)
   split at h1
   ·rename_i h9
    split at h1
    ·rename_i hd
     simp only[Option.some.injEq]at h1;subst h1;have h2:(if p.s.length≤(WT p.f).h then (if (WT p.f).dead then some ((0:Int),p) else none) else some (p.s.getD (p.s.length - 1) 0,⟨p.s.take (p.s.length - 1),p.f⟩))=some l:=h2;rw[if_pos h9,if_pos hd]at h2;simp only[Option.some.injEq]at h2;subst h2;have h10:=(hi.top h0).1;have h8:p.s.length=i+1:=h8;exact .inr ⟨WT p.f,hmem,by omega⟩
    ·cases h1
   ·rename_i h9
    simp only[Option.some.injEq]at h1;subst h1;simp only[List.length_take]at h2
    split at h2
    ·rename_i h10
     split at h2
     ·simp only[Option.some.injEq]at h2;subst h2;simp only[List.length_take]at h8;have h10:min (p.s.length - 1) p.s.length≤(WT p.f).h:=h10;exact .inr ⟨WT p.f,hmem,by omega⟩
     ·cases h2
    ·rename_i h10
     have h10:¬ min (p.s.length - 1) p.s.length≤(WT p.f).h:=h10;simp only[Option.some.injEq]at h2;subst h2;simp only[List.length_take]at h8;simp only at hu;rw[show min (p.s.length - 1) p.s.length - 1=p.s.length - 2 by omega]at h8 ⊢;have h11:p.s.length=i+3:=by omega
     have h12:p.s.getD (i+1) 0=0:=hlow (i+1) (by omega) (by omega) (by rw[show i+1+1=p.s.length - 1 by omega];exact hu);rw[getD_take _ _ _ (by omega),getD_take _ _ _ (by omega)];exact h.z i (by omega) h12
 ·exact((h.pop h1).pop h2).give (Ud hu)
theorem labelC_nz {p:Pl} (h:VS p) (k:Nat):nz (Ww p k):=by
 unfold Ww;rcases Nat.lt_or_ge (p.f.length - 1 - k) p.f.length with hk|hk
 ·have hm:p.f.getD (p.f.length - 1 - k) fr0 ∈ p.f:=WA _ _ _ hk
  split
  ·exact(h.fr _ hm).1
  ·exact(h.fr _ hm).2
 ·have h0:p.f.getD (p.f.length - 1 - k) fr0=fr0:=by rw[List.getD_eq_getElem?_getD,List.getElem?_eq_none hk];rfl
  rw[h0];exact VX
theorem EnvNz.sig {e:U5} (h:EnvNz e) (k:Int):nz ((WB e.m k).getD ([],[])).1∧nz ((WB e.m k).getD ([],[])).2:=by
 cases hs:WB e.m k with
 | none=>exact⟨VX,VX⟩
 | some t=>exact h.ty t (fsigB_mem hs)
theorem EnvNz.block {e:U5} (h:EnvNz e) (k:Int):nz ((Wv e.m k).getD ([],[])).1∧nz ((Wv e.m k).getD ([],[])).2:=by
 unfold Wv
 split
 ·exact⟨VX,VX⟩
 split
 ·exact⟨VX,Ud (by decide)⟩
 split
 ·exact⟨VX,Ud (by decide)⟩
 split
 ·exact⟨VX,Ud (by decide)⟩
 cases hs:Uo e.m k with
 | none=>exact⟨VX,VX⟩
 | some t=>exact h.ty t (typeB_mem hs)
theorem sig_nz (op:Int):WS op=true→(VH op).2.1≠0∧(VH op).2.2≠0 :=
 VO (fun op=>WS op=true→(VH op).2.1≠0∧(VH op).2.2≠0) (by decide +kernel) (by decide +kernel) (fun op h e=>by rw[far_num op h]at e;cases e) op
theorem acc_nz (op:Int):(WK op).2.2.2=true→(WK op).2.1≠0 :=
 VO (fun op=>(WK op).2.2.2=true→(WK op).2.1≠0) (by decide +kernel) (by decide +kernel) (fun op h e=>by rw[far_acc op h]at e;cases e) op
theorem params_nz (op:Int):nz (Vw op):=by
 unfold Vw
 split
 ·rename_i h
  intro a ha;rw[List.eq_of_mem_replicate ha];exact(sig_nz op h).1
 ·exact VX
theorem results_nz (op:Int):nz (Vf op):=by
 unfold Vf
 split
 ·rename_i h;exact Ud (sig_nz op h).2
 ·exact VX
theorem fixed_nz (op:Int):nz (V0 op).1∧nz (V0 op).2:=by
 unfold V0
 split
 ·rename_i h;exact⟨VX,Ud h⟩
 split
 ·exact⟨params_nz op,results_nz op⟩
 split
 ·rename_i h
  have:=acc_nz op h
  split
  ·exact⟨nz_app (a:=[127]) (Ud (by decide)) (Ud this),VX⟩
  ·exact⟨Ud (by decide),Ud this⟩
 ·exact⟨VX,VX⟩
theorem withinB_lt {n:Int} {l:Nat} (h:Wi n l=true):0≤n∧n.toNat<l:=by
 unfold Wi at h;simp at h;omega
theorem EnvNz.eff {e:U5} (h:EnvNz e) {p:Pl} (hp:VS p) (x:Vl) (hx:Wo e p x=true):nz (Vi e p x).1∧nz (Vi e p x).2:=by
 have hl:=labelC_nz hp x.a.toNat;have hs:=h.sig x.a;have hf:=fixed_nz x.op;have hlo:x.op=32∨x.op=33∨x.op=34→e.lo.getD x.a.toNat 0≠0:=fun ho=>by
  have h2:Wi x.a e.lo.length=true:=by
   rcases ho with ho|ho|ho <;> (unfold Wo at hx;simp[ho]at hx;exact hx)
  exact h.lo _ (WA _ _ _ (withinB_lt h2).2)
 have hgl:x.op=35→(e.m.globs.getD x.a.toNat glob0).1≠0:=fun ho=>by
  have h2:Wi x.a e.m.globs.length=true:=by unfold Wo at hx;simp[ho]at hx;exact hx
  exact h.gl _ (WA _ _ _ (withinB_lt h2).2)
 have n127:nz [127]:=Ud (by decide);unfold Vi
 split
 ·exact⟨nz_app hl n127,hl⟩
 split
 ·exact hs
 split
 ·exact⟨VX,Ud (hlo (.inl ‹_›))⟩
 split
 ·exact⟨Ud (hlo (.inr (.inl ‹_›))),VX⟩
 split
 ·exact⟨Ud (hlo (.inr (.inr ‹_›))),Ud (hlo (.inr (.inr ‹_›)))⟩
 split
 ·exact⟨VX,Ud (hgl ‹_›)⟩
 split
 ·exact⟨VX,n127⟩
 split
 ·exact⟨n127,n127⟩
 split
 ·exact⟨nz_app (a:=[127]) n127 (nz_app (a:=[127]) n127 n127),VX⟩
 exact hf
theorem VS.follow {e:U5} {n:Nat} {p q:Pl} {x:Vl} (he:EnvNz e) (h:VS p) (hi:Ur n p) (h0:0<p.f.length) (hx:Wo e p x=true) (hf:Wu e p x=some q):VS q:=by
 have hef:=he.eff h x hx;unfold Wu at hf;by_cases c0:x.op=2∨x.op=3∨x.op=4
 ·rw[if_pos c0]at hf;unfold openC at hf;obtain⟨p1,h1,h2⟩:=Option.bind_eq_some_iff.1 hf;obtain⟨p2,h3,rfl⟩:=Option.map_eq_some_iff.1 h2;have h4:VS p1:=by
   split at h1
   ·exact h.take h1
   ·simp only[Option.some.injEq]at h1;subst h1;exact h
  exact(h4.take h3).begin (he.block _).1 (he.block _).2
 rw[if_neg c0]at hf;by_cases c1:x.op=5
 ·rw[if_pos c1]at hf;unfold divideC at hf;obtain⟨⟨fr,p1⟩,h1,rfl⟩:=Option.map_eq_some_iff.1 hf;obtain⟨h2,h3,h4⟩:=h.finish hi h0 h1;exact h2.begin h3 h4
 rw[if_neg c1]at hf;by_cases c2:x.op=11
 ·rw[if_pos c2]at hf;unfold closeC at hf;obtain⟨⟨fr,p1⟩,h1,h2⟩:=Option.bind_eq_some_iff.1 hf;obtain⟨h3,h4,h5⟩:=h.finish hi h0 h1
  split at h2
  ·cases h2
  ·simp only[Option.some.injEq]at h2;subst h2;exact h3.give h5
 rw[if_neg c2]at hf;by_cases c3:x.op=0
 ·rw[if_pos c3]at hf;exact h.leave hi h0 hf
 rw[if_neg c3]at hf;by_cases c4:x.op=12
 ·rw[if_pos c4]at hf;exact h.leave hi h0 hf
 rw[if_neg c4]at hf;by_cases c5:x.op=14
 ·rw[if_pos c5]at hf;unfold Uw at hf;obtain⟨p1,h1,h2⟩:=Option.bind_eq_some_iff.1 hf;obtain⟨h3,h4⟩:=hi.take h0 h1
  split at h2
  ·exact(h.take h1).leave h3 (by rw[h4];exact h0) h2
  ·cases h2
 rw[if_neg c5]at hf;by_cases c6:x.op=15
 ·rw[if_pos c6]at hf;exact h.leave hi h0 hf
 rw[if_neg c6]at hf;by_cases c7:x.op=18
 ·rw[if_pos c7]at hf
  split at hf
  ·exact h.leave hi h0 hf
  ·cases hf
 rw[if_neg c7]at hf;by_cases c8:x.op=26
 ·rw[if_pos c8]at hf;obtain⟨p1,h1,rfl⟩:=Option.map_eq_some_iff.1 hf;exact h.pop h1
 rw[if_neg c8]at hf;by_cases c9:x.op=27
 ·rw[if_pos c9]at hf;unfold Uu at hf;obtain⟨p1,h1,h2⟩:=Option.bind_eq_some_iff.1 hf;obtain⟨u,h3,h4⟩:=Option.bind_eq_some_iff.1 h2;obtain⟨l,h5,h6⟩:=Option.bind_eq_some_iff.1 h4;obtain⟨a1,a2⟩:=hi.take h0 h1
  split at h6
  ·simp only[Option.some.injEq]at h6;subst h6;exact(h.take h1).again a1 (by rw[a2];exact h0) h3 h5
  ·cases h6
 rw[if_neg c9]at hf;by_cases c10:x.op=36
 ·rw[if_pos c10]at hf
  split at hf
  ·exact h.take hf
  ·cases hf
 rw[if_neg c10]at hf;obtain⟨p1,h1,rfl⟩:=Option.map_eq_some_iff.1 hf;exact(h.take h1).give hef.2
theorem VS.step {e:U5} {n:Nat} {p:Pl} {x:Vl} (he:EnvNz e) (h:VS p) (hi:Ur n p) (hs:(Vr e p x).1=0):VS (Vr e p x).2:=by
 unfold Vr at hs ⊢
 split at hs
 ·cases hs
 rename_i h1
 rw[if_neg h1]
 split at hs
 ·cases hs
 rename_i h2
 rw[if_neg h2]
 split at hs
 ·cases hs
 rename_i h3
 rw[if_neg h3];have h0:0<p.f.length:=inPlaceC_pos (op:=x.op) (by cases hi:Vc p x.op with|true=>rfl|false=>exact absurd hi h1);have hx:Wo e p x=true:=by cases hc:Wo e p x with|true=>rfl|false=>exact absurd hc h3
 cases hf:Wu e p x with
 | none=>rw[hf]at hs;cases hs
 | some q=>exact h.follow he hi h0 hx hf
theorem VS.first (op:Int) (ro:List Int) (hr:nz ro):VS (WY ⟨[],[]⟩ op [] ro) :=
 ⟨fun a ha=>by
  have ha:a ∈ [(⟨op,[],ro,0,false⟩:Fr)]:=ha;rw[List.mem_singleton.1 ha];exact⟨VX,hr⟩,fun i h1 _=>absurd (show i+1<0 from h1) (Nat.not_lt_zero _)⟩
end
section
open Go.RowKit
set_option maxHeartbeats 4000000
set_option maxRecDepth 100000
theorem Zb6 {P:Prop}(h:P:=by
 exact⟨⟨Vj w _,World.ownsRow_nil _ _ _ _,fun g hg=>(by cases hg),World.ownsRow_nil _ _ _ _,fun g hg=>(by cases hg),fun g hg=>(by cases hg),⟨hm.keep hk hfr,hl.keep hk hfr,hr.keep hk hfr,fun f hf=>(by cases hf)⟩⟩,hfr⟩):P:=h
theorem ZcR {P:Prop}(h:P:=by
 refine⟨?_,HB8.out wz (Wa HB2.out hz)⟩;rw[hW2]at hz;exact(hz.cell (p:=⟨w1.heap.size,1,none⟩) (by simp)).trans (wN w1 _ _ 1)):P:=h
theorem ZcU {P:Prop}(h:P:=by
 refine⟨by rw[Wj];omega,?_⟩;rintro(e|e|e|e)
 ·have:k=w.heap.size:=e;omega
 ·cases e
 ·cases e
 ·cases e):P:=h
def wxOf (G:Nat) (v:Mv) (m:Vt) (prof:Int) (lov:Value) (lo:List Int) (rv:Value) (ro:List Int):Wx:=⟨G,false,165,192,v,m,prof,lov,lo,rv,ro,none⟩
def ws0:Ws:=⟨.slice none 0 0,.slice none 0 0,[],[]⟩
theorem wk_start (w:World) (v:Mv) (m:Vt) (prof:Int) (lov:Value) (lo:List Int) (rv:Value) (ro:List Int) (hm:W7 (fun k=>k<w.heap.size) w v m) (hl:Wf (fun k=>k<w.heap.size) w lov lo) (hr:Wf (fun k=>k<w.heap.size) w rv ro) :
 Wk (wxOf w.heap.size v m prof lov lo rv ro) (w.alloc (.cells (WN (wxOf w.heap.size v m prof lov lo rv ro) ws0) 165)) ws0∧∀ k,k<w.heap.size→Wq (wxOf w.heap.size v m prof lov lo rv ro) (w.alloc (.cells (WN (wxOf w.heap.size v m prof lov lo rv ro) ws0) 165)) ws0 k:=by
 have hfr:∀ k,k<w.heap.size→Wq (wxOf w.heap.size v m prof lov lo rv ro) (w.alloc (.cells (WN (wxOf w.heap.size v m prof lov lo rv ro) ws0) 165)) ws0 k:=fun k hk=>by
  exact ZcU
 have hb:=Wb (bR w.heap.size w) (.cells (WN (wxOf w.heap.size v m prof lov lo rv ro) ws0) 165);have hk:We (fun k=>k<w.heap.size) w (w.alloc (.cells (WN (wxOf w.heap.size v m prof lov lo rv ro) ws0) 165)):=We.below hb fun _ hk=>hk;exact Zb6
def BegPost (v:Mv) (m:Vt) (f prof:Int) (w:World) (e:Ending) (w':World):Prop :=
 ∃ F x,F.prg∧F.v=v∧F.m=m∧F.env=UI m f.toNat prof∧e=.returned (.tuple #[.pointer (some ⟨F.G,0,none⟩),.int .i64 0])∧Wk F w' x∧x.pl=WY ⟨[],[]⟩ 2 [] F.ro∧(∀ k,k<w.heap.size→Wq F w' x k)∧Below w.heap.size w w'
theorem beg_end {w W4 w':World} {G:Nat} {v:Mv} {m:Vt} {f prof:Int} {lov rv:Value} {x:Ws} {ro lo:List Int} (hlo:(UI m f.toNat prof).lo=lo) (hro:(UI m f.toNat prof).ro=ro) (hb:Below w.heap.size w W4)
 (hg:Wk (wxOf G v m prof lov lo rv ro) w' x) (hs:Wz (wxOf G v m prof lov lo rv ro) W4 ws0 w' x) (hfr:∀ k,k<w.heap.size→Wq (wxOf G v m prof lov lo rv ro) W4 ws0 k)
 (hf:x.f=[⟨2,.slice none 0 0,rv,[],ro,0,false⟩]) (hx:x.s=[]) :
 BegPost v m f prof w (.returned (.tuple #[.pointer (some ⟨G,0,none⟩),.int .i64 0])) w':=by
 refine⟨_,x,⟨rfl,rfl,rfl⟩,rfl,rfl,?_,rfl,hg,?_,fun k hk=>hs.mono k (hfr k hk),hb.trans (hs.keeps.to_below hfr)⟩
 ·show(⟨m,prof,lo,ro⟩:U5)=_;rw[← hro,← hlo];rfl
 ·unfold Ws.pl WY;rw[hf,hx];rfl
theorem beg_any (w:World) (v:Mv) (m:Vt) (h:W7 (fun k=>k<w.heap.size) w v m) (hs:Vq m) (f:Nat) (hf:f<m.funs.length) (t:List Int×List Int) (ht:WB m ((m.imps.length:Int)+(f:Int))=some t) (prof:Int) :
 Calls Tryz.prog 46 #[.agg v.cells,.int .i64 (f:Int),.int .i64 prof] w (BegPost v m (f:Int) prof w):=by
 have hro:(UI m (f:Int).toNat prof).ro=t.2:=by show((WB m _).getD ([],[])).2=t.2;rw[Int.toNat_natCast,ht];rfl
 have hlo:(UI m (f:Int).toNat prof).lo=locB m ((m.imps.length:Int)+(f:Int)):=by show locB m _=_;rw[Int.toNat_natCast]
 have hwi:Wi (f:Int) m.funs.length=true:=by unfold Wi;simp;omega
 obtain⟨fi,hfi⟩:∃ fi:Int,fi=(m.imps.length:Int)+(f:Int):=⟨_,rfl⟩;have hs1:=hs.2.1;have hs2:=hs.2.2.1;have hfb : -9223372036854775808≤fi∧fi≤9223372036854775807:=by omega
 rw[← hfi]at ht hlo;have HRO:=hD hro;have HLO:=hD hlo;have HSG:=hD (fun wz (hb:Below w.heap.size w wz)=>ht ▸ sig_any wz v m (h.keep (We.below hb fun _ hk=>hk) fun _ hk=>Ve hk hb.size) hs fi hfb);have HLC:=hD (fun wz (hb:Below w.heap.size w wz)=>locals_any wz v m (h.keep (We.below hb fun _ hk=>hk) fun _ hk=>Ve hk hb.size) hs fi hfb);generalize locB m fi=lo at HLC HLO;have HMA:=hD (fun wz (hb:Below w.heap.size w wz)=>(h.keep (We.below hb fun _ hk=>hk) fun _ hk=>Ve hk hb.size:W7 (fun k=>k<wz.heap.size) wz v m));obtain⟨A0,c0,A1,c1,A2,c2,A3,c3,A4,c4,A5,c5,A6,c6,A7,c7,rfl⟩:=Wr h;simp only[Mv.cells]at HSG HLC ⊢;clear h hs;obtain⟨⟨n0,hn0⟩,⟨n1,hn1⟩,⟨n2,hn2⟩,⟨n3,hn3⟩,⟨n4,hn4⟩,⟨n5,hn5⟩,⟨n6,hn6⟩,⟨n7,hn7⟩⟩:=len8 m;rw[hn0,hn1,hn2,hn3,hn4,hn5,hn6,hn7]at HSG HLC HMA ⊢;rw[hn1]at hfi hs1;rw[hn2]at hwi hs2;have e1:IntKind.i64.wrap ((n1:Int)+(f:Int))=fi:=by rw[← hfi];exact IntWalk.i64_in _ (by omega)
 obtain⟨W,hW,hbw,HB8⟩:=Vv w (.slice A0 n0 c0) (.slice A1 n1 c1) (.slice A2 n2 c2) (.slice A3 n3 c3) (.slice A4 n4 c4) (.slice A5 n5 c5) (.slice A6 n6 c6) (.slice A7 n7 c7);have HBW:=hD hbw;have HB8:=hD HB8;have HW:=hD hW;obtain⟨b0,b1,b2,b3,b4,b5,b6,b7⟩:=HB8.out W (bR _ _);clear hbw hW hn0 hn1 hn2 hn3 hn4 hn5 hn6 hn7 hs1 hs2 hfi hfb hf ht hro hlo;go_enter Tryz.func46,Tryz.ntmps46
 go_upto_region 1 with (fail)
 rw[← HW.out]
 go_upto_region 4 with (first|(go_at_call 79;refine(V7 _ _ _).mono ?_;rintro e w1 ⟨rfl,rfl⟩;rw[hwi]))
 clear b0 b1 b2 b3 b4 b5 b6 b7 hwi;obtain⟨b0,b1,b2,b3,b4,b5,b6,b7⟩:=HB8.out W (bR _ _)
 go_upto_region 5 with (first|(go_at_call 52;refine(HSG.out W HBW.out).mono ?_;rintro e w1 ⟨pv,rv,rfl,hp,hr,hb1⟩;obtain⟨Ap,cp,rfl,_,_⟩:=hp.form;obtain⟨Ar,cr,rfl,_,_⟩:=hr.form;have HB1:=hD hb1;have HRV:=hD hr;clear hp hr hb1))
 obtain⟨W2,hW2⟩:∃ W2,W2=w1.alloc (.cells #[.slice Ap t.1.length cp,.slice Ar t.2.length cr] 40):=⟨_,rfl⟩;have HB2:Hid (Below W.heap.size W W2):=hD (hW2 ▸ Wb HB1.out _);have HB12:Hid (Below w1.heap.size w1 W2):=hD (hW2 ▸ Wb (bR _ _) _);have HZ:Hid (∀ wz,Below W2.heap.size W2 wz→wz.cell? ⟨w1.heap.size,1,none⟩=some (.slice Ar t.2.length cr)∧Box8 wz w.heap.size (.slice A0 n0 c0) (.slice A1 n1 c1) (.slice A2 n2 c2) (.slice A3 n3 c3) (.slice A4 n4 c4) (.slice A5 n5 c5) (.slice A6 n6 c6) (.slice A7 n7 c7)):=hD fun wz hz=>by
  exact ZcR
 rw[← hW2];clear hW2 b0 b1 b2 b3 b4 b5 b6 b7;obtain⟨z1,b0,b1,b2,b3,b4,b5,b6,b7⟩:=HZ.out W2 (bR _ _)
 go_upto_region 7 with (fail)
 go_region_held3 (fun wz=>wz.cell? ⟨w1.heap.size,1,none⟩=some (.slice Ar t.2.length cr)∧wz.cell? ⟨w.heap.size,0,none⟩=some (.slice A0 n0 c0)∧wz.cell? ⟨w.heap.size,1,none⟩=some (.slice A1 n1 c1)∧wz.cell? ⟨w.heap.size,2,none⟩=some (.slice A2 n2 c2)∧wz.cell? ⟨w.heap.size,3,none⟩=some (.slice A3 n3 c3)∧wz.cell? ⟨w.heap.size,4,none⟩=some (.slice A4 n4 c4)∧wz.cell? ⟨w.heap.size,5,none⟩=some (.slice A5 n5 c5)∧wz.cell? ⟨w.heap.size,6,none⟩=some (.slice A6 n6 c6)∧wz.cell? ⟨w.heap.size,7,none⟩=some (.slice A7 n7 c7))
  (first|go_keep|exact⟨z1,b0,b1,b2,b3,b4,b5,b6,b7⟩|exact HX3.out)
  ((go_at_call 55;refine(HLC.out _ (Wa HBW.out (Wa HB2.out ((bR _ _).drew)))).mono ?_;rintro e w3 ⟨Al,cl,rfl,_,hl3,hb3⟩;have HL3:=hD hl3;have HB3:=hD (Wa ((bR W2.heap.size W2).drew) hb3);have HX3:=hD (HZ.out _ HB3.out);clear hl3 hb3))
 clear z1 b0 b1 b2 b3 b4 b5 b6 b7;obtain⟨W4,hW4⟩:∃ W4,W4=w3.alloc (.cells #[.slice none 0 0,.slice none 0 0,.slice A0 n0 c0,.slice A1 n1 c1,.slice A2 n2 c2,.slice A3 n3 c3,.slice A4 n4 c4,.slice A5 n5 c5,.slice A6 n6 c6,.slice A7 n7 c7,.int .i64 prof,.slice Al lo.length cl,.slice Ar t.2.length cr] 165):=⟨_,rfl⟩;have hb23:Below W.heap.size W w3:=Wa HB2.out HB3.out;have hr3:Wf (fun k=>k<w3.heap.size) w3 (.slice Ar t.2.length cr) t.2:=HRV.out.keep (We.below (HB12.out.trans (HB3.out.mono HB12.out.size)) fun k hk=>by rcases hk with hk|hk;exact hk.elim;exact hk.2) fun k hk=>by
  have h1:=HB12.out.size;have h2:=HB3.out.size;rcases hk with hk|hk
  ·exact hk.elim
  ·omega
 have hst:=wk_start w3 _ m prof (.slice Al lo.length cl) lo (.slice Ar t.2.length cr) t.2 (HMA.out w3 (Wa HBW.out hb23)) (HL3.out.keep (.refl _ _) fun _ hk=>hk.2) hr3;have HST:=hD (show Wk _ W4 ws0∧∀ k,k<w3.heap.size→Wq _ W4 ws0 k by rw[hW4];exact hst);have HW4:=hD hW4;have hz4:=HZ.out W4 (Wa HB3.out (hW4 ▸ Wb (bR _ _) _));have HZ4:=hD hz4;have z1:=hz4.1;have HB23:=hD hb23;have HLT:Hid (w1.heap.size<w3.heap.size):=hD (Ve (wL W2 _ (HZ.out W2 (bR _ _)).1) HB3.out.size);rw[← HW4.out];clear hst hr3 hb23 hW4 hz4
 go_upto_region 8 with (fail)
 go_region_held3 (fun wz=>wz.cell? ⟨w1.heap.size,1,none⟩=some (.slice Ar t.2.length cr))
  (first|go_keep|exact z1|exact HX5.out)
  ((go_at_call 80;refine(begin_any ⟨rfl,rfl,rfl⟩ HST.out.1.drew.1 2 (.slice none 0 0) (.slice Ar t.2.length cr) [] t.2 (Wf.nil _ _) HST.out.1.drew.1.reads.own (by show 0+0≤1000000;omega) (by show 0+1≤1000000;omega)).mono ?_;rintro e w5 ⟨rfl,x5,hg5,hs5,hf5,hx5⟩;have HG5:=hD hg5;have HS5:=hD (HST.out.1.drew.2.trans hs5);have HF5:=hD hf5;have HX55:=hD hx5;have HX5:=hD ((HS5.out.keeps.cell (p:=⟨w1.heap.size,1,none⟩) (HST.out.2 _ HLT.out)).trans z1);clear hg5 hs5 hf5 hx5))
 clear z1;go_wp2
 go_ret2
 have hsz:w.heap.size≤w3.heap.size:=(Wa HBW.out HB23.out).size;exact beg_end HLO.out HRO.out (by rw[HW4.out];exact Wb (Wa HBW.out HB23.out) _) HG5.out HS5.out (fun k hk=>HST.out.2 k (by omega)) (by rw[HF5.out];rfl) (by rw[HX55.out];rfl)
end
section
open Go.RowKit
set_option maxHeartbeats 4000000
set_option maxRecDepth 100000
theorem ZbR {P:Prop}(h:P:=by
 rw[hr2]at CB;clear hc HRR hr2;go_wp2_with (first|(go_at_call 79;with_reducible refine(CW.out _).mono ?_;rintro e w1 ⟨rfl,rfl⟩;clear CW)|(go_at_call 79;with_reducible refine(CB.out _).mono ?_;rintro e w1 ⟨rfl,rfl⟩))
 go_ret;exact⟨rfl,Wa HB.out HBD.out⟩):P:=h
theorem Zb1 {P:Prop}(h:P:=by
 have CW:=fun w=>V7 a nm w;rw[hc]at CW;have hr2:r=false:=by rw[← HRR.out,hc];rfl
 subst hr2;clear hc HRR;go_wp2_with (go_at_call 79;refine(CW _).mono ?_;rintro e w1 ⟨rfl,rfl⟩)
 go_ret;exact⟨rfl,Wa HB.out HBD.out⟩):P:=h
theorem exists_64520 {F:Wx} {w:World} {x:Ws} (hF:F.prg) (h:Wk F w x) (a b n:Int) (l:List Int) (Al:Option Addr) (nl cl:Nat) :
 Calls Tryz.prog 83 #[.pointer (some ⟨F.G,0,none⟩),.agg #[.int .i64 64520,.int .i64 a,.int .i64 b,.int .u64 n,.slice Al nl cl]] w (Wh (Wo F.env x.pl ⟨64520,a,b,n,l⟩) w):=by
 rw[show Wo F.env x.pl ⟨64520,a,b,n,l⟩=(Wi a F.m.mems.length && Wi b F.m.datas.length) by unfold Wo Ws.pl Wx.env;simp];obtain⟨k0,k1,k2,k4,⟨A1,c1,p1⟩,⟨A5,c5,p5⟩,⟨A6,c6,p6⟩,⟨A8,c8,p8⟩,⟨A11,c11,p11⟩⟩:=h.exi hF ⟨64520,a,b,n,l⟩ Al nl cl;have hb:=(bR w.heap.size w).alloc (nR _) (.cells #[.int .i64 64520,.int .i64 a,.int .i64 b,.int .u64 n,.slice Al nl cl] 25);simp only at k0 k1 k2 k4 p1 p5 p6 p8 p11 hb;generalize x.f.length=nf at *;generalize F.m.mems.length=nm at *;generalize F.m.globs.length=ng at *;generalize F.m.datas.length=nd at *;generalize F.lo.length=no at *;clear h hF;obtain⟨r,hr⟩:∃ r,(Wi a nm && Wi b nd)=r:=⟨_,rfl⟩;have HRR:=hD hr;rw[hr];clear hr;go_enter Tryz.func83,Tryz.ntmps83
 go_upto_region 1 with (fail)
 generalize w.alloc (.cells #[.int .i64 64520,.int .i64 a,.int .i64 b,.int .u64 n,.slice Al nl cl] 25)=W at *;have HB:=hD hb;clear hb;go_quiet (fail)
 have hbd:=Wt (bR W.heap.size W) nq;have HBD:=hD hbd;clear hbd;cases hc:Wi a nm with
 | false =>
  exact Zb1
 | true =>
  have CW:=hD (fun w=>V7 a nm w);have CB:=hD (fun w=>V7 b nd w);rw[hc]at CW;have hr2:Wi b nd=r:=by rw[← HRR.out,hc];rfl
  exact ZbR
theorem exists_64522 {F:Wx} {w:World} {x:Ws} (hF:F.prg) (h:Wk F w x) (a b n:Int) (l:List Int) (Al:Option Addr) (nl cl:Nat) :
 Calls Tryz.prog 83 #[.pointer (some ⟨F.G,0,none⟩),.agg #[.int .i64 64522,.int .i64 a,.int .i64 b,.int .u64 n,.slice Al nl cl]] w (Wh (Wo F.env x.pl ⟨64522,a,b,n,l⟩) w):=by
 rw[show Wo F.env x.pl ⟨64522,a,b,n,l⟩=(Wi a F.m.mems.length && Wi b F.m.mems.length) by unfold Wo Ws.pl Wx.env;simp];obtain⟨k0,k1,k2,k4,⟨A1,c1,p1⟩,⟨A5,c5,p5⟩,⟨A6,c6,p6⟩,⟨A8,c8,p8⟩,⟨A11,c11,p11⟩⟩:=h.exi hF ⟨64522,a,b,n,l⟩ Al nl cl;have hb:=(bR w.heap.size w).alloc (nR _) (.cells #[.int .i64 64522,.int .i64 a,.int .i64 b,.int .u64 n,.slice Al nl cl] 25);simp only at k0 k1 k2 k4 p1 p5 p6 p8 p11 hb;generalize x.f.length=nf at *;generalize F.m.mems.length=nm at *;generalize F.m.globs.length=ng at *;generalize F.m.datas.length=nd at *;generalize F.lo.length=no at *;clear h hF;obtain⟨r,hr⟩:∃ r,(Wi a nm && Wi b nm)=r:=⟨_,rfl⟩;have HRR:=hD hr;rw[hr];clear hr;go_enter Tryz.func83,Tryz.ntmps83
 go_upto_region 1 with (fail)
 generalize w.alloc (.cells #[.int .i64 64522,.int .i64 a,.int .i64 b,.int .u64 n,.slice Al nl cl] 25)=W at *;have HB:=hD hb;clear hb;go_quiet (fail)
 have hbd:=Wt (bR W.heap.size W) nq;have HBD:=hD hbd;clear hbd;cases hc:Wi a nm with
 | false =>
  exact Zb1
 | true =>
  have CW:=hD (fun w=>V7 a nm w);have CB:=hD (fun w=>V7 b nm w);rw[hc]at CW;have hr2:Wi b nm=r:=by rw[← HRR.out,hc];rfl
  exact ZbR
end
section
open Go.RowKit
set_option maxRecDepth 10000
theorem ZcF {P:Prop}(h:P:=by
 go_enter Tryz.func150,Tryz.ntmps150;go_wp2;go_ret;exact⟨rfl,(bR _ _).alloc (nR _) _⟩):P:=h
def spCells (s:Sp):List Value:=[.int .i64 s.1,.int .i64 s.2.1,.int .i64 s.2.2]
def UM (l:List Sp):List Value:=l.flatMap spCells
theorem flatS_snoc (l:List Sp) (x:Sp):UM (l++[x])=UM l++spCells x:=by simp[UM]
theorem flatS_cons (x:Sp) (l:List Sp):UM (x :: l)=spCells x++UM l:=by simp[UM]
theorem spAt_cons (x:Sp) (l:List Sp) (k:Nat):WR (x :: l) (k+1)=WR l k:=rfl
theorem flatS_at (l:List Sp):∀ k,k<l.length→(UM l)[k * 3]?=some (.int .i64 (WR l k).1)∧(UM l)[k * 3+1]?=some (.int .i64 (WR l k).2.1)∧(UM l)[k * 3+2]?=some (.int .i64 (WR l k).2.2):=by
 induction l with
 | nil=>intro k h;simp at h
 | cons x l ih =>
  intro k h;rw[flatS_cons];cases k with
  | zero=>exact⟨rfl,rfl,rfl⟩
  | succ k =>
   have h3:(spCells x).length=3:=rfl;rw[List.getElem?_append_right (by rw[h3];omega),List.getElem?_append_right (by rw[h3];omega),List.getElem?_append_right (by rw[h3];omega),h3,show(k+1) * 3 - 3=k * 3 by omega,show(k+1) * 3+1 - 3=k * 3+1 by omega,show(k+1) * 3+2 - 3=k * 3+2 by omega];exact ih k (by simp at h;omega)
theorem flatS_set (l:List Sp):∀ (k:Nat) (e z:Int),k<l.length→UM (l.set k ((WR l k).1,e,(WR l k).2.2))=(UM l).set (k * 3+1) (.int .i64 e)∧UM (l.set k ((WR l k).1,(WR l k).2.1,z))=(UM l).set (k * 3+2) (.int .i64 z):=by
 induction l with
 | nil=>intro k e z h;simp at h
 | cons x l ih =>
  intro k e z h;cases k with
  | zero=>simp only[List.set_cons_zero,flatS_cons];exact⟨rfl,rfl⟩
  | succ k =>
   have h3:(spCells x).length=3:=rfl;obtain⟨h1,h2⟩:=ih k e z (by simp at h;omega);simp only[List.set_cons_succ,flatS_cons,spAt_cons,h1,h2];rw[List.set_append_right _ _ (by rw[h3];omega),List.set_append_right _ _ (by rw[h3];omega),h3,show(k+1) * 3+1 - 3=k * 3+1 by omega,show(k+1) * 3+2 - 3=k * 3+2 by omega];exact⟨rfl,rfl⟩
def CodeAt (w:World) (A:Option Addr) (m:Nat) (ops:List Int):Prop :=
 0<m→∃ g o:Nat,A=some ⟨g,o,none⟩∧g<w.heap.size∧∀ j,j<m→∃ (u1 u2 u3:Int) (Al:Option Addr) (nl cl:Nat),w.cell? ⟨g,o+j * 5,none⟩=some (.int .i64 (ops.getD j 0))∧w.cell? ⟨g,o+j * 5+1,none⟩=some (.int .i64 u1)∧w.cell? ⟨g,o+j * 5+2,none⟩=some (.int .i64 u2)∧w.cell? ⟨g,o+j * 5+3,none⟩=some (.int .u64 u3)∧w.cell? ⟨g,o+j * 5+4,none⟩=some (.slice Al nl cl)
theorem CodeAt.below {w w':World} {A:Option Addr} {m:Nat} {ops:List Int} (h:CodeAt w A m ops) (hb:Below w.heap.size w w'):CodeAt w' A m ops:=fun hm=>by
 obtain⟨g,o,e,hg,hc⟩:=h hm;refine⟨g,o,e,Ve hg hb.size,fun j hj=>?_⟩;obtain⟨u1,u2,u3,Al,nl,cl,h0,h1,h2,h3,h4⟩:=hc j hj;exact⟨u1,u2,u3,Al,nl,cl,(hb.cell (p:=⟨g,o+j * 5,none⟩) hg).trans h0,(hb.cell (p:=⟨g,o+j * 5+1,none⟩) hg).trans h1,(hb.cell (p:=⟨g,o+j * 5+2,none⟩) hg).trans h2,(hb.cell (p:=⟨g,o+j * 5+3,none⟩) hg).trans h3,(hb.cell (p:=⟨g,o+j * 5+4,none⟩) hg).trans h4⟩
theorem CodeAt.less {w:World} {A:Option Addr} {m k:Nat} {ops:List Int} (h:CodeAt w A m ops) (hk:k≤m):CodeAt w A k ops:=fun h0=>by
 obtain⟨g,o,e,hg,hc⟩:=h (by omega);exact⟨g,o,e,hg,fun j hj=>hc j (by omega)⟩
section
variable {ops:List Int} {z:Int} {i:Nat} {s:MSt}
theorem mstep_open (h:WF (ops.getD i 0)=true):V3 ops z i s=some ⟨s.out++[((i:Int),-1,z)],s.op++[s.out.length],max s.deep (s.op.length+1)⟩:=by
 unfold V3;rw[if_pos (of_decide_eq_true h)]
theorem mstep_none {i:Nat} (h:(ops.getD i 0=5∨ops.getD i 0=11)∧s.op=[]):V3 ops z i s=none:=by
 unfold V3;rw[if_neg (by omega),h.2];rcases h.1 with h|h
 ·rw[if_pos h];rfl
 ·rw[if_neg (by omega),if_pos h];rfl
theorem mstep_bad {k:Nat} {t:List Nat} (h5:ops.getD i 0=5) (ho:s.op=t++[k]) (hb:decide (ops.getD (WR s.out k).1.toNat 0=4∧(WR s.out k).2.1 = -1)=false):V3 ops z i s=none:=by
 unfold V3;rw[if_neg (by omega),if_pos h5,ho,List.getLast?_concat];simp only;rw[if_neg (of_decide_eq_false hb)]
theorem mstep_else {k:Nat} {t:List Nat} (h5:ops.getD i 0=5) (ho:s.op=t++[k]) (hb:decide (ops.getD (WR s.out k).1.toNat 0=4∧(WR s.out k).2.1 = -1)=true):V3 ops z i s=some ⟨s.out.set k ((WR s.out k).1,(i:Int),(WR s.out k).2.2),s.op,s.deep⟩:=by
 unfold V3;rw[if_neg (by omega),if_pos h5];have e:s.op.getLast?=some k:=by rw[ho,List.getLast?_concat]
 rw[e];simp only;rw[if_pos (of_decide_eq_true hb)]
theorem mstep_end {k:Nat} {t:List Nat} (h11:ops.getD i 0=11) (ho:s.op=t++[k]):V3 ops z i s=some ⟨s.out.set k ((WR s.out k).1,(WR s.out k).2.1,(i:Int)),t,s.deep⟩:=by
 unfold V3;rw[if_neg (by omega),if_neg (by omega),if_pos h11,ho,List.getLast?_concat];simp
theorem mstep_other (h1:WF (ops.getD i 0)=false) (h2:ops.getD i 0≠5) (h3:ops.getD i 0≠11):V3 ops z i s=some s:=by
 unfold V3;rw[if_neg (of_decide_eq_false h1),if_neg h2,if_neg h3]
end
theorem mrun_succ {ops:List Int} {z:Int} {i:Nat} {s:MSt} (h:V1 ops z i=some s):V1 ops z (i+1)=V3 ops z i s:=by
 show(V1 ops z i).bind _=_;rw[h];rfl
theorem list_end {l:List Nat} (h:0<l.length):∃ t k,l=t++[k]∧l.length=t.length+1:=by
 rcases List.eq_nil_or_concat l with rfl|⟨t,x,rfl⟩
 ·simp at h
 ·exact⟨t,x,by simp,by simp⟩
theorem divides_any (w:World) (A:Option Addr) (m c:Nat) (ops:List Int) (hc:CodeAt w A m ops) (a:Nat) (ha:a<m) (hm:m≤1000000) (e z:Int) :
 Calls Tryz.prog 150 #[.slice A m c,.agg #[.int .i64 (a:Int),.int .i64 e,.int .i64 z]] w (Wh (decide (ops.getD a 0=4∧e = -1)) w):=by
 obtain⟨g,o,rfl,hg,hcell⟩:=hc (by omega);obtain⟨_,_,_,_,_,_,h0,_⟩:=hcell a ha;have k0:(w.alloc (.cells #[.int .i64 (a:Int),.int .i64 e,.int .i64 z] 220)).cell? ⟨g,o+a * 5,none⟩=some (.int .i64 (ops.getD a 0)):=by rw[World.cell?_alloc_lt _ _ _ (by exact hg)];exact h0
 clear hcell h0 hc;generalize ops.getD a 0=op at k0 ⊢;by_cases h4:op=4
 ·have d4:(op==4)=true:=by simpa using h4
  by_cases he:e = -1
  ·have de:(e == -1)=true:=by simpa using he
   rw[show decide (op=4∧e = -1)=true from decide_eq_true ⟨h4,he⟩];clear h4 he;exact ZcF
  ·have de:(e == -1)=false:=by simpa using he
   rw[show decide (op=4∧e = -1)=false from decide_eq_false (fun h=>he h.2)];clear h4 he;exact ZcF
 ·have d4:(op==4)=false:=by simpa using h4
  rw[show decide (op=4∧e = -1)=false from decide_eq_false (fun h=>h4 h.1)];clear h4;exact ZcF
end
section
open Go.RowKit
theorem Uc.code {w:World} {v:Value} {c:List Vl} (h:Uc (fun k=>k<w.heap.size) w v c):∃ A cap,v=.slice A c.length cap∧c.length≤cap∧CodeAt w A c.length (c.map Vl.op):=by
 obtain⟨A,cap,rfl,h1,_,_,h3⟩:=h;refine⟨A,cap,rfl,h1,fun hm=>?_⟩;obtain⟨g,o,rfl,hg,hc⟩:=h3 hm;refine⟨g,o,rfl,hg,fun j hj=>?_⟩;have hop:(c.map Vl.op).getD j 0=(c.getD j Un).op:=by
  rw[List.getD_eq_getElem?_getD,List.getD_eq_getElem?_getD,List.getElem?_map,List.getElem?_eq_getElem hj];rfl
 obtain⟨u0,k0,rfl⟩:=hc j 0 hj (by omega);obtain⟨u1,k1,rfl⟩:=hc j 1 hj (by omega);obtain⟨u2,k2,rfl⟩:=hc j 2 hj (by omega);obtain⟨u3,k3,rfl,_⟩:=hc j 3 hj (by omega);obtain⟨u4,k4,h4⟩:=hc j 4 hj (by omega);obtain⟨Al,cl,rfl,_⟩:=Wf.form h4.1;rw[hop];exact⟨_,_,_,Al,_,cl,k0,k1,k2,k3,k4⟩
theorem FunsK.at_ {w:World} {g o m c:Nat} {l:List Fnc} (h:FunsK (fun k=>k<w.heap.size) w (.slice (some ⟨g,o,none⟩) m c) l) (j:Nat) (hj:j<l.length) :
 ∃ (Al:Option Addr) (nl cl:Nat) (Ac:Option Addr) (cc:Nat),w.cell? ⟨g,o+j * 3,none⟩=some (.int .i64 (l.getD j WW).ty)∧w.cell? ⟨g,o+j * 3+1,none⟩=some (.slice Al nl cl)∧w.cell? ⟨g,o+j * 3+2,none⟩=some (.slice Ac (l.getD j WW).code.length cc)∧(l.getD j WW).code.length≤cc∧CodeAt w Ac (l.getD j WW).code.length ((l.getD j WW).code.map Vl.op):=by
 obtain⟨u0,k0,rfl⟩:=Wd.at_ h j 0 hj (by omega);obtain⟨u1,k1,h1⟩:=Wd.at_ h j 1 hj (by omega);obtain⟨u2,k2,h2⟩:=Wd.at_ h j 2 hj (by omega);obtain⟨Al,cl,rfl,_⟩:=Wf.form h1;obtain⟨Ac,cc,rfl,hcc,hcd⟩:=Uc.code h2;exact⟨Al,_,cl,Ac,cc,k0,k1,k2,hcc,hcd⟩
open Go.ChangeShapes Go.WideShapes
end
end Go.Proofs.YtmfpnfdinoofpaaGreatDoor
