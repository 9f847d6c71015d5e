/- A part of the proof. -/
import Derived.Deep.RegionHeld3
import Derived.Lib.UnsafeStr
import Derived.Test.YtgmgcadlkebokaaGreatDoorJ2
import Derived.StillTailTactics
namespace Go.Proofs.YtgmgcadlkebokaaGreatDoor
section
open Go.RowKit
theorem ZcP {P:Prop}(h:P:=by
 rcases Nat.lt_or_ge j xs.length with h2|h2
 ·omega
 ·rw[List.getElem?_eq_none h2]at hu;cases hu):P:=h
section
variable {P:Program} {ops:Array Oper} {Q:Exit→Act→World→Prop} {md:Region.Mode} {S:World→Prop} {X:Nat}
def Wf (P:Program) (md:Region.Mode) (ops:Array Oper) (Q:Exit→Act→World→Prop) (S:World→Prop) (X:Nat) (fuel:Nat):Array Bool→Act→World→Prop :=
 match fuel with
 | 0=>fun L a w=>Region.ready md ops L=[]∧Q .normal a w
 | n+1=>fun L a w=>(Region.ready md ops L=[]→Q .normal a w)∧∀ k ∈ Region.ready md ops L,wpOp P ops Q k (fun a' w'=>(k=X∨S w')∧Wf P md ops Q S X n (L.setIfInBounds k true) a' w') a w
theorem Wf.any:∀ (n:Nat) (L:Array Bool) (a:Act) (w:World),Wf P md ops Q S X n L a w→wpAny P md ops Q n L a w
 | 0,_,_,_,h=>h
 | n+1,_,_,_,h=>⟨h.1,fun k hk=>wpOp_mono (fun a' w' h'=>Wf.any n _ a' w' h'.2) (h.2 k hk)⟩
def waits (md:Region.Mode) (ops:Array Oper) (X i:Nat):Bool:=match ops[X]? with
 | some o=>o.after.any fun e=>Region.binds md e && e.on==i
 | none=>true
theorem waits_not {L:Array Bool} {X i:Nat} (h:waits md ops X i=true) (hl:L.getD i true=false):X ∉ Region.ready md ops L:=fun hX=>by
 obtain⟨_,o,ho,hall⟩:=mem_ready.1 hX;unfold waits at h;rw[ho]at h;simp only[Array.any_eq_true]at h;obtain⟨j,hj,he⟩:=h;simp only[Bool.and_eq_true,beq_iff_eq]at he;have h1:=hall _ (Array.getElem_mem hj) he.1;rw[he.2]at h1;rcases Nat.lt_or_ge i L.size with hlt|hge
 ·simp[hlt]at h1 hl;rw[h1]at hl;cases hl
 ·simp[Array.getElem?_eq_none hge]at h1 hl
theorem ready_un {L:Array Bool} {i:Nat} (hr:i ∈ Region.ready md ops L):L.getD i true=false:=(mem_ready.1 hr).1
theorem Wf.first {i:Nat} {oi:Oper} {v:Value} (hi:ops[i]?=some oi) (hns:Region.noSelect ops=true) (hQ:∀ c a w,Q (.panic c) (a.put oi.dst v) w→Q (.panic c) a w) (hX:waits md ops X i=true) :
 ∀ (n:Nat) (L:Array Bool) (a:Act) (w:World),(∀ k ok,ops[k]?=some ok→k≠i→L.getD k true=false→(∀ e ∈ ok.after,Region.binds md e=true→e.on≠i)→oi.apart ops ok=true) →
  i ∈ Region.ready md ops L→YieldsIf P ops S oi v a→S w→Wf P md ops Q S X n (L.setIfInBounds i true) (a.put oi.dst v) w→Wf P md ops Q S X (n+1) L a w:=by
 have hsel:=Region.noSelect_spec hns;intro n;induction n with
 | zero =>
  intro L a w _ hr hy hS H;refine⟨fun h=>absurd hr (by rw[h];simp),fun k hk=>?_⟩;by_cases e:k=i
  ·subst e;exact hy.wpOp hi hS ⟨.inr hS,H⟩
  ·exact absurd (ready_mono hk e) (by rw[H.1];simp)
 | succ n ih =>
  intro L a w hap hr hy hS H;refine⟨fun h=>absurd hr (by rw[h];simp),fun k hk=>?_⟩;by_cases e:k=i
  ·subst e;exact hy.wpOp hi hS ⟨.inr hS,H⟩
  ·obtain⟨hun,ok,hok,hall⟩:=mem_ready.1 hk;have hkX:k≠X:=fun h=>waits_not hX (ready_un hr) (h ▸ hk);have hno:∀ e ∈ ok.after,Region.binds md e=true→e.on≠i:=fun e he hb h=>by
    have h1:=hall e he hb;have h0:=ready_un hr;rw[h]at h1;rcases Nat.lt_or_ge i L.size with hlt|hge
    ·simp[hlt]at h0 h1;rw[h0]at h1;cases h1
    ·simp[Array.getElem?_eq_none hge]at h1
   refine wpOp_mono (fun a' w' h3=>?_) (wpOp_putIf hok (hap k ok hok e hun hno) (fun cs b=>hsel i oi cs b hi) (fun cs b=>hsel k ok cs b hok) hQ hy (H.2 k (ready_mono hk e)));have hSw:S w':=h3.2.1.resolve_left hkX;refine⟨.inr hSw,ih (L.setIfInBounds k true) a' w' (fun j oj hj hji hju hjn=>hap j oj hj hji ?_ hjn) (ready_mono hr (Ne.symm e)) h3.1 hSw ?_⟩
   ·by_cases hkj:k=j
    ·subst hkj;exact hun
    ·rwa [getD_set_ne true hkj]at hju
   ·rw[Array.setIfInBounds_comm _ _ e];exact h3.2.2
theorem Wf.take {i:Nat} {oi:Oper} {v:Value} {n:Nat} {L:Array Bool} {a:Act} {w:World} (hi:ops[i]?=some oi) (hs:Region.noSelect ops=true) (hf:Region.free md ops L i=true) (hr:(Region.ready md ops L).contains i=true) (hX:waits md ops X i=true)
 (hQ:∀ c a w,Q (.panic c) (a.put oi.dst v) w→Q (.panic c) a w) (hy:YieldsIf P ops S oi v a) (hS:S w) (h:Wf P md ops Q S X n (L.setIfInBounds i true) (a.put oi.dst v) w):Wf P md ops Q S X (n+1) L a w :=
 Wf.first hi hs hQ hX n L a w (Region.free_spec hi hf) (by simpa using hr) hy hS h
def Wp (P:Program) (md:Region.Mode) (ops:Array Oper) (Q:Exit→Act→World→Prop) (S:World→Prop) (X n:Nat) (L:Array Bool) (a:Act) (w:World) (i:Nat):Prop :=
 wpOp P ops Q i (fun a' w'=>(i=X∨S w')∧Wf P md ops Q S X n (L.setIfInBounds i true) a' w') a w
theorem Wf.turn {rs:List Nat} {n:Nat} {L:Array Bool} {a:Act} {w:World} (hr:Region.ready md ops L=rs) (hne:rs≠[]) (h:∀ i ∈ rs,Wp P md ops Q S X n L a w i):Wf P md ops Q S X (n+1) L a w :=
 ⟨fun h0=>absurd (hr ▸ h0) hne,hr ▸ h⟩
theorem Wp.mk {i n:Nat} {L:Array Bool} {a:Act} {w:World} {o:Oper} (ho:ops[i]?=some o)
 (h:∀ K:Act→World→Prop,Hid (∀ a w,(i=X∨S w)→Wf P md ops Q S X n (L.setIfInBounds i true) a w→K a w)→if Region.wanted o (yielded ops a.tmps)=true then Oper.wp P o a w K Q else K (a.put o.dst undef) w):Wp P md ops Q S X n L a w i :=
 wpOp_step ho fun K hK=>h K (hD fun a w hS hR=>hK a w ⟨hS,hR⟩)
theorem Wf.one {i n:Nat} {L:Array Bool} {a:Act} {w:World} (hr:Region.ready md ops L=[i]) (h:Wp P md ops Q S X n L a w i):Wf P md ops Q S X (n+1) L a w :=
 .turn hr (by simp) fun j hj=>by
  obtain rfl:j=i:=by simpa using hj
  exact h
theorem Wf.two {i j n:Nat} {L:Array Bool} {a:Act} {w:World} (hr:Region.ready md ops L=[i,j]) (h:Wp P md ops Q S X n L a w i) (h2:Wp P md ops Q S X n L a w j):Wf P md ops Q S X (n+1) L a w :=
 .turn hr (by simp) fun k hk=>by
  rcases(by simpa using hk:k=i∨k=j) with rfl|rfl
  ·exact h
  ·exact h2
theorem Wf.three {i j l n:Nat} {L:Array Bool} {a:Act} {w:World} (hr:Region.ready md ops L=[i,j,l]) (h:Wp P md ops Q S X n L a w i) (h2:Wp P md ops Q S X n L a w j) (h3:Wp P md ops Q S X n L a w l):Wf P md ops Q S X (n+1) L a w :=
 .turn hr (by simp) fun k hk=>by
  rcases(by simpa using hk:k=i∨k=j∨k=l) with rfl|rfl|rfl
  ·exact h
  ·exact h2
  ·exact h3
theorem Wf.done {L:Array Bool} {a:Act} {w:World} (hr:Region.ready md ops L=[]) (h:Q .normal a w):∀ n,Wf P md ops Q S X n L a w
 | 0=>⟨hr,h⟩
 | _+1=>⟨fun _=>h,by rw[hr];simp⟩
theorem Wf.start {id:Nat} {a:Act} {w:World} (hm:P.follows .mixedOrders=true) (h:Wf P .any ops Q S X ops.size (Array.replicate ops.size false) a w.drew):(Code.region id ops true).wp P Q a w :=
 wp_region_any hm (Wf.any _ _ _ _ h)
end
structure Ws where
 e:TypeId
 size:Nat
 v:Value
 n:Nat
 xs:List Value
 live:Bool
def Ws.apart (r s:Ws):Prop:=∀ g,r.v.ownBlock=some g→s.v.ownBlock≠some g
theorem Ws.apart.symm {r s:Ws} (h:r.apart s):s.apart r:=fun g hs hr=>h g hr hs
def Ws.in_ (r:Ws) (w:World):Prop :=
 if r.live=true then w.ownsRow 0 r.e r.size r.v r.n r.xs
 else ∃ g c:Nat,r.v=.slice (some ⟨g,0,none⟩) r.n c∧r.n≤c∧g<w.heap.size∧∀ j u,r.xs[j]?=some u→w.cell? ⟨g,j,none⟩=some u
theorem Ws.in_.keep {r:Ws} {w w':World} (h:r.in_ w) {K:Nat→Prop} (hk:We K w w') (hv:∀ g,r.v.ownBlock=some g→K g):r.in_ w':=by
 unfold Ws.in_ at h ⊢
 split
 ·rename_i hl
  rw[if_pos hl]at h;exact Wu h hk hv
 ·rename_i hl
  rw[if_neg hl]at h;obtain⟨g,c,h1,hn,h2,h3⟩:=h;exact⟨g,c,h1,hn,WK h2 hk.size,fun j u hu=>(hk.cell (p:=⟨g,j,none⟩) (hv g (by rw[h1];rfl))).trans (h3 j u hu)⟩
theorem Ws.in_.lt {r:Ws} {w:World} (h:r.in_ w) {g:Nat} (hg:r.v.ownBlock=some g):g<w.heap.size:=by
 unfold Ws.in_ at h
 split at h
 ·exact(h.lt g hg).2
 ·obtain⟨g',c,h1,_,h2,_⟩:=h;rw[h1]at hg;have e:some g'=some g:=hg;simp only[Option.some.injEq]at e;omega
theorem Ws.in_.own {r:Ws} {w:World} (h:r.in_ w) (hl:r.live=true):w.ownsRow 0 r.e r.size r.v r.n r.xs:=by
 unfold Ws.in_ at h
 rwa [if_pos hl]at h
theorem Ws.in_.mk {r:Ws} {w:World} (hl:r.live=true) (h:w.ownsRow 0 r.e r.size r.v r.n r.xs):r.in_ w:=by
 unfold Ws.in_
 rwa [if_pos hl]
structure Rows (w0 w:World) (l:List Ws):Prop where
 bl:Below w0.heap.size w0 w
 ow:∀ r ∈ l,r.in_ w
 nw:∀ r ∈ l,∀ g,r.v.ownBlock=some g→w0.heap.size≤g
 ap:l.Pairwise Ws.apart
theorem Rows.nil {w0 w:World} (h:Below w0.heap.size w0 w):Rows w0 w []:=⟨h,by simp,by simp,.nil⟩
theorem Rows.head {w0 w:World} {r:Ws} {l:List Ws} (h:Rows w0 w (r :: l)) (hl:r.live=true:=by rfl):w.ownsRow 0 r.e r.size r.v r.n r.xs:=(h.ow r (List.mem_cons_self ..)).own hl
theorem Rows.tail {w0 w:World} {r:Ws} {l:List Ws} (h:Rows w0 w (r :: l)):Rows w0 w l:=⟨h.bl,fun s hs=>h.ow s (List.mem_cons_of_mem _ hs),fun s hs=>h.nw s (List.mem_cons_of_mem _ hs),(List.pairwise_cons.1 h.ap).2⟩
theorem Rows.perm {w0 w:World} {l l':List Ws} (h:Rows w0 w l) (hp:l'.Perm l):Rows w0 w l' :=
 ⟨h.bl,fun r hr=>h.ow r (hp.mem_iff.1 hr),fun r hr=>h.nw r (hp.mem_iff.1 hr),(hp.pairwise_iff (fun hab=>Ws.apart.symm hab)).2 h.ap⟩
theorem Rows.swap {w0 w:World} {r s:Ws} {l:List Ws} (h:Rows w0 w (r :: s :: l)):Rows w0 w (s :: r :: l):=h.perm (List.Perm.swap ..)
theorem Rows.pull3 {w0 w:World} {r s t:Ws} {l:List Ws} (h:Rows w0 w (r :: s :: t :: l)):Rows w0 w (t :: r :: s :: l):=h.perm ((List.Perm.swap ..).trans (List.Perm.cons _ (List.Perm.swap ..)))
theorem Rows.front {w0 w:World} {r:Ws} {l:List Ws} (h:Rows w0 w (r :: l)):Rows w0 w [r] :=
 ⟨h.bl,fun s hs=>by rw[List.mem_singleton.1 hs];exact h.ow _ (List.mem_cons_self ..),fun s hs=>by rw[List.mem_singleton.1 hs];exact h.nw _ (List.mem_cons_self ..),List.pairwise_singleton _ _⟩
theorem Rows.below {w0 w w':World} {l:List Ws} (h:Rows w0 w l) (hb:Below w.heap.size w w'):Rows w0 w' l :=
 ⟨Wa h.bl hb,fun r hr=>(h.ow r hr).keep (We.below hb fun _ hk=>hk) fun _ hg=>(h.ow r hr).lt hg,h.nw,h.ap⟩
theorem Rows.lt {w0 w:World} {l:List Ws} (h:Rows w0 w l) {r:Ws} (hr:r ∈ l) {g:Nat} (hg:r.v.ownBlock=some g):g<w.heap.size:=(h.ow r hr).lt hg
theorem Rows.push {w0 w w':World} {l:List Ws} (h:Rows w0 w l) (hb:Below w.heap.size w w') {r:Ws} (ho:r.in_ w') (hn:∀ g,r.v.ownBlock=some g→w.heap.size≤g):Rows w0 w' (r :: l):=by
 have h2:=h.below hb;refine⟨h2.bl,fun s hs=>?_,fun s hs=>?_,List.pairwise_cons.2 ⟨fun s hs g hr hs2=>?_,h.ap⟩⟩
 ·rcases List.mem_cons.1 hs with rfl|hs
  ·exact ho
  ·exact h2.ow s hs
 ·rcases List.mem_cons.1 hs with rfl|hs
  ·exact fun g hg=>Nat.le_trans h.bl.size (hn g hg)
  ·exact h.nw s hs
 ·have h3:=h.lt hs hs2;have h4:=hn g hr;omega
theorem Rows.lit {w0 w:World} {l:List Ws} (h:Rows w0 w l) (e:TypeId) (size n:Nat) (cs:Array Value) (hl:cs.toList.length=n * size) (hn:n≤maxLen):Rows w0 (w.alloc (.cells cs e)) (⟨e,size,.slice (some ⟨w.heap.size,0,.none⟩) n n,n,cs.toList,true⟩ :: l) :=
 h.push (Wg (bR _ _) _) (Ws.in_.mk rfl (World.ownsRow_lit w cs n (nZ _) hn hl)) fun g hg=>by
  have e2:some w.heap.size=some g:=hg;simp only[Option.some.injEq]at e2;omega
theorem Rows.drewN {w0 w:World} {l:List Ws} (h:Rows w0 w l) (k:Nat):Rows w0 (w.drewN k) l:=h.below (Wn (bR _ _) k)
theorem Rows.grow {w0 w w':World} {r:Ws} {l:List Ws} (h:Rows w0 w (r :: l)) (hg:w.grownBy w' r.v.ownBlock) {v':Value} {n':Nat} {xs':List Value} (ho:w'.ownsRow 0 r.e r.size v' n' xs') (hat:v'.ownBlock=r.v.ownBlock∨v'.ownBlock=some w.heap.size):Rows w0 w' (⟨r.e,r.size,v',n',xs',true⟩ :: l):=by
 have ha:=List.pairwise_cons.1 h.ap;have hs:=h.bl.size;have hbl:=h.bl.grown hg h.bl.size (h.nw r (List.mem_cons_self ..));refine⟨hbl,fun s hs=>?_,fun s hs=>?_,List.pairwise_cons.2 ⟨fun s hs g hr hs2=>?_,ha.2⟩⟩
 ·rcases List.mem_cons.1 hs with rfl|hs
  ·exact Ws.in_.mk rfl ho
  ·exact(h.ow s (List.mem_cons_of_mem _ hs)).keep (We.grown (K:=fun k=>k<w.heap.size∧r.v.ownBlock≠some k) hg (fun k hk=>hk.1) fun k hk hn=>hn.2 hk) fun g hgs=>⟨h.lt (List.mem_cons_of_mem _ hs) hgs,fun hr=>ha.1 s hs g hr hgs⟩
 ·rcases List.mem_cons.1 hs with rfl|hs
  ·intro g hgs;rcases hat with k|k
   ·exact h.nw r (List.mem_cons_self ..) g (k ▸ hgs)
   ·have:=k.symm.trans hgs;simp only[Option.some.injEq]at this;omega
  ·exact h.nw s (List.mem_cons_of_mem _ hs)
 ·rcases hat with k|k
  ·exact ha.1 s hs g (k ▸ hr) hs2
  ·have h3:=h.lt (List.mem_cons_of_mem _ hs) hs2;have:=k.symm.trans hr;simp only[Option.some.injEq]at this;omega
theorem Rows.mark {w0 w:World} {e:TypeId} {y n:Nat} {xs:List Value} {l:List Ws} (h:Rows w0 w (⟨e,1,.slice (some ⟨y,0,.none⟩) n n,n,xs,true⟩ :: l)):Rows w0 (w.freeze ⟨y,n,.none⟩ 1) (⟨e,1,.slice (some ⟨y,0,.none⟩) n n,n,xs,false⟩ :: l):=by
 have ha:=List.pairwise_cons.1 h.ap;have hy:w0.heap.size≤y:=h.nw _ (List.mem_cons_self ..) y rfl;have hlt:y<w.heap.size:=h.lt (List.mem_cons_self ..) rfl;have hbl:Below w0.heap.size w0 (w.freeze ⟨y,n,.none⟩ 1):=Lib.below_freeze h.bl (p:=⟨y,n,.none⟩) hy 1;have hkp:We (fun k=>k<w.heap.size∧k≠y) w (w.freeze ⟨y,n,.none⟩ 1):=by
  have hf:=Lib.below_freeze (bR 0 w) (p:=⟨y,n,.none⟩) (nZ _) 1;refine⟨hf.os,hf.tape,hf.output,hf.size,fun k hk=>?_⟩;have hne:¬ y=k:=fun e=>hk.2 e.symm;simp[World.freeze,Array.getElem?_modify,hne]
 refine⟨hbl,fun s hs=>?_,fun s hs=>?_,List.pairwise_cons.2 ⟨fun s hs g hr hs2=>ha.1 s hs g hr hs2,ha.2⟩⟩
 ·rcases List.mem_cons.1 hs with rfl|hs
  ·have ho:=h.head;unfold Ws.in_;rw[if_neg (by simp)];refine⟨y,n,rfl,nR _,WK hlt hkp.size,fun j u hu=>?_⟩;have hj:j<n * 1:=by
    have h1:xs.length=n * 1:=ho.1;exact ZcP
   have hc:=ho.cellAt j hj;rw[hu]at hc;rcases ho.2 with ⟨hv,_⟩|⟨g',cap,cur,hv,_,hb,_⟩
   ·cases hv
   ·simp only[vI,Option.some.injEq,Addr.mk.injEq]at hv;obtain⟨⟨rfl,_⟩,_⟩:=hv;simp only[World.cell?,hb]at hc;have hfz:(w.freeze ⟨y,n,.none⟩ 1).heap[y]?=some (.cells cur e (n,n+1)):=by
     simp[World.freeze,Array.getElem?_modify,hb]
    simp only[World.cell?,hfz];simpa using hc
  ·exact(h.ow s (List.mem_cons_of_mem _ hs)).keep hkp fun g hgs=>⟨h.lt (List.mem_cons_of_mem _ hs) hgs,fun e=>ha.1 s hs y rfl (e ▸ hgs)⟩
 ·rcases List.mem_cons.1 hs with rfl|hs
  ·intro g hg;exact h.nw _ (List.mem_cons_self ..) g hg
  ·exact h.nw s (List.mem_cons_of_mem _ hs)
theorem Wq {w:World} {base:Nat} {e:TypeId} {size:Nat} {v:Value} {n:Nat} {xs:List Value} (h:w.ownsRow base e size v n xs):Vm w v n xs:=by
 have h1:=h.1;rcases h.2 with ⟨rfl,rfl⟩|⟨g,cap,cur,rfl,_⟩
 ·exact .inl ⟨rfl,rfl,List.eq_nil_of_length_eq_zero (by simpa using h1)⟩
 ·refine .inr ⟨_,cap,rfl,fun j u hu=>?_⟩;have hj:j<n * size:=by
   exact ZcP
  rw[add_lit0,h.cellAt j hj,hu]
end
section
open Go.RowKit
section
variable {P:Program} {md:Region.Mode} {ops:Array Oper} {Q:Exit→Act→World→Prop} {S:World→Prop} {X:Nat}
theorem Wf.tk (i d:Nat) {o1:Op} {o2:TypeId} {o3:String} {o4:Array Edge} {o5:Option (Nat×Bool)} {n:Nat} {v:Value} {L l2:Array Bool} {a a2:Act} {w:World} (hi:ops[i]?=some ⟨some d,o1,o2,o3,o4,o5⟩) (hS:S w)
 (h:Wf P md ops Q S X n l2 a2 w) (hw:Region.wanted ⟨some d,o1,o2,o3,o4,o5⟩ (yielded ops a.tmps)=true:=by rfl) (hy:∀ w',S w'→(execOp a.eval ⟨some d,o1,o2,o3,o4,o5⟩).run P w'=.ok (.value v) w':=by intro w' hSw;go_simp;try with_reducible rfl)
 (hl:L.setIfInBounds i true=l2:=by simp only[List.setIfInBounds_toArray,List.set] <;> rfl) (ha:a.put (some d) v=a2:=by simp only[Act.put,List.setIfInBounds_toArray,List.set] <;> rfl)
 (hs:Region.noSelect ops=true:=by kernel_rfl) (hf:Region.free md ops L i=true:=by kernel_rfl) (hr:(Region.ready md ops L).contains i=true:=by kernel_rfl) (hX:waits md ops X i=true:=by kernel_rfl)
 (hQ:∀ c a w,Q (.panic c) (a.put (some d) v) w→Q (.panic c) a w:=by exact fun _ _ _ h=>h):Wf P md ops Q S X (n+1) L a w:=Wf.take hi hs hf hr hX hQ (.inl ⟨hw,hy⟩) hS (by rw[hl,ha];exact h)
theorem Wf.om (i d:Nat) {o1:Op} {o2:TypeId} {o3:String} {o4:Array Edge} {o5:Option (Nat×Bool)} {n:Nat} {L:Array Bool} {a:Act} {w:World} (ho:ops[i]?=some ⟨some d,o1,o2,o3,o4,o5⟩)
 (h:∀ K:Act→World→Prop,Hid (∀ a w,(i=X∨S w)→Wf P md ops Q S X n (L.setIfInBounds i true) a w→K a w)→if Region.wanted ⟨some d,o1,o2,o3,o4,o5⟩ (yielded ops a.tmps)=true then Oper.wp P ⟨some d,o1,o2,o3,o4,o5⟩ a w K Q else K (a.put (some d) undef) w)
 (hr:Region.ready md ops L=[i]:=by kernel_rfl):Wf P md ops Q S X (n+1) L a w:=.one hr (.mk ho h)
theorem Wf.on (i:Nat) {o1:Op} {o2:TypeId} {o3:String} {o4:Array Edge} {o5:Option (Nat×Bool)} {n:Nat} {L:Array Bool} {a:Act} {w:World} (ho:ops[i]?=some ⟨none,o1,o2,o3,o4,o5⟩)
 (h:∀ K:Act→World→Prop,Hid (∀ a w,(i=X∨S w)→Wf P md ops Q S X n (L.setIfInBounds i true) a w→K a w)→if Region.wanted ⟨none,o1,o2,o3,o4,o5⟩ (yielded ops a.tmps)=true then Oper.wp P ⟨none,o1,o2,o3,o4,o5⟩ a w K Q else K (a.put none undef) w)
 (hr:Region.ready md ops L=[i]:=by kernel_rfl):Wf P md ops Q S X (n+1) L a w:=.one hr (.mk ho h)
theorem Wp.m (d:Nat) {o1:Op} {o2:TypeId} {o3:String} {o4:Array Edge} {o5:Option (Nat×Bool)} {i n:Nat} {L:Array Bool} {a:Act} {w:World} (ho:ops[i]?=some ⟨some d,o1,o2,o3,o4,o5⟩)
 (h:∀ K:Act→World→Prop,Hid (∀ a w,(i=X∨S w)→Wf P md ops Q S X n (L.setIfInBounds i true) a w→K a w)→if Region.wanted ⟨some d,o1,o2,o3,o4,o5⟩ (yielded ops a.tmps)=true then Oper.wp P ⟨some d,o1,o2,o3,o4,o5⟩ a w K Q else K (a.put (some d) undef) w):Wp P md ops Q S X n L a w i:=.mk ho h
theorem Wp.n {o1:Op} {o2:TypeId} {o3:String} {o4:Array Edge} {o5:Option (Nat×Bool)} {i n:Nat} {L:Array Bool} {a:Act} {w:World} (ho:ops[i]?=some ⟨none,o1,o2,o3,o4,o5⟩)
 (h:∀ K:Act→World→Prop,Hid (∀ a w,(i=X∨S w)→Wf P md ops Q S X n (L.setIfInBounds i true) a w→K a w)→if Region.wanted ⟨none,o1,o2,o3,o4,o5⟩ (yielded ops a.tmps)=true then Oper.wp P ⟨none,o1,o2,o3,o4,o5⟩ a w K Q else K (a.put none undef) w):Wp P md ops Q S X n L a w i:=.mk ho h
end
end
section
open Go.RowKit
def WS {α:Type} (cf:α→Nat→Value→Prop) (size:Nat) (bnd:α→Prop) (us:List Value) (n:Nat):Prop :=
 us.length=n * size∧∀ j,j<n→∃ x,bnd x∧∀ i,i<size→∃ u,us[j * size+i]?=some u∧cf x i u
section
variable {α:Type} {cf cf':α→Nat→Value→Prop} {size n m:Nat} {bnd bnd':α→Prop} {us vs:List Value}
theorem WS.nil (cf:α→Nat→Value→Prop) (size:Nat) (bnd:α→Prop):WS cf size bnd [] 0:=⟨by simp,fun _ h=>absurd h (Nat.not_lt_zero _)⟩
theorem WS.mono (h:WS cf size bnd us n) (hc:∀ x i u,cf x i u→cf' x i u) (hb:∀ x,bnd x→bnd' x):WS cf' size bnd' us n :=
 ⟨h.1,fun j hj=>by
  obtain⟨x,h1,h2⟩:=h.2 j hj;exact⟨x,hb x h1,fun i hi=>by obtain⟨u,h3,h4⟩:=h2 i hi;exact⟨u,h3,hc x i u h4⟩⟩⟩
theorem lt_rows {j i n size:Nat} (hj:j<n) (hi:i<size):j * size+i<n * size:=by
 exact Zci
theorem WS.append (h:WS cf size bnd us n) (k:WS cf size bnd vs m):WS cf size bnd (us++vs) (n+m):=by
 refine⟨by rw[List.length_append,h.1,k.1,Nat.add_mul],fun j hj=>?_⟩;rcases Nat.lt_or_ge j n with hlt|hge
 ·obtain⟨x,hb,hx⟩:=h.2 j hlt;refine⟨x,hb,fun i hi=>?_⟩;obtain⟨u,h1,h2⟩:=hx i hi;exact⟨u,by rw[List.getElem?_append_left (by rw[h.1];exact lt_rows hlt hi)];exact h1,h2⟩
 ·obtain⟨x,hb,hx⟩:=k.2 (j - n) (by omega);refine⟨x,hb,fun i hi=>?_⟩;obtain⟨u,h1,h2⟩:=hx i hi;have e:j * size=(j - n) * size+n * size:=by rw[← Nat.add_mul];congr 1;omega
  exact⟨u,by rw[List.getElem?_append_right (by rw[h.1];omega),h.1,show j * size+i - n * size=(j - n) * size+i by omega];exact h1,h2⟩
theorem WS.one (x:α) (hl:us.length=size) (hb:bnd x) (h:∀ i,i<size→∃ u,us[i]?=some u∧cf x i u):WS cf size bnd us 1 :=
 ⟨by rw[hl,Nat.one_mul],fun j hj=>⟨x,hb,fun i hi=>by
  obtain rfl:j=0:=by omega
  rw[Nat.zero_mul,Nat.zero_add];exact h i hi⟩⟩
theorem row_ne {j k i i0 size:Nat} (hi:i<size) (hi0:i0<size) (h:j≠k):k * size+i0≠j * size+i:=by
 rcases Nat.lt_or_gt_of_ne h with h1|h1
 ·have:(j+1) * size≤k * size:=Nat.mul_le_mul_right size h1;rw[Nat.succ_mul]at this;omega
 ·have:(k+1) * size≤j * size:=Nat.mul_le_mul_right size h1;rw[Nat.succ_mul]at this;omega
theorem WS.set (h:WS cf size bnd us n) (k i0:Nat) (hk:k<n) (hi0:i0<size) (u0:Value) (f:α→α) (hb:∀ x,bnd x→bnd' x) (hf:∀ x,bnd x→bnd' (f x)∧cf (f x) i0 u0∧∀ i u,i<size→i≠i0→cf x i u→cf (f x) i u):WS cf size bnd' (us.set (k * size+i0) u0) n:=by
 refine⟨by rw[List.length_set];exact h.1,fun j hj=>?_⟩;obtain⟨x,hbx,hx⟩:=h.2 j hj;by_cases hjk:j=k
 ·subst hjk;refine⟨f x,(hf x hbx).1,fun i hi=>?_⟩;by_cases hii:i=i0
  ·subst hii;exact⟨u0,by rw[List.getElem?_set,if_pos rfl,if_pos (by rw[h.1];exact lt_rows hj hi)],(hf x hbx).2.1⟩
  ·obtain⟨u,h1,h2⟩:=hx i hi;exact⟨u,by rw[List.getElem?_set,if_neg (by omega)];exact h1,(hf x hbx).2.2 i u hi hii h2⟩
 ·refine⟨x,hb x hbx,fun i hi=>?_⟩;obtain⟨u,h1,h2⟩:=hx i hi;exact⟨u,by rw[List.getElem?_set,if_neg (row_ne hi hi0 hjk)];exact h1,h2⟩
theorem WS.rows {K:Nat→Prop} {w:World} {base:Nat} {e:TypeId} {v:Value} (d:α) (h:WS cf size bnd us n) (ho:w.ownsRow base e size v n us) (hK:∀ g,v.ownBlock=some g→K g) :
 ∃ l:List α,l.length=n∧(∀ x ∈ l,bnd x)∧Wb K w v l.length size fun j i u=>cf (l.getD j d) i u:=by
 have hc:∀ m,m≤n→∃ c:List α,c.length=m∧(∀ x ∈ c,bnd x)∧∀ j,j<m→∀ i,i<size→∃ u,us[j * size+i]?=some u∧cf (c.getD j d) i u:=by
  intro m;induction m with
  | zero=>intro _;exact⟨[],rfl,by simp,fun j hj=>absurd hj (Nat.not_lt_zero _)⟩
  | succ m ih =>
   intro hm;obtain⟨c,h1,h2,h3⟩:=ih (by omega);obtain⟨x,hb,hx⟩:=h.2 m (by omega);refine⟨c++[x],by simp[h1],fun y hy=>?_,fun j hj i hi=>?_⟩
   ·rcases List.mem_append.1 hy with hy|hy
    ·exact h2 y hy
    ·rw[List.mem_singleton.1 hy];exact hb
   ·by_cases e:j=m
    ·exact ZcN
    ·rw[List.getD_eq_getElem?_getD,List.getElem?_append_left (by omega),← List.getD_eq_getElem?_getD];exact h3 j (by omega) i hi
 obtain⟨c,h1,h2,h3⟩:=hc n (nR _);refine⟨c,h1,h2,?_⟩;rw[h1];exact Ue ho _ hK fun j i hj hi=>h3 j hj i hi
theorem getD_inl {l:List α} {j:Nat} (d:α) (h:j<l.length):l.getD j d ∈ l:=by
 rw[List.getD_eq_getElem?_getD,List.getElem?_eq_getElem h];exact List.getElem_mem h
theorem Wb.goodR {K:Nat→Prop} {w:World} {v:Value} {l:List α} {d:α} (h:Wb K w v l.length size fun j i u=>cf (l.getD j d) i u) (hb:∀ x ∈ l,bnd x) :
 ∃ us,Vm w v l.length us∧WS cf size bnd us l.length:=by
 obtain⟨us,h1,h2,h3⟩:=Wb.news h;exact⟨us,h2,h1,fun j hj=>⟨_,hb _ (getD_inl d hj),fun i hi=>h3 j i hj hi⟩⟩
theorem WS.ones (h:WS cf size bnd us n) (ho:∀ x i u,i<size→cf x i u→u.oneCell'=true):∀ u ∈ us,u.oneCell'=true:=by
 intro u hu;obtain⟨k,hk,rfl⟩:=List.mem_iff_getElem.1 hu;have h1:=h.1;rcases Nat.eq_zero_or_pos size with h0|h0
 ·rw[h1,h0]at hk;omega
 obtain⟨x,_,hx⟩:=h.2 (k / size) (Nat.div_lt_of_lt_mul (by rw[Nat.mul_comm];omega));obtain⟨u',k1,k2⟩:=hx (k % size) (Nat.mod_lt _ h0);rw[show k / size * size+k % size=k by rw[Nat.mul_comm];exact Nat.div_add_mod k size,List.getElem?_eq_getElem hk]at k1;obtain rfl:=Option.some.inj k1;exact ho x _ _ (Nat.mod_lt _ h0) k2
end
theorem Vm.below {w0 w:World} {v:Value} {m:Nat} {us:List Value} (h:Vm w0 v m us) (hb:Below w0.heap.size w0 w):Vm w v m us :=
 h.keep fun _ _ _ _ _ _ hc=>(hb.cell (wL w0 _ hc)).trans hc
def Ve (K:Nat→Prop) (w:World) (x:List Int×List Int) (i:Nat) (u:Value):Prop:=Wh K w u (if i=0 then x.1 else x.2)
theorem ints_one {K:Nat→Prop} {w:World} {u:Value} {l:List Int} (h:Wh K w u l):u.oneCell'=true:=by obtain⟨A,c,rfl,_⟩:=h;rfl
theorem cells_one {K:Nat→Prop} {w:World} {u:Value} {n size:Nat} {f:Nat→Nat→Value→Prop} (h:Wb K w u n size f):u.oneCell'=true:=by obtain⟨A,c,rfl,_⟩:=h;rfl
theorem bytes_oneK {K:Nat→Prop} {w:World} {u:Value} {l:List Nat} (h:WD K w u l):u.oneCell'=true:=by obtain⟨A,c,rfl,_⟩:=h;rfl
theorem typ_one {K:Nat→Prop} {w:World} (x:List Int×List Int) (i:Nat) (u:Value) (_:i<2) (h:Ve K w x i u):u.oneCell'=true:=ints_one h
theorem imp_one (x:ByteArray×ByteArray×Int) (i:Nat) (u:Value) (_:i<3) (h:UR x i u):u.oneCell'=true:=by
 match i,h with
 | 0,h=>rw[show u=_ from h];rfl
 | 1,h=>rw[show u=_ from h];rfl
 | _+2,h=>rw[show u=_ from h];rfl
theorem fnc_one {K:Nat→Prop} {w:World} (x:Fnc) (i:Nat) (u:Value) (_:i<3) (h:WP K w x i u):u.oneCell'=true:=by
 match i,h with
 | 0,h=>rw[show u=_ from h];rfl
 | 1,h=>exact ints_one h
 | _+2,h=>exact cells_one h
theorem mem_one (x:Int×Int) (i:Nat) (u:Value) (_:i<2) (h:memCell x i u):u.oneCell'=true:=by
 match i,h with
 | 0,h=>rw[show u=_ from h];rfl
 | _+1,h=>rw[show u=_ from h];rfl
theorem glob_one (x:Int×Bool×Int) (i:Nat) (u:Value) (_:i<3) (h:Ua x i u):u.oneCell'=true:=by
 match i,h with
 | 0,h=>rw[show u=_ from h];rfl
 | 1,h=>rw[show u=_ from h];rfl
 | _+2,h=>rw[show u=_ from h.1];rfl
theorem exp_one (x:ByteArray×Int×Int) (i:Nat) (u:Value) (_:i<3) (h:expCell x i u):u.oneCell'=true:=by
 match i,h with
 | 0,h=>rw[show u=_ from h];rfl
 | 1,h=>rw[show u=_ from h];rfl
 | _+2,h=>rw[show u=_ from h];rfl
theorem dat_one {K:Nat→Prop} {w:World} (x:Dat) (i:Nat) (u:Value) (_:i<4) (h:Vi K w x i u):u.oneCell'=true:=by
 match i,h with
 | 0,h=>rw[show u=_ from h];rfl
 | 1,h=>rw[show u=_ from h];rfl
 | 2,h=>rw[show u=_ from h];rfl
 | _+3,h=>exact bytes_oneK h
theorem cus_one {K:Nat→Prop} {w:World} (x:ByteArray×List Nat) (i:Nat) (u:Value) (_:i<2) (h:Vk K w x i u):u.oneCell'=true:=by
 match i,h with
 | 0,h=>rw[show u=_ from h];rfl
 | _+1,h=>exact bytes_oneK h
def bndT (t:List Int×List Int):Prop:=t.1.length≤1000∧t.2.length≤1000
def bndF (k:Nat) (f:Fnc):Prop:=f.loc.length≤1000+k∧f.code.length≤900000+k
def bndD (d:Dat):Prop:=d.bytes.length≤1000
def bndC (c:ByteArray×List Nat):Prop:=c.2.length≤1000
structure Sz (k:Nat) (m:Vz):Prop where
 types:m.types.length≤1000+k∧∀ t ∈ m.types,bndT t
 imps:m.imps.length≤1000+k
 funs:m.funs.length≤1000+k∧∀ f ∈ m.funs,bndF k f
 mems:m.mems.length≤1000+k
 globs:m.globs.length≤1000+k
 exps:m.exps.length≤1000+k
 datas:m.datas.length≤1000+k∧∀ d ∈ m.datas,bndD d
 cus:m.cus.length≤1000+k∧∀ c ∈ m.cus,bndC c
 fp:0<m.funs.length
theorem bndF.le {k k':Nat} {f:Fnc} (h:bndF k f) (hk:k≤k'):bndF k' f:=⟨by have:=h.1;omega,by have:=h.2;omega⟩
theorem Sz.le {k k':Nat} {m:Vz} (h:Sz k m) (hk:k≤k'):Sz k' m :=
 ⟨⟨by have:=h.types.1;omega,h.types.2⟩,by have:=h.imps;omega,⟨by have:=h.funs.1;omega,fun f hf=>(h.funs.2 f hf).le hk⟩,by have:=h.mems;omega,by have:=h.globs;omega,by have:=h.exps;omega,⟨by have:=h.datas.1;omega,h.datas.2⟩,⟨by have:=h.cus.1;omega,h.cus.2⟩,h.fp⟩
theorem WL.forms {K:Nat→Prop} {w:World} {v:Mv} {m:Vz} (h:WL K w v m) :
 ∃ (A0:Option Addr) (c0:Nat) (A1:Option Addr) (c1:Nat) (A2:Option Addr) (c2:Nat) (A3:Option Addr) (c3:Nat) (A4:Option Addr) (c4:Nat) (A5:Option Addr) (c5:Nat) (A6:Option Addr) (c6:Nat) (A7:Option Addr) (c7:Nat),
  v=⟨.slice A0 m.types.length c0,.slice A1 m.imps.length c1,.slice A2 m.funs.length c2,.slice A3 m.mems.length c3,.slice A4 m.globs.length c4,.slice A5 m.exps.length c5,.slice A6 m.datas.length c6,.slice A7 m.cus.length c7⟩:=by
 obtain⟨v0,v1,v2,v3,v4,v5,v6,v7⟩:=v;obtain⟨A0,c0,h0,_⟩:=Wb.form h.types;obtain⟨A1,c1,h1,_⟩:=Wb.form h.imps;obtain⟨A2,c2,h2,_⟩:=Wb.form h.funs;obtain⟨A3,c3,h3,_⟩:=Wb.form h.mems;obtain⟨A4,c4,h4,_⟩:=Wb.form h.globs;obtain⟨A5,c5,h5,_⟩:=Wb.form h.exps;obtain⟨A6,c6,h6,_⟩:=Wb.form h.datas;obtain⟨A7,c7,h7,_⟩:=Wb.form h.cus;simp only at h0 h1 h2 h3 h4 h5 h6 h7;subst h0 h1 h2 h3 h4 h5 h6 h7;exact⟨A0,c0,A1,c1,A2,c2,A3,c3,A4,c4,A5,c5,A6,c6,A7,c7,rfl⟩
end
section
open Go.RowKit
def UptoK (h:Nat) (w:World) (e:Ending) (w':World):Prop:=(∃ q:Nat,q≤h∧e=.returned (.int .i64 (q:Int)))∧w=w'
theorem uptoK_mk {v:Int} {h:Nat} (h0:0≤v) (h1:v≤(h:Int)):∃ q:Nat,q≤h∧Ending.returned (.int .i64 v)=.returned (.int .i64 (q:Int)) :=
 ⟨v.toNat,by omega,by rw[Int.toNat_of_nonneg h0]⟩
theorem within0_K (n:Int) (h:Nat) (hh:h≤1048576) (w:World) :
 Calls Tryz.prog 60 #[.int .i64 n,.int .i64 0,.int .i64 (h:Int)] w (UptoK h w):=by
 have hz:((h:Int) - 0+1==0)=false:=by simp;omega
 have hz2:((h:Int)+1==0)=false:=by simp;omega
 have h0:(0:Int)<(h:Int)+1:=by omega
 have t0:=Int.lt_tmod_of_pos n h0;have t1:=Int.tmod_lt_of_pos n h0;have e0:=Int.emod_nonneg n (Int.ne_of_gt h0);have e1:=Int.emod_lt_of_pos n h0;go_enter Tryz.func60,Tryz.ntmps60;go_wp2
 all_goals go_ret
 all_goals exact⟨uptoK_mk (by omega) (by omega),rfl⟩
def PlaceK (k:Nat) (w:World) (e:Ending) (w':World):Prop:=(∃ q:Nat,q<k∧e=.returned (.int .i64 (q:Int)))∧w=w'
theorem at_any (n:Int) (k:Nat) (hk:0<k) (hh:k≤1000000) (w:World) :
 Calls Tryz.prog 64 #[.int .i64 n,.int .i64 (k:Int)] w (PlaceK k w):=by
 obtain⟨h,rfl⟩:∃ h,k=h+1:=⟨k - 1,by omega⟩;have e1:IntKind.i64.wrap (((h+1:Nat):Int) - 1)=(h:Int):=by rw[show((h+1:Nat):Int) - 1=(h:Int) by omega];exact IntWalk.i64_in _ (by omega)
 obtain⟨kv,hkv⟩:∃ kv:Int,kv=((h+1:Nat):Int):=⟨_,rfl⟩;rw[← hkv]at e1 ⊢;clear hkv;go_enter Tryz.func64,Tryz.ntmps64;go_wp2_with fail
 go_at_call 60;refine(within0_K n h (by omega) w).mono ?_;rintro e w' ⟨⟨q,hq,rfl⟩,rfl⟩;go_wp2;go_ret;exact⟨⟨q,by omega,rfl⟩,rfl⟩
end
section
open Go.RowKit
set_option maxHeartbeats 2000000
set_option maxRecDepth 100000
theorem Z6 {P:Prop}(h:P:=by
 refine hK.out _ _ (.inr hR.bl) ?_;clear hK K;try simp only[Act.put,sA,List.set]
 refine Wf.om 13 4 rfl fun K hK=>?_;go_simp;refine hK.out _ _ (.inl rfl) ?_;clear hK K;refine Wf.done (by kernel_rfl) ?_ _;have HP:=hD ((rows_made (Rows.front hR) HB5.out HGS.out).post (n:=n) HKL.out (by omega));clear hR;go_wp2
 all_goals go_ret
 all_goals exact HP.out):P:=h
structure Trn where
 what:Int
 pos:Int
 to_:Int
 n:Int
 raw:Ins
def Trn.val (t:Trn) (Lv:Value):Value:=.agg #[.int .i64 t.what,.int .i64 t.pos,.int .i64 t.to_,.int .u64 t.n,.int .i64 t.raw.op,.int .i64 t.raw.a,.int .i64 t.raw.b,.int .u64 t.raw.n,Lv]
def lt (w:World) (k:Nat):Prop:=k<w.heap.size
def CodePost (K:Nat→Prop) (n:Nat) (w:World) (e:Ending) (w':World):Prop:=∃ v c,e=.returned v∧c.length≤n+1∧WO (fun k=>K k∨w.heap.size≤k∧k<w'.heap.size) w' v c∧Below w.heap.size w w'
structure Made (K:Nat→Prop) (w w':World) (v:Value) (n:Nat) (us:List Value):Prop where
 ow:w'.ownsRow 0 26 5 v n us
 gd:VH K w us n
 nw:∀ g,v.ownBlock=some g→w.heap.size≤g
 bl:Below w.heap.size w w'
theorem Made.lit {K:Nat→Prop} {w w':World} (hb:Below w.heap.size w w'):Made K w (w'.alloc (.cells #[] 26)) (.slice (some ⟨w'.heap.size,0,none⟩) 0 0) 0 [] :=
 ⟨World.ownsRow_made w' #[] 0 (nZ _) (nZ _) rfl,VH.nil _ _,fun g hg=>by have e:some w'.heap.size=some g:=hg;simp only[Option.some.injEq]at e;have:=hb.size;omega,Wg hb _⟩
theorem Made.lit1 {K:Nat→Prop} {w w':World} (hb:Below w.heap.size w w') (x:Ins) {Lv:Value} (h:Wh K w Lv x.l) (hn:V7 x.n) (hf:fitN x.l.length):Made K w (w'.alloc (.cells #[.int .i64 x.op,.int .i64 x.a,.int .i64 x.b,.int .u64 x.n,Lv] 26)) (.slice (some ⟨w'.heap.size,0,none⟩) 1 1) 1 [.int .i64 x.op,.int .i64 x.a,.int .i64 x.b,.int .u64 x.n,Lv] :=
 ⟨World.ownsRow_lit w' #[.int .i64 x.op,.int .i64 x.a,.int .i64 x.b,.int .u64 x.n,Lv] 1 (nZ _) (by decide) rfl,insCell_one x h hn hf,fun g hg=>by have e:some w'.heap.size=some g:=hg;simp only[Option.some.injEq]at e;have:=hb.size;omega,Wg hb _⟩
theorem Made.below {K:Nat→Prop} {w w' w'':World} {v:Value} {n:Nat} {us:List Value} (h:Made K w w' v n us) (hb:Below w'.heap.size w' w''):Made K w w'' v n us :=
 ⟨owns_below h.ow hb,h.gd,h.nw,Wa h.bl hb⟩
theorem Made.push {K:Nat→Prop} {w w1 w2:World} {v v2:Value} {n m n2:Nat} {us vs xs:List Value} (h:Made K w w1 v n us) (hg:w1.grownBy w2 v.ownBlock) (ho:w2.ownsRow 0 26 5 v2 n2 xs) (hn:n2=n+m) (hx:xs=us++vs) (gv:VH K w vs m) (hat:v2.ownBlock=v.ownBlock∨v2.ownBlock=some w1.heap.size):Made K w w2 v2 (n+m) (us++vs):=by
 subst hn hx;refine⟨ho,h.gd.append gv,fun g e=>?_,h.bl.grown hg h.bl.size h.nw⟩;rcases hat with k|k
 ·exact h.nw g (k ▸ e)
 ·have:=k.symm.trans e;simp only[Option.some.injEq]at this;have:=h.bl.size;omega
theorem Made.take {K:Nat→Prop} {w w':World} {g n c:Nat} {us:List Value} (h:Made K w w' (.slice (some ⟨g,0,none⟩) n c) n us) (k:Nat) (hk:k≤n):Made K w w' (.slice (some ⟨g,0,none⟩) k c) k (us.take (k * 5)) :=
 ⟨owns_cut h.ow hk,h.gd.take k hk,h.nw,h.bl⟩
theorem Made.set {K:Nat→Prop} {w w':World} {g n c:Nat} {us:List Value} (h:Made K w w' (.slice (some ⟨g,0,none⟩) n c) n us) (k i0:Nat) (hk:k<n) (hi0:i0<5) (u0:Value) (f:Ins→Ins) (hf:∀ x,WN K w (f x) i0 u0∧∀ i u,i<5→i≠i0→WN K w x i u→WN K w (f x) i u) :
 Made K w (w'.setCell ⟨g,k * 5+i0,none⟩ u0) (.slice (some ⟨g,0,none⟩) n c) n (us.set (k * 5+i0) u0) :=
 ⟨(h.ow.stored (k * 5+i0) u0).1,h.gd.set k i0 hk hi0 u0 f hf,h.nw,h.bl.setCell (h.nw g rfl) u0⟩
theorem Made.post {K:Nat→Prop} {w w':World} {v:Value} {n m:Nat} {us:List Value} (h:Made K w w' v m us) (hK:∀ k,K k→k<w.heap.size) (hm:m≤n+1):CodePost K n w (.returned v) w':=by
 obtain⟨c,h1,h2⟩:=(h.gd.keep (K':=fun k=>K k∨w.heap.size≤k∧k<w'.heap.size) (We.below h.bl hK) fun _ hk=>.inl hk).code h.ow fun g hg=>.inr ⟨h.nw g hg,(h.ow.lt g hg).2⟩;exact⟨v,c,rfl,by omega,h2,h.bl⟩
theorem Made.some_ {K:Nat→Prop} {w w':World} {v:Value} {n:Nat} {us:List Value} (h:Made K w w' v n us) (hn:0<n):∃ g c,v=.slice (some ⟨g,0,none⟩) n c∧n≤c:=by
 rcases h.ow.2 with ⟨_,h0⟩|⟨g,c,_,h1,_,_,h2,_⟩
 ·omega
 ·exact⟨g,c,h1,h2⟩
theorem set_op (K:Nat→Prop) (w:World) (v:Int) (x:Ins):WN K w { x with op:=v } 0 (.int .i64 v)∧∀ i u,i<5→i≠0→WN K w x i u→WN K w { x with op:=v } i u :=
 ⟨rfl,fun i _ _ hi h=>match i,hi,h with|0,hi,_=>absurd rfl hi|1,_,h=>h|2,_,h=>h|3,_,h=>h|_+4,_,h=>h⟩
theorem set_a (K:Nat→Prop) (w:World) (v:Int) (x:Ins):WN K w { x with a:=v } 1 (.int .i64 v)∧∀ i u,i<5→i≠1→WN K w x i u→WN K w { x with a:=v } i u :=
 ⟨rfl,fun i _ _ hi h=>match i,hi,h with|0,_,h=>h|1,hi,_=>absurd rfl hi|2,_,h=>h|3,_,h=>h|_+4,_,h=>h⟩
theorem set_b (K:Nat→Prop) (w:World) (v:Int) (x:Ins):WN K w { x with b:=v } 2 (.int .i64 v)∧∀ i u,i<5→i≠2→WN K w x i u→WN K w { x with b:=v } i u :=
 ⟨rfl,fun i _ _ hi h=>match i,hi,h with|0,_,h=>h|1,_,h=>h|2,hi,_=>absurd rfl hi|3,_,h=>h|_+4,_,h=>h⟩
theorem set_n (K:Nat→Prop) (w:World) (v:Int) (hv:V7 v) (x:Ins):WN K w { x with n:=v } 3 (.int .u64 v)∧∀ i u,i<5→i≠3→WN K w x i u→WN K w { x with n:=v } i u :=
 ⟨⟨rfl,hv⟩,fun i _ _ hi h=>match i,hi,h with|0,_,h=>h|1,_,h=>h|2,_,h=>h|3,hi,_=>absurd rfl hi|_+4,_,h=>h⟩
theorem set_l {K:Nat→Prop} {w:World} {u:Value} {l:List Int} (hu:Wh K w u l) (hl:fitN l.length) (x:Ins):WN K w { x with l:=l } 4 u∧∀ i u,i<5→i≠4→WN K w x i u→WN K w { x with l:=l } i u :=
 ⟨⟨hu,hl⟩,fun i _ hi5 hi h=>match i,hi5,hi,h with|0,_,_,h=>h|1,_,_,h=>h|2,_,_,h=>h|3,_,_,h=>h|4,_,hi,_=>absurd rfl hi|_+5,hi5,_,_=>absurd hi5 (by omega)⟩
theorem below_lit_grown {w1 w3:World} {o:Obj} (hg:(w1.alloc o).grownBy w3 (Value.slice (some ⟨w1.heap.size,0,none⟩) 0 0).ownBlock):Below w1.heap.size w1 w3 :=
 (Wg (bR w1.heap.size w1) o).grown hg (Wg (bR w1.heap.size w1) o).size fun g e=>by
  have e2:some w1.heap.size=some g:=e;simp only[Option.some.injEq]at e2;omega
theorem WO.dropI {K:Nat→Prop} {w:World} {g o n c:Nat} {cs:List Ins} (h:WO K w (.slice (some ⟨g,o,none⟩) n c) cs) (k:Nat) (hk:k≤n) (hn:cs.length=n) :
 ∃ us,Vm w (.slice (if c=k then some ⟨g,o,none⟩ else some ⟨g,o+k * 5,none⟩) (n - k) (c - k)) (n - k) us∧VH K w us (n - k):=by
 unfold WO at h;rw[hn]at h;obtain⟨us,h1,h2,h3⟩:=(Wb.drop h k hk).news;have hg:VH K w us (n - k):=⟨h1,fun j hj=>⟨_,fun i hi=>h3 j i hj hi⟩⟩;refine⟨us,?_,hg⟩;by_cases hc:c=k
 ·obtain⟨A,c',he,h4,_⟩:=h.form;simp only[vI]at he;obtain⟨-,-,rfl⟩:=he;rw[if_pos hc];have hl:us.length=0:=by rw[h1,show n - k=0 by omega,Nat.zero_mul]
  obtain rfl:=List.eq_nil_of_length_eq_zero hl;exact .inr ⟨_,_,rfl,fun j u hu=>by simp at hu⟩
 ·rw[if_neg hc];exact h2
theorem WO.takeI {K:Nat→Prop} {w:World} {g o n c:Nat} {cs:List Ins} (h:WO K w (.slice (some ⟨g,o,none⟩) n c) cs) (k:Nat) (hk:k≤n) (hn:cs.length=n) :
 ∃ us,Vm w (.slice (some ⟨g,o,none⟩) k c) k us∧VH K w us k:=by
 unfold WO at h;rw[hn]at h;obtain⟨us,h1,h2,h3⟩:=(Wb.take h k hk).news;exact⟨us,h2,h1,fun j hj=>⟨_,fun i hi=>h3 j i hj hi⟩⟩
theorem rows_made {K:Nat→Prop} {w w0 w':World} {v:Value} {n:Nat} {xs:List Value} (h:Rows w0 w' [⟨26,5,v,n,xs,true⟩]) (hb:Below w.heap.size w w0) (hg:VH K w xs n):Made K w w' v n xs :=
 ⟨h.head,hg,fun g e=>Nat.le_trans hb.size (h.nw _ (List.mem_cons_self ..) g e),hb.trans (h.bl.mono hb.size)⟩
theorem Made.rows {K:Nat→Prop} {w w':World} {v:Value} {n:Nat} {us:List Value} (h:Made K w w' v n us):Rows w w' [⟨26,5,v,n,us,true⟩] :=
 ⟨h.bl,fun r hr=>by rw[List.mem_singleton.1 hr];exact Ws.in_.mk rfl h.ow,fun r hr=>by rw[List.mem_singleton.1 hr];exact h.nw,List.pairwise_singleton _ _⟩
theorem code_any (K:Nat→Prop) (w:World) (hK:∀ k,K k→k<w.heap.size) (v:Value) (c:List Ins) (hv:WO K w v c) (hl:c.length≤900100) (t:Trn) (Lv:Value) (hL:Wh K w Lv t.raw.l) (ht:V7 t.n∧V7 t.raw.n∧fitN t.raw.l.length) :
 Calls Tryz.prog 65 #[v,t.val Lv] w (CodePost K c.length w):=by
 have HW:=hD ht;clear ht;have HKL:=hD hK;clear hK;obtain⟨us,hnw,hgd⟩:=hv.good;obtain⟨A,cap,rfl,hcap,hcm⟩:=Wb.form hv;obtain⟨Al,cl,hLe,hLm,_⟩:=hL.form;obtain⟨nl,hnl⟩:∃ nl,t.raw.l.length=nl:=⟨_,rfl⟩;rw[hnl]at hLe hLm;have HL:=hD hL;have HNL:=hD hnl;obtain⟨n,hn⟩:∃ n,c.length=n:=⟨_,rfl⟩;have HV:=hD hv;have HN:=hD hn;rw[hn]at hnw hgd hl hcap ⊢;have HNW:=hD hnw;have HGD:=hD hgd;obtain⟨what,pos,to_,tn,op,ra,rb,rn,rl⟩:=t;simp only at hLe HL HNL;subst hLe;clear hv hL hn hnl hnw hgd;simp only[Trn.val];have HB1:=hD ((bR w.heap.size w).alloc (nR _) (.cells #[.int .i64 what,.int .i64 pos,.int .i64 to_,.int .u64 tn,.int .i64 op,.int .i64 ra,.int .i64 rb,.int .u64 rn,.slice Al nl cl] 79));have HTC:Hid (∀ wz,Below (w.alloc (.cells #[.int .i64 what,.int .i64 pos,.int .i64 to_,.int .u64 tn,.int .i64 op,.int .i64 ra,.int .i64 rb,.int .u64 rn,.slice Al nl cl] 79)).heap.size (w.alloc (.cells #[.int .i64 what,.int .i64 pos,.int .i64 to_,.int .u64 tn,.int .i64 op,.int .i64 ra,.int .i64 rb,.int .u64 rn,.slice Al nl cl] 79)) wz→wz.cell? ⟨w.heap.size,0,none⟩=some (.int .i64 what)∧wz.cell? ⟨w.heap.size,1,none⟩=some (.int .i64 pos)∧wz.cell? ⟨w.heap.size,2,none⟩=some (.int .i64 to_)∧wz.cell? ⟨w.heap.size,3,none⟩=some (.int .u64 tn)∧wz.cell? ⟨w.heap.size,4,none⟩=some (.int .i64 op)∧wz.cell? ⟨w.heap.size,5,none⟩=some (.int .i64 ra)∧wz.cell? ⟨w.heap.size,6,none⟩=some (.int .i64 rb)∧wz.cell? ⟨w.heap.size,7,none⟩=some (.int .u64 rn)∧wz.cell? ⟨w.heap.size,8,none⟩=some (.slice Al nl cl)):=fun wz hb=>by
  have h9:∀ i,wz.cell? ⟨w.heap.size,i,none⟩=(#[.int .i64 what,.int .i64 pos,.int .i64 to_,.int .u64 tn,.int .i64 op,.int .i64 ra,.int .i64 rb,.int .u64 rn,.slice Al nl cl]:Array Value)[i]?:=fun i=>(hb.cell (p:=⟨w.heap.size,i,none⟩) (by simp)).trans (wN w _ _ i);exact⟨h9 0,h9 1,h9 2,h9 3,h9 4,h9 5,h9 6,h9 7,h9 8⟩
 have HNX:=hD (fun (wz:World) (hb:Below w.heap.size w wz)=>HNW.out.keep (w':=wz) fun a c' he j u hu hc=>(hb.cell (wL w _ hc)).trans hc);have HON:=hD HGD.out.ones;have HUL:=hD HGD.out.1;rcases Nat.eq_zero_or_pos n with h0|h0
 ·subst h0;go_enter Tryz.func65,Tryz.ntmps65;go_wp2_with fail
  go_at_call 64;refine(at_any to_ 1 (by decide) (by decide) _).mono ?_;rintro e w1 ⟨⟨q,hq,rfl⟩,rfl⟩;generalize w.alloc (.cells #[.int .i64 what,.int .i64 pos,.int .i64 to_,.int .u64 tn,.int .i64 op,.int .i64 ra,.int .i64 rb,.int .u64 rn,.slice Al nl cl] 79)=w1 at *;have HL0:=hD (Made.lit (K:=K) HB1.out);go_wp2_with (at_builtin;refine Wm rfl (.tmp 13) (.tmp 14) 62 26 rfl _ 5 56 Tryz.underlying62 Tryz.infoInst rfl (by decide) (by decide) (.slice (some ⟨w1.heap.size,0,none⟩) 0 0) 0 [] (by rfl) HL0.out.ow _ 0 us (by rfl) HUL.out (HNX.out _ (Wg HB1.out _)) HON.out (by omega) ?_;intro v3 w3 ho3 hg3 ha3;simp only[Nat.zero_add,List.nil_append]at ho3;have hm3:=HL0.out.push hg3 (n:=0) (us:=[]) (m:=0) (vs:=us) ho3 (by omega) (by rfl) HGD.out ha3;simp only[Nat.zero_add,List.nil_append]at hm3;obtain⟨B3,k3,rfl⟩:=Wd ho3;obtain⟨t0,t1,t2,t3,t4,t5,t6,t7,t8⟩:=HTC.out w3 (below_lit_grown hg3);clear ho3 hg3 ha3)
  have HP:=hD ((Made.lit1 hm3.bl ⟨op,ra,rb,rn,rl⟩ HL.out HW.out.2.1 HW.out.2.2).post (n:=0) HKL.out (by omega));clear hm3;go_wp2;go_ret;exact HP.out
 have d1:decide ((n:Int)<1)=false:=by simp;omega
 have d3:max (n:Int) 1=(n:Int):=by omega
 have d4:((n:Int)==0)=false:=by simp;omega
 go_enter Tryz.func65,Tryz.ntmps65;go_wp2_with fail
 go_at_call 64;refine(at_any to_ n h0 (by omega) _).mono ?_;rintro e w1 ⟨⟨q,hq,rfl⟩,rfl⟩;generalize w.alloc (.cells #[.int .i64 what,.int .i64 pos,.int .i64 to_,.int .u64 tn,.int .i64 op,.int .i64 ra,.int .i64 rb,.int .u64 rn,.slice Al nl cl] 79)=w1 at *;have HL0:=hD (Made.lit (K:=K) HB1.out);go_wp2_with (at_builtin;refine Wm rfl (.tmp 13) (.tmp 14) 62 26 rfl _ 5 56 Tryz.underlying62 Tryz.infoInst rfl (by decide) (by decide) (.slice (some ⟨w1.heap.size,0,none⟩) 0 0) 0 [] (by rfl) HL0.out.ow _ n us (by rfl) HUL.out (HNX.out _ (Wg HB1.out _)) HON.out (by omega) ?_;intro v3 w3 ho3 hg3 ha3;simp only[Nat.zero_add,List.nil_append]at ho3;have hm3:=HL0.out.push hg3 (n:=0) (us:=[]) (m:=n) (vs:=us) ho3 (by omega) (by rfl) HGD.out ha3;simp only[Nat.zero_add,List.nil_append]at hm3;obtain⟨B3,k3,rfl⟩:=Wd ho3;obtain⟨t0,t1,t2,t3,t4,t5,t6,t7,t8⟩:=HTC.out w3 (below_lit_grown hg3);clear ho3 hg3 ha3)
 obtain⟨g3,c3,he3,hc3⟩:=hm3.some_ h0;simp only[vI,true_and]at he3;obtain⟨rfl,rfl⟩:=he3;have HM3:=hD hm3;clear hm3;go_wp2_with fail
 go_at_call 60;refine(within0_K what 1048576 (by decide) _).mono ?_;rintro e w4 ⟨⟨r,hr,rfl⟩,rfl⟩;obtain⟨dd,hdd⟩:∃ d:Nat,r / 4=d:=⟨_,rfl⟩;have e1:(r:Int) / 4=(dd:Int):=by omega
 have e2:∃ k:Int,(dd:Int) % 6=k∧(k=0∨k=1∨k=2∨k=3∨k=4∨k=5):=⟨_,rfl,by omega⟩;have ew:wrap64 (dd:Int)=(dd:Int):=IntWalk.wrap64_in _ (by omega);obtain⟨kk,e2,hkk⟩:=e2;have HKK:=hD hkk;clear hkk;have e3:(dd:Int).tmod 6=kk:=(Int.tmod_eq_emod_of_nonneg (Int.natCast_nonneg dd)).trans e2;clear hdd hr;have e5:IntKind.i64.wrap ((q:Int)+1)=((q+1:Nat):Int):=by rw[show(q:Int)+1=((q+1:Nat):Int) by omega];exact IntWalk.i64_in _ (by omega)
 obtain⟨ga,oa,rfl⟩:∃ ga oa,A=some ⟨ga,oa,none⟩:=by
  obtain⟨g,o,c',he,_,_⟩:=Wb.some_ HV.out (by rw[HN.out];exact h0);simp only[vI]at he;exact⟨g,o,he.1⟩
 have f0:=HM3.out.ow.frozenAt (q * 5);have f1:=HM3.out.ow.frozenAt (q * 5+1);have f2:=HM3.out.ow.frozenAt (q * 5+2);have f3:=HM3.out.ow.frozenAt (q * 5+3);have f4:=HM3.out.ow.frozenAt (q * 5+4);obtain⟨x,hx⟩:=HGD.out.2 q hq;obtain⟨u0,k0,rfl⟩:=hx 0 (by omega);obtain⟨u1,k1,rfl⟩:=hx 1 (by omega);obtain⟨u2,k2,rfl⟩:=hx 2 (by omega);obtain⟨u3,k3',rfl,_⟩:=hx 3 (by omega);obtain⟨u4,k4,_⟩:=hx 4 (by omega);have K0:=(HM3.out.ow.cellAt (q * 5) (by omega)).trans k0;have K1:=(HM3.out.ow.cellAt (q * 5+1) (by omega)).trans k1;have K2:=(HM3.out.ow.cellAt (q * 5+2) (by omega)).trans k2;have K3:=(HM3.out.ow.cellAt (q * 5+3) (by omega)).trans k3';have K4:=(HM3.out.ow.cellAt (q * 5+4) (by omega)).trans k4;clear k0 k1 k2 k3' k4;clear hx;rcases HKK.out with hk6|hk6|hk6|hk6|hk6|hk6
 all_goals
  rw[hk6]at e2 e3;clear hk6 HKK
 ·obtain⟨us2,hn2,hg2⟩:=HV.out.dropI (q+1) (by rw[HN.out];omega) rfl;rw[HN.out]at hn2 hg2;have HNS:=hD hn2;have HGS:=hD hg2;have HUL2:=hD hg2.1;have HON2:=hD hg2.ones;clear hn2 hg2;have HNX2:=hD (fun (wz:World) (hb:Below w.heap.size w wz)=>HNS.out.keep (w':=wz) fun a c' he j u hu hc=>(hb.cell (wL w _ hc)).trans hc);have hR:=(HM3.out.take q (by omega)).rows.drewN 1;have hqc:q≤k3:=by omega
  have hb1:(0:Int)≤(q:Int)+1:=by omega
  have hb2:(q:Int)+1≤(n:Int):=by omega
  have e6:((q+1:Nat):Int).toNat=q+1:=Int.toNat_natCast _;have hRs:=hR
  go_upto_region 8 with (fail)
  refine Wf.start (X:=8) (S:=fun w'=>Below w.heap.size w w') (by kernel_rfl) ?_;change Wf _ _ _ _ _ _ _ _ _ w3.drew;change Rows w w3.drew _ at hR;generalize w3.drew=w5 at hR ⊢;show Wf _ _ _ _ _ _ 9 #[false,false,false,false,false,false,false,false,false] _ _;refine Wf.tk 0 34 rfl hR.bl ?_;refine Wf.tk 1 35 rfl hR.bl ?_;refine Wf.tk 2 36 rfl hR.bl ?_;refine Wf.tk 3 37 rfl hR.bl ?_;refine Wf.tk 4 38 rfl hR.bl ?_;refine Wf.tk 5 39 rfl hR.bl ?_;refine Wf.tk 6 40 rfl hR.bl ?_;refine Wf.om 7 41 rfl fun K hK=>?_;refine Wc rfl (.tmp 36) (.tmp 40) 62 26 rfl _ 5 56 Tryz.underlying62 Tryz.infoInst rfl (by decide) (by decide) (.slice (some ⟨g3,0,none⟩) q k3) q (us.take (q * 5)) (by rfl) hR.head _ (n - (q+1)) us2 (by rfl) HUL2.out (HNX2.out _ hR.bl) HON2.out (by omega) ?_;intro v1 x1 ho1 hg1 hat1;replace hR:=hR.grow hg1 ho1 hat1;obtain⟨A1,c1,rfl⟩:=Wd ho1;clear ho1 hg1 hat1;refine hK.out _ _ (.inr hR.bl) ?_;clear hK K;try simp only[Act.put,sA,List.set]
  refine Wf.om 8 4 rfl fun K hK=>?_;go_simp;refine hK.out _ _ (.inl rfl) ?_;clear hK K;refine Wf.done (by kernel_rfl) ?_ _;have HP:=hD ((rows_made hR (bR _ _) ((HGD.out.take q (by omega)).append (HGS.out))).post (n:=n) HKL.out (by omega));clear hR HM3;go_wp2
  all_goals go_ret
  all_goals exact HP.out
 ·obtain⟨us1,hn1,hg1⟩:=HV.out.takeI q (by rw[HN.out];omega) rfl;obtain⟨us2,hn2,hg2⟩:=HV.out.dropI q (by rw[HN.out];omega) rfl;have hcq:¬ cap=q:=by omega
  rw[HN.out,if_neg hcq]at hn2;rw[HN.out]at hg2;have HNS:=hD hn2;have HNT:=hD hn1;have HGS:=hD (VH.append (VH.append hg1 (insCell_one ⟨op,ra,rb,rn,rl⟩ HL.out HW.out.2.1 HW.out.2.2)) hg2);have HUL1:=hD hg1.1;have HON1:=hD hg1.ones;have HUL2:=hD hg2.1;have HON2:=hD hg2.ones;have HON5:=hD (VH.ones (insCell_one ⟨op,ra,rb,rn,rl⟩ HL.out HW.out.2.1 HW.out.2.2));clear hn1 hg1 hn2 hg2;have HNX1:=hD (fun (wz:World) (hb:Below w.heap.size w wz)=>HNT.out.keep (w':=wz) fun a c' he j u hu hc=>(hb.cell (wL w _ hc)).trans hc);have HNX2:=hD (fun (wz:World) (hb:Below w.heap.size w wz)=>HNS.out.keep (w':=wz) fun a c' he j u hu hc=>(hb.cell (wL w _ hc)).trans hc);have hbt:=wL _ _ t0;have HT5:=hD (fun wz (hb:Below w3.drew.heap.size w3.drew wz)=>And.intro ((hb.cell (p:=⟨w.heap.size,4,none⟩) hbt).trans t4) (And.intro ((hb.cell (p:=⟨w.heap.size,5,none⟩) hbt).trans t5) (And.intro ((hb.cell (p:=⟨w.heap.size,6,none⟩) hbt).trans t6) (And.intro ((hb.cell (p:=⟨w.heap.size,7,none⟩) hbt).trans t7) ((hb.cell (p:=⟨w.heap.size,8,none⟩) hbt).trans t8)))));have hB5:Below w.heap.size w w3.drew:=Wn HM3.out.bl 1;have HB5:=hD hB5;have hb3:(q:Int)≤(cap:Int):=by omega
  have hb4:(q:Int)≤(n:Int):=by omega
  clear t0 t1 t2 t3 t4 t5 t6 t7 t8 K0 K1 K2 K3 K4 f0 f1 f2 f3 f4 hbt HM3 hB5
  go_upto_region 10 with (fail)
  refine Wf.start (X:=13) (S:=fun w'=>Below w3.drew.heap.size w3.drew w') (by kernel_rfl) ?_;have hR:=Rows.nil (bR w3.drew.heap.size w3.drew);generalize w3.drew=w5 at hR HT5 HB5 ⊢;show Wf _ _ _ _ _ _ 14 #[false,false,false,false,false,false,false,false,false,false,false,false,false,false] _ _;refine Wf.tk 1 45 rfl hR.bl ?_;refine Wf.tk 2 46 rfl hR.bl ?_;refine Wf.tk 3 47 rfl hR.bl ?_;refine Wf.tk 5 49 rfl hR.bl ?_;refine Wf.tk 6 50 rfl hR.bl ?_ (hy:=by intro w' hSw;obtain⟨k4,k5,k6,k7,k8⟩:=HT5.out w' hSw;go_simp;try with_reducible rfl);refine Wf.tk 9 53 rfl hR.bl ?_;refine Wf.tk 10 54 rfl hR.bl ?_;refine Wf.tk 11 55 rfl hR.bl ?_;refine Wf.two (i:=0) (j:=7) (by kernel_rfl) ?_ ?_
  ·skip
   refine Wp.m 44 rfl fun K hK=>?_;go_simp;replace hR:=hR.lit 26 5 0 #[] rfl (by decide);refine hK.out _ _ (.inr hR.bl) ?_;clear hK K;try simp only[sA,List.set]
   generalize (w5.alloc (.cells #[] 26))=x1 at hR ⊢;refine Wf.two (i:=4) (j:=7) (by kernel_rfl) ?_ ?_
   ·skip
    refine Wp.m 48 rfl fun K hK=>?_;refine Wc rfl (.tmp 44) (.tmp 47) 62 26 rfl _ 5 56 Tryz.underlying62 Tryz.infoInst rfl (by decide) (by decide) (.slice (some ⟨w5.heap.size,0,none⟩) 0 0) 0 [] (by rfl) hR.head _ q us1 (by rfl) HUL1.out (HNX1.out _ (HB5.out.trans (hR.bl.mono HB5.out.size))) HON1.out (by omega) ?_;intro v2 x2 ho2 hg2 hat2;simp only[Nat.zero_add,List.nil_append]at ho2;replace hR:=hR.grow hg2 ho2 hat2;obtain⟨A2,c2,rfl⟩:=Wd ho2;clear ho2 hg2 hat2;refine hK.out _ _ (.inr hR.bl) ?_;clear hK K;try simp only[Act.put,sA,List.set]
    refine Wf.om 7 51 rfl fun K hK=>?_;go_simp;replace hR:=hR.lit 26 5 1 #[.int .i64 op,.int .i64 ra,.int .i64 rb,.int .u64 rn,.slice Al nl cl] rfl (by decide);refine hK.out _ _ (.inr hR.bl) ?_;clear hK K;try simp only[sA,List.set]
    generalize (x2.alloc (.cells #[.int .i64 op,.int .i64 ra,.int .i64 rb,.int .u64 rn,.slice Al nl cl] 26))=x3 at hR ⊢;refine Wf.om 8 52 rfl fun K hK=>?_;replace hR:=hR.swap;refine Wc rfl (.tmp 48) (.tmp 51) 62 26 rfl _ 5 56 Tryz.underlying62 Tryz.infoInst rfl (by decide) (by decide) (.slice A2 q c2) q us1 (by rfl) hR.head (.slice (some ⟨x2.heap.size,0,none⟩) 1 1) 1 [.int .i64 op,.int .i64 ra,.int .i64 rb,.int .u64 rn,.slice Al nl cl] (by rfl) (by rfl) (Wq hR.tail.head) HON5.out (by omega) ?_;intro v4 x4 ho4 hg4 hat4;replace hR:=hR.grow hg4 ho4 hat4;obtain⟨A4,c4,rfl⟩:=Wd ho4;clear ho4 hg4 hat4;refine hK.out _ _ (.inr hR.bl) ?_;clear hK K;try simp only[Act.put,sA,List.set]
    refine Wf.om 12 56 rfl fun K hK=>?_;refine Wc rfl (.tmp 52) (.tmp 55) 62 26 rfl _ 5 56 Tryz.underlying62 Tryz.infoInst rfl (by decide) (by decide) (.slice A4 (q+1) c4) (q+1) (us1++[.int .i64 op,.int .i64 ra,.int .i64 rb,.int .u64 rn,.slice Al nl cl]) (by rfl) hR.head _ (n - q) us2 (by rfl) HUL2.out (HNX2.out _ (HB5.out.trans (hR.bl.mono HB5.out.size))) HON2.out (by omega) ?_;intro v5 x5 ho5 hg5 hat5;replace hR:=hR.grow hg5 ho5 hat5;obtain⟨A5,c5,rfl⟩:=Wd ho5;clear ho5 hg5 hat5;exact Z6
   ·skip
    refine Wp.m 51 rfl fun K hK=>?_;go_simp;replace hR:=hR.lit 26 5 1 #[.int .i64 op,.int .i64 ra,.int .i64 rb,.int .u64 rn,.slice Al nl cl] rfl (by decide);refine hK.out _ _ (.inr hR.bl) ?_;clear hK K;try simp only[sA,List.set]
    generalize (x1.alloc (.cells #[.int .i64 op,.int .i64 ra,.int .i64 rb,.int .u64 rn,.slice Al nl cl] 26))=x6 at hR ⊢;refine Wf.om 4 48 rfl fun K hK=>?_;replace hR:=hR.swap;refine Wc rfl (.tmp 44) (.tmp 47) 62 26 rfl _ 5 56 Tryz.underlying62 Tryz.infoInst rfl (by decide) (by decide) (.slice (some ⟨w5.heap.size,0,none⟩) 0 0) 0 [] (by rfl) hR.head _ q us1 (by rfl) HUL1.out (HNX1.out _ (HB5.out.trans (hR.bl.mono HB5.out.size))) HON1.out (by omega) ?_;intro v7 x7 ho7 hg7 hat7;simp only[Nat.zero_add,List.nil_append]at ho7;replace hR:=hR.grow hg7 ho7 hat7;obtain⟨A7,c7,rfl⟩:=Wd ho7;clear ho7 hg7 hat7;refine hK.out _ _ (.inr hR.bl) ?_;clear hK K;try simp only[Act.put,sA,List.set]
    refine Wf.om 8 52 rfl fun K hK=>?_;refine Wc rfl (.tmp 48) (.tmp 51) 62 26 rfl _ 5 56 Tryz.underlying62 Tryz.infoInst rfl (by decide) (by decide) (.slice A7 q c7) q us1 (by rfl) hR.head (.slice (some ⟨x1.heap.size,0,none⟩) 1 1) 1 [.int .i64 op,.int .i64 ra,.int .i64 rb,.int .u64 rn,.slice Al nl cl] (by rfl) (by rfl) (Wq hR.tail.head) HON5.out (by omega) ?_;intro v8 x8 ho8 hg8 hat8;replace hR:=hR.grow hg8 ho8 hat8;obtain⟨A8,c8,rfl⟩:=Wd ho8;clear ho8 hg8 hat8;refine hK.out _ _ (.inr hR.bl) ?_;clear hK K;try simp only[Act.put,sA,List.set]
    refine Wf.om 12 56 rfl fun K hK=>?_;refine Wc rfl (.tmp 52) (.tmp 55) 62 26 rfl _ 5 56 Tryz.underlying62 Tryz.infoInst rfl (by decide) (by decide) (.slice A8 (q+1) c8) (q+1) (us1++[.int .i64 op,.int .i64 ra,.int .i64 rb,.int .u64 rn,.slice Al nl cl]) (by rfl) hR.head _ (n - q) us2 (by rfl) HUL2.out (HNX2.out _ (HB5.out.trans (hR.bl.mono HB5.out.size))) HON2.out (by omega) ?_;intro v9 x9 ho9 hg9 hat9;replace hR:=hR.grow hg9 ho9 hat9;obtain⟨A9,c9,rfl⟩:=Wd ho9;clear ho9 hg9 hat9;exact Z6
  ·skip
   refine Wp.m 51 rfl fun K hK=>?_;go_simp;replace hR:=hR.lit 26 5 1 #[.int .i64 op,.int .i64 ra,.int .i64 rb,.int .u64 rn,.slice Al nl cl] rfl (by decide);refine hK.out _ _ (.inr hR.bl) ?_;clear hK K;try simp only[sA,List.set]
   generalize (w5.alloc (.cells #[.int .i64 op,.int .i64 ra,.int .i64 rb,.int .u64 rn,.slice Al nl cl] 26))=x10 at hR ⊢;refine Wf.om 0 44 rfl fun K hK=>?_;go_simp;replace hR:=hR.lit 26 5 0 #[] rfl (by decide);refine hK.out _ _ (.inr hR.bl) ?_;clear hK K;try simp only[sA,List.set]
   generalize (x10.alloc (.cells #[] 26))=x11 at hR ⊢;refine Wf.om 4 48 rfl fun K hK=>?_;refine Wc rfl (.tmp 44) (.tmp 47) 62 26 rfl _ 5 56 Tryz.underlying62 Tryz.infoInst rfl (by decide) (by decide) (.slice (some ⟨x10.heap.size,0,none⟩) 0 0) 0 [] (by rfl) hR.head _ q us1 (by rfl) HUL1.out (HNX1.out _ (HB5.out.trans (hR.bl.mono HB5.out.size))) HON1.out (by omega) ?_;intro v12 x12 ho12 hg12 hat12;simp only[Nat.zero_add,List.nil_append]at ho12;replace hR:=hR.grow hg12 ho12 hat12;obtain⟨A12,c12,rfl⟩:=Wd ho12;clear ho12 hg12 hat12;refine hK.out _ _ (.inr hR.bl) ?_;clear hK K;try simp only[Act.put,sA,List.set]
   refine Wf.om 8 52 rfl fun K hK=>?_;refine Wc rfl (.tmp 48) (.tmp 51) 62 26 rfl _ 5 56 Tryz.underlying62 Tryz.infoInst rfl (by decide) (by decide) (.slice A12 q c12) q us1 (by rfl) hR.head (.slice (some ⟨w5.heap.size,0,none⟩) 1 1) 1 [.int .i64 op,.int .i64 ra,.int .i64 rb,.int .u64 rn,.slice Al nl cl] (by rfl) (by rfl) (Wq hR.tail.head) HON5.out (by omega) ?_;intro v13 x13 ho13 hg13 hat13;replace hR:=hR.grow hg13 ho13 hat13;obtain⟨A13,c13,rfl⟩:=Wd ho13;clear ho13 hg13 hat13;refine hK.out _ _ (.inr hR.bl) ?_;clear hK K;try simp only[Act.put,sA,List.set]
   refine Wf.om 12 56 rfl fun K hK=>?_;refine Wc rfl (.tmp 52) (.tmp 55) 62 26 rfl _ 5 56 Tryz.underlying62 Tryz.infoInst rfl (by decide) (by decide) (.slice A13 (q+1) c13) (q+1) (us1++[.int .i64 op,.int .i64 ra,.int .i64 rb,.int .u64 rn,.slice Al nl cl]) (by rfl) hR.head _ (n - q) us2 (by rfl) HUL2.out (HNX2.out _ (HB5.out.trans (hR.bl.mono HB5.out.size))) HON2.out (by omega) ?_;intro v14 x14 ho14 hg14 hat14;replace hR:=hR.grow hg14 ho14 hat14;obtain⟨A14,c14,rfl⟩:=Wd ho14;clear ho14 hg14 hat14;exact Z6
 ·have hbt:=wL _ _ t0;have hbg:=wL _ _ K1;have HT5:=hD (fun wz (hb:Below w3.drew.heap.size w3.drew wz)=>And.intro ((hb.cell (p:=⟨w.heap.size,1,none⟩) hbt).trans t1) ((hb.cell (p:=⟨g3,q * 5+1,none⟩) hbg).trans K1));have hM5:=HM3.out.below (Wn (bR _ _) 1);have f15:w3.drew.frozen? ⟨g3,q * 5+1,none⟩=false:=f1;have K15:w3.drew.cell? ⟨g3,q * 5+1,none⟩=some (.int .i64 x.a):=K1;have HM5:=hD hM5;clear t0 t1 t2 t3 t4 t5 t6 t7 t8 K0 K1 K2 K3 K4 f0 f1 f2 f3 f4 hbt hbg HM3 hM5
  go_upto_region 12 with (fail)
  refine Wf.start (X:=15) (S:=fun w'=>Below w3.drew.heap.size w3.drew w') (by kernel_rfl) ?_;have hR:=Rows.nil (bR w3.drew.heap.size w3.drew);change Hid (Made K w w3.drew _ _ _) at HM5;generalize w3.drew=w5 at hR HT5 HM5 f15 K15 ⊢;show Wf _ _ _ _ _ _ 16 #[false,false,false,false,false,false,false,false,false,false,false,false,false,false,false,false] _ _;refine Wf.tk 0 59 rfl hR.bl ?_;refine Wf.tk 1 60 rfl hR.bl ?_;refine Wf.tk 2 61 rfl hR.bl ?_;refine Wf.tk 3 62 rfl hR.bl ?_;refine Wf.tk 4 63 rfl hR.bl ?_;refine Wf.tk 5 64 rfl hR.bl ?_;refine Wf.tk 6 65 rfl hR.bl ?_ (hy:=by intro w' hSw;obtain⟨k1,k2⟩:=HT5.out w' hSw;go_simp;try with_reducible rfl);refine Wf.tk 7 66 rfl hR.bl ?_;refine Wf.tk 8 67 rfl hR.bl ?_;refine Wf.tk 9 68 rfl hR.bl ?_ (hy:=by intro w' hSw;obtain⟨k1,k2⟩:=HT5.out w' hSw;go_simp;try with_reducible rfl);refine Wf.tk 10 69 rfl hR.bl ?_;refine Wf.tk 11 70 rfl hR.bl ?_;refine Wf.tk 12 71 rfl hR.bl ?_;refine Wf.om 13 72 rfl fun K hK=>?_;go_simp;refine hK.out _ _ (.inr hR.bl) ?_;clear hK K;try simp only[sA,List.set]
  refine Wf.tk 14 73 rfl hR.bl ?_;refine Wf.on 15 rfl fun K hK=>?_;go_simp;refine hK.out _ _ (.inl rfl) ?_;clear hK K;refine Wf.done (by kernel_rfl) ?_ _;have HP:=hD ((HM5.out.set q 1 hq (by omega) _ _ (set_a _ _ (IntKind.i64.wrap (IntKind.i64.wrap (x.a+1) - IntKind.i64.wrap (2 * Go.bits .and .i64 pos 1))))).post (n:=n) HKL.out (by omega));go_wp2;go_ret;exact HP.out
 ·have HP:=hD ((HM3.out.set q 0 hq (by omega) _ _ (set_op _ _ op)).post (n:=n) HKL.out (by omega));rw[Nat.add_zero]at HP;go_wp2;go_ret;exact HP.out
 ·have HP:=hD ((HM3.out.set q 3 hq (by omega) _ _ (set_n _ _ tn HW.out.1)).post (n:=n) HKL.out (by omega));go_wp2;go_ret;exact HP.out
 ·have H0:=HM3.out.set q 0 hq (by omega) _ _ (set_op _ _ op);have H1:=H0.set q 1 hq (by omega) _ _ (set_a _ _ ra);have H2:=H1.set q 2 hq (by omega) _ _ (set_b _ _ rb);have H3:=H2.set q 3 hq (by omega) _ _ (set_n _ _ rn HW.out.2.1);have H4:=H3.set q 4 hq (by omega) (.slice Al nl cl) (fun x=>{ x with l:=rl }) (set_l HL.out HW.out.2.2);have HP:=hD (H4.post (n:=n) HKL.out (by omega));rw[Nat.add_zero]at HP;go_wp2;go_ret;exact HP.out
end
end Go.Proofs.YtgmgcadlkebokaaGreatDoor
