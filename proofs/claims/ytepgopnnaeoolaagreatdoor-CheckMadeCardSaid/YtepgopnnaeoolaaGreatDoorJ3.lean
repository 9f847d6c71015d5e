/- A part of the proof. -/
import Derived.Test.YtepgopnnaeoolaaGreatDoorJ2
namespace Go.Proofs.YtepgopnnaeoolaaGreatDoor
section
open Go.RowKit
theorem ZbA {P:Prop}(h:P:=by
 rcases h.so.2 with ⟨h1,h2⟩|⟨g,cap,cur,h1,_,_,h2,h3,_⟩
 ·exact⟨none,0,by rw[h1,h2],by omega,by unfold maxLen;omega⟩
 ·exact⟨_,cap,h1,h2,h3⟩):P:=h
theorem ZbT {P:Prop}(h:P:=by
 have:=h.symm.trans e;simp only[Option.some.injEq]at this;omega):P:=h
theorem ZbX {P:Prop}(h:P:=by
 obtain⟨h1,h2,h3,h4⟩:=h;obtain⟨k1,k2,k3,k4⟩:=k;exact⟨by omega,by omega,k3.trans h3,k4.trans h4⟩):P:=h
theorem Zb6 {P:Prop}(h:P:=by
 obtain⟨_,h2,_⟩:=hn;unfold Vs at h ⊢;omega):P:=h
def Wd (K:Nat→Prop) (w:World) (v:Value) (n size:Nat) (f:Nat→Nat→Value→Prop):Prop :=
 ∃ A c,v=.slice A n c∧n≤c∧c≤maxLen∧(A=none→c=0)∧(0<n→∃ g o:Nat,A=some ⟨g,o,none⟩∧K g∧∀ j i,j<n→i<size→∃ u,w.cell? ⟨g,o+j * size+i,none⟩=some u∧f j i u)
theorem Wd.keep {K K':Nat→Prop} {w w':World} {v:Value} {n size:Nat} {f f':Nat→Nat→Value→Prop} (h:Wd K w v n size f) (hk:Wf K w w') (hm:∀ k,K k→K' k) (hf:∀ j i u,f j i u→f' j i u):Wd K' w' v n size f':=by
 obtain⟨A,c,rfl,h1,h2,h0,h3⟩:=h;refine⟨A,c,rfl,h1,h2,h0,fun hl=>?_⟩;obtain⟨g,o,rfl,h4,h5⟩:=h3 hl;refine⟨g,o,rfl,hm g h4,fun j i hj hi=>?_⟩;obtain⟨u,h6,h7⟩:=h5 j i hj hi;exact⟨u,(hk.cell (p:=⟨g,o+j * size+i,none⟩) h4).trans h6,hf j i u h7⟩
def Vo (K:Nat→Prop) (w:World) (v:Value) (ts:List (List Int×List Int)):Prop :=
 Wd K w v ts.length 2 fun j i u=>Wg K w u (if i=0 then (ts.getD j ([],[])).1 else (ts.getD j ([],[])).2)
theorem Vo.keep {K K':Nat→Prop} {w w':World} {v:Value} {ts:List (List Int×List Int)} (h:Vo K w v ts) (hk:Wf K w w') (hm:∀ k,K k→K' k):Vo K' w' v ts :=
 Wd.keep h hk hm fun _ _ _ h=>Wg.keep h hk hm
def VW (K:Nat→Prop) (w:World) (v:Value) (size p:Nat) (l:List Int):Prop:=Wd K w v l.length size fun j i u=>i=p→u=.int .i64 (l.getD j 0)
theorem VW.keep {K K':Nat→Prop} {w w':World} {v:Value} {size p:Nat} {l:List Int} (h:VW K w v size p l) (hk:Wf K w w') (hm:∀ k,K k→K' k):VW K' w' v size p l :=
 Wd.keep h hk hm fun _ _ _ h=>h
theorem Wd.some_ {K:Nat→Prop} {w:World} {v:Value} {n size:Nat} {f:Nat→Nat→Value→Prop} (h:Wd K w v n size f) (hn:0<n):∃ g o c:Nat,v=.slice (some ⟨g,o,none⟩) n c∧n≤c∧c≤maxLen:=by
 obtain⟨A,c,rfl,h1,h2,h0,h3⟩:=h;obtain⟨g,o,rfl,_⟩:=h3 hn;exact⟨g,o,c,rfl,h1,h2⟩
theorem Wd.form {K:Nat→Prop} {w:World} {v:Value} {n size:Nat} {f:Nat→Nat→Value→Prop} (h:Wd K w v n size f):∃ A c,v=.slice A n c∧n≤c∧c≤maxLen:=by
 obtain⟨A,c,rfl,h1,h2,_⟩:=h;exact⟨A,c,rfl,h1,h2⟩
theorem Wd.at_ {K:Nat→Prop} {w:World} {g o m n c size:Nat} {f:Nat→Nat→Value→Prop} (h:Wd K w (.slice (some ⟨g,o,none⟩) m c) n size f) (j i:Nat) (hj:j<n) (hi:i<size):∃ u,w.cell? ⟨g,o+j * size+i,none⟩=some u∧f j i u:=by
 obtain⟨A,c',he,h1,h2,h0,h3⟩:=h;simp only[vI]at he;obtain⟨rfl,rfl,rfl⟩:=he;obtain⟨g',o',he,_,h5⟩:=h3 (by omega);simp only[Option.some.injEq,Addr.mk.injEq]at he;obtain⟨rfl,rfl,_⟩:=he;exact h5 j i hj hi
theorem VW.at_ {K:Nat→Prop} {w:World} {g o m c size p:Nat} {l:List Int} (h:VW K w (.slice (some ⟨g,o,none⟩) m c) size p l) (j:Nat) (hj:j<l.length) (hp:p<size):w.cell? ⟨g,o+j * size+p,none⟩=some (.int .i64 (l.getD j 0)):=by
 obtain⟨u,h1,h2⟩:=Wd.at_ h j p hj hp;rw[h1,h2 rfl]
def LabsK (K:Nat→Prop) (w:World) (v:Value) (n:Nat):Prop:=Wd K w v n 1 fun _ _ u=>∃ l:List Int,l.length≤3∧Wg K w u l
theorem LabsK.keep {K K':Nat→Prop} {w w':World} {v:Value} {n:Nat} (h:LabsK K w v n) (hk:Wf K w w') (hm:∀ k,K k→K' k):LabsK K' w' v n :=
 Wd.keep h hk hm fun _ _ _ ⟨l,h1,h2⟩=>⟨l,h1,h2.keep hk hm⟩
def LenK (v:Value) (n:Nat):Prop:=∃ A c,v=.slice A n c∧n≤c∧c≤maxLen
structure Iv where
 op:Int
 a:Int
 b:Int
 n:Int
 l:Value
def Iv.cells (x:Iv):List Value:=[.int .i64 x.op,.int .i64 x.a,.int .i64 x.b,.int .u64 x.n,x.l]
def flat (c:List Iv):List Value:=c.flatMap Iv.cells
theorem flat_length (c:List Iv):(flat c).length=c.length * 5:=by
 induction c with
 | nil=>rfl
 | cons x c ih=>simp only[flat,List.flatMap_cons,List.length_append,Iv.cells,List.length_cons,List.length_nil]at ih ⊢;omega
structure Fx where
 G:Nat
 T:Nat
 tv:Value
 tl:List Int
 m0:Value
 m1:Value
 m2:Value
 m3:Value
 m4:Value
 m5:Value
 m6:Value
 m7:Value
 lov:Value
 lo:List Int
 pv:Value
 rv:Value
 ro:List Int
 ts:List (List Int×List Int)
 is:List Int
 fs:List Int
 gs:List Int
 nm:Nat
 nd:Nat
 o:Option (List Nat)
 E:Nat→Prop
structure St where
 sv:Value
 lv:Value
 cv:Value
 at_:Nat
 s:List Int
 nl:Nat
 c:List Iv
 left:Int
def priv (F:Fx) (x:St) (k:Nat):Prop:=k=F.G∨k=F.T∨x.sv.ownBlock=some k∨x.cv.ownBlock=some k
def Ud (F:Fx) (w:World) (x:St) (k:Nat):Prop:=k<w.heap.size∧¬ priv F x k
def W9 (F:Fx) (w:World) (x:St) (k:Nat):Prop:=Ud F w x k∧¬ F.E k
structure Reads (F:Fx) (K:Nat→Prop) (w:World) (lv:Value) (nl:Nat) (c:List Iv):Prop where
 tape:Wg K w F.tv F.tl
 loc:Wg K w F.lov F.lo∧F.lo.length≤100
 own:Wg K w F.rv F.ro∧F.ro.length≤3
 types:Vo K w F.m0 F.ts∧F.ts.length=9∧∀ t ∈ F.ts,t.1.length≤3∧t.2.length≤3
 imps:VW K w F.m1 3 2 F.is∧F.is.length=2∧∀ t ∈ F.is,0≤t∧t<9
 funs:VW K w F.m2 3 0 F.fs∧(0<F.fs.length∧F.fs.length≤4)∧∀ t ∈ F.fs,0≤t∧t<9
 mems:LenK F.m3 F.nm∧F.nm≤3
 globs:VW K w F.m4 3 0 F.gs∧F.gs.length=4
 datas:LenK F.m6 F.nd∧F.nd≤2∧(0<F.nm→F.nd=2)
 labs:LabsK K w lv nl
 code:∀ iv ∈ c,∃ l,Wg K w iv.l l∧okB iv.op iv.a iv.b iv.n l=true
 nest:∀ q,F.o=some q→Ul (c.map Iv.op) []=some q
theorem Reads.keep {F:Fx} {K K':Nat→Prop} {w w':World} {lv:Value} {nl:Nat} {c:List Iv} (h:Reads F K w lv nl c) (hk:Wf K w w') (hm:∀ k,K k→K' k):Reads F K' w' lv nl c :=
 ⟨h.tape.keep hk hm,⟨h.loc.1.keep hk hm,h.loc.2⟩,⟨h.own.1.keep hk hm,h.own.2⟩,⟨h.types.1.keep hk hm,h.types.2⟩,⟨h.imps.1.keep hk hm,h.imps.2⟩,⟨h.funs.1.keep hk hm,h.funs.2⟩,h.mems,⟨h.globs.1.keep hk hm,h.globs.2⟩,h.datas,h.labs.keep hk hm,fun iv hiv=>by obtain⟨l,hl,ho⟩:=h.code iv hiv;exact⟨l,hl.keep hk hm,ho⟩,h.nest⟩
def gcells (F:Fx) (x:St):Array Value :=
 #[.pointer (some ⟨F.T,0,none⟩),F.m0,F.m1,F.m2,F.m3,F.m4,F.m5,F.m6,F.m7,F.lov,F.pv,F.rv,x.sv,x.lv,x.cv,.int .i64 x.left,.bool true]
structure WD (F:Fx) (w:World) (x:St):Prop where
 hg:w.heap[F.G]?=some (.cells (gcells F x) 69 (0,0))
 ht:w.heap[F.T]?=some (.cells #[F.tv,.int .i64 (x.at_:Int)] 49 (0,0))
 ne:F.G≠F.T
 so:w.ownsRow 0 3 1 x.sv x.s.length (x.s.map (Value.int .i64))
 sp:∀ g,x.sv.ownBlock=some g→g≠F.G∧g≠F.T∧x.cv.ownBlock≠some g
 co:w.ownsRow 0 76 5 x.cv x.c.length (flat x.c)
 cp:∀ g,x.cv.ownBlock=some g→g≠F.G∧g≠F.T
 le:x.at_≤F.tl.length
 reads:Reads F (W9 F w x) w x.lv x.nl x.c
structure Wv (F:Fx) (w:World) (x:St) (w':World) (x':St):Prop where
 keeps:Wf (Ud F w x) w w'
 mono:∀ k,Ud F w x k→Ud F w' x' k
theorem Wv.refl (F:Fx) (w:World) (x:St):Wv F w x w x:=⟨.refl _ _,fun _ h=>h⟩
theorem Wv.trans {F:Fx} {a b c:World} {x y z:St} (h:Wv F a x b y) (k:Wv F b y c z):Wv F a x c z :=
 ⟨h.keeps.trans (k.keeps.mono h.mono),fun i hi=>k.mono i (h.mono i hi)⟩
theorem Wv.ints {F:Fx} {w w':World} {x x':St} (h:Wv F w x w' x') {v:Value} {l:List Int} (hv:Wg (Ud F w x) w v l):Wg (Ud F w' x') w' v l:=hv.keep h.keeps h.mono
theorem Wv.rints {F:Fx} {w w':World} {x x':St} (h:Wv F w x w' x') {v:Value} {l:List Int} (hv:Wg (W9 F w x) w v l):Wg (W9 F w' x') w' v l:=hv.keep (h.keeps.mono fun _ h=>h.1) fun k hk=>⟨h.mono k hk.1,hk.2⟩
theorem Wg.wide {F:Fx} {w:World} {x:St} {v:Value} {l:List Int} (h:Wg (W9 F w x) w v l):Wg (Ud F w x) w v l:=h.keep (.refl _ _) fun _ h=>h.1
theorem WD.below {F:Fx} {w w':World} {x:St} (h:WD F w x) (hb:Below w.heap.size w w'):WD F w' x∧Wv F w x w' x:=by
 have hk:Wf (Ud F w x) w w':=.below hb fun k hk=>hk.1;have hm:∀ k,Ud F w x k→Ud F w' x k:=fun k hk=>⟨WW hk.1 hb.size,hk.2⟩;exact⟨⟨(hb.block _ (Array.getElem?_eq_some_iff.1 h.hg).1).trans h.hg,(hb.block _ (Array.getElem?_eq_some_iff.1 h.ht).1).trans h.ht,h.ne,Vi h.so hb,h.sp,Vi h.co hb,h.cp,h.le,h.reads.keep (hk.mono fun _ h=>h.1) fun k hk=>⟨hm k hk.1,hk.2⟩⟩,hk,hm⟩
structure TapeTo (T:Nat) (w w':World) (tv:Value) (k:Nat):Prop where
 os:w'.os=w.os
 tape:w'.tape=w.tape
 output:w'.output=w.output
 size:w'.heap.size=w.heap.size
 block:∀ b,b≠T→w'.heap[b]?=w.heap[b]?
 at_:w'.heap[T]?=some (.cells #[tv,.int .i64 (k:Int)] 49 (0,0))
theorem WD.next {F:Fx} {w w':World} {x:St} (h:WD F w x) {k:Nat} (ht:TapeTo F.T w w' F.tv k) (hk:k≤F.tl.length):WD F w' { x with at_:=k }∧Wv F w x w' { x with at_:=k }:=by
 have hkeep:Wf (fun b=>b≠F.T) w w':=⟨ht.os,ht.tape,ht.output,by rw[ht.size];exact nR _,ht.block⟩;have hK:Wf (Ud F w x) w w':=hkeep.mono fun b hb e=>hb.2 (.inr (.inl e));have hm:∀ b,Ud F w x b→Ud F w' { x with at_:=k } b:=fun b hb=>⟨by rw[ht.size];exact hb.1,hb.2⟩;exact⟨⟨(ht.block _ h.ne).trans h.hg,ht.at_,h.ne,Wt h.so hkeep fun g hg=>(h.sp g hg).2.1,h.sp,Wt h.co hkeep fun g hg=>(h.cp g hg).2,h.cp,hk,h.reads.keep (hK.mono fun _ h=>h.1) fun k hk=>⟨hm k hk.1,hk.2⟩⟩,hK,hm⟩
theorem Wh (w:World) (g o:Nat) (cs:Array Value) (t:TypeId) (u:Value) (h:w.heap[g]?=some (.cells cs t (0,0))):(w.setCell ⟨g,o,none⟩ u).heap[g]?=some (.cells (cs.setIfInBounds o u) t (0,0)):=by
 simp[World.setCell,Array.getElem?_modify,h]
theorem WD.store {F:Fx} {W w:World} {x x':St} (h:WD F W x) (hk:Wf (fun k=>k<W.heap.size∧x.sv.ownBlock≠some k∧x.cv.ownBlock≠some k) W w) (o:Nat) (u:Value) (hc:(gcells F x).setIfInBounds o u=gcells F x') (ha:x'.at_=x.at_)
 (hs:w.ownsRow 0 3 1 x'.sv x'.s.length (x'.s.map (Value.int .i64))) (hsp:∀ g,x'.sv.ownBlock=some g→g≠F.G∧g≠F.T∧x'.cv.ownBlock≠some g)
 (hco:w.ownsRow 0 76 5 x'.cv x'.c.length (flat x'.c)) (hcp:∀ g,x'.cv.ownBlock=some g→g≠F.G∧g≠F.T)
 (hm:∀ k,priv F x' k→priv F x k∨W.heap.size≤k) (hr:Reads F (W9 F w x') w x'.lv x'.nl x'.c):WD F (w.setCell ⟨F.G,o,none⟩ u) x'∧Wv F W x (w.setCell ⟨F.G,o,none⟩ u) x':=by
 have hsz:(w.setCell ⟨F.G,o,none⟩ u).heap.size=w.heap.size:=by simp[World.setCell]
 have hk0:Wf (fun b=>b≠F.G) w (w.setCell ⟨F.G,o,none⟩ u):=.setCell w (fun e=>e rfl) u;have hGW:F.G<W.heap.size:=(Array.getElem?_eq_some_iff.1 h.hg).1;have hTW:F.T<W.heap.size:=(Array.getElem?_eq_some_iff.1 h.ht).1;have hg:w.heap[F.G]?=some (.cells (gcells F x) 69 (0,0)):=(hk.block F.G ⟨hGW,fun e=>(h.sp _ e).1 rfl,fun e=>(h.cp _ e).1 rfl⟩).trans h.hg;have ht:w.heap[F.T]?=some (.cells #[F.tv,.int .i64 (x.at_:Int)] 49 (0,0)):=(hk.block F.T ⟨hTW,fun e=>(h.sp _ e).2.1 rfl,fun e=>(h.cp _ e).2 rfl⟩).trans h.ht;have hK:Wf (Ud F W x) W (w.setCell ⟨F.G,o,none⟩ u):=(hk.mono fun b hb=>⟨hb.1,fun e=>hb.2 (.inr (.inr (.inl e))),fun e=>hb.2 (.inr (.inr (.inr e)))⟩).trans ((hk0.mono fun b hb=>fun e=>hb.2 (.inl e)):Wf (Ud F W x) _ _);have hM:∀ k,Ud F W x k→Ud F (w.setCell ⟨F.G,o,none⟩ u) x' k:=fun k hk'=>⟨by rw[hsz];exact WW hk'.1 hk.size,fun hp=>by
  rcases hm k hp with h1|h1
  ·exact hk'.2 h1
  ·exact absurd hk'.1 (Nat.not_lt_of_le h1)⟩
 have hR:∀ k,Ud F w x' k→Ud F (w.setCell ⟨F.G,o,none⟩ u) x' k:=fun k hk'=>⟨by rw[hsz];exact hk'.1,hk'.2⟩;refine⟨⟨by rw[Wh w F.G o _ _ u hg,hc],(hk0.block _ (fun e=>h.ne e.symm)).trans (by rw[ha];exact ht),h.ne,Wt hs hk0 fun g hg=>(hsp g hg).1,hsp,Wt hco hk0 fun g hg=>(hcp g hg).1,hcp,by rw[ha];exact h.le,hr.keep (hk0.mono fun b hb e=>hb.1.2 (.inl e)) fun k hk=>⟨hR k hk.1,hk.2⟩⟩,hK,hM⟩
theorem reads_on {F:Fx} {W w:World} {x x':St} (hk:Wf (fun k=>k<W.heap.size∧x.sv.ownBlock≠some k∧x.cv.ownBlock≠some k) W w) (hm:∀ k,priv F x' k→priv F x k∨W.heap.size≤k) :
 Wf (W9 F W x) W w∧∀ k,W9 F W x k→W9 F w x' k :=
 ⟨hk.mono fun b hb=>⟨hb.1.1,fun e=>hb.1.2 (.inr (.inr (.inl e))),fun e=>hb.1.2 (.inr (.inr (.inr e)))⟩,fun k hk'=>⟨⟨WW hk'.1.1 hk.size,fun hp=>by
  rcases hm k hp with h1|h1
  ·exact hk'.1.2 h1
  ·exact absurd hk'.1.1 (Nat.not_lt_of_le h1)⟩,hk'.2⟩⟩
theorem flat_snoc (c:List Iv) (i:Iv):flat (c++[i])=flat c++i.cells:=by simp[flat]
theorem WD.lts {F:Fx} {w:World} {x:St} (h:WD F w x):F.G<w.heap.size∧F.T<w.heap.size∧(∀ g,x.sv.ownBlock=some g→g<w.heap.size)∧∀ g,x.cv.ownBlock=some g→g<w.heap.size :=
 ⟨(Array.getElem?_eq_some_iff.1 h.hg).1,(Array.getElem?_eq_some_iff.1 h.ht).1,fun g hg=>(h.so.lt g hg).2,fun g hg=>(h.co.lt g hg).2⟩
theorem WD.pushC {F:Fx} {W w:World} {x:St} (h:WD F W x) (o:Obj) (hgr:(W.alloc o).grownBy w x.cv.ownBlock) (i:Iv) (v:Value) (hown:w.ownsRow 0 76 5 v (x.c.length+1) (flat x.c++i.cells))
 (hat:v.ownBlock=x.cv.ownBlock∨v.ownBlock=some (W.alloc o).heap.size) (hl:∃ q,Wg (W9 F W x) W i.l q∧okB i.op i.a i.b i.n q=true) (hF:F.o=none) :
 WD F (w.setCell ⟨F.G,14,none⟩ v) { x with cv:=v,c:=x.c++[i] }∧Wv F W x (w.setCell ⟨F.G,14,none⟩ v) { x with cv:=v,c:=x.c++[i] }:=by
 obtain⟨l1,l2,l3,l4⟩:=h.lts;have hsz:(W.alloc o).heap.size=W.heap.size+1:=by simp
 have hka:Wf (fun k=>k<W.heap.size) W (W.alloc o):=.alloc W (fun _ h=>h) o;have hkg:Wf (fun k=>k<W.heap.size∧x.cv.ownBlock≠some k) (W.alloc o) w:=.mono (.grown (K:=fun k=>k<W.heap.size∧x.cv.ownBlock≠some k) hgr (fun k hk=>by rw[hsz];have:=hk.1;omega) (fun k e hk=>hk.2 e)) fun _ h=>h;have hkk:Wf (fun k=>k<W.heap.size∧x.cv.ownBlock≠some k) W w:=(hka.mono fun _ h=>h.1).trans hkg;have hk:Wf (fun k=>k<W.heap.size∧x.sv.ownBlock≠some k∧x.cv.ownBlock≠some k) W w:=hkk.mono fun _ h=>⟨h.1,h.2.2⟩;have hm:∀ k,priv F { x with cv:=v,c:=x.c++[i] } k→priv F x k∨W.heap.size≤k:=by
  rintro k (e|e|e|e)
  ·exact .inl (.inl e)
  ·exact .inl (.inr (.inl e))
  ·exact .inl (.inr (.inr (.inl e)))
  ·rcases hat with h1|h1
   ·exact .inl (.inr (.inr (.inr (h1 ▸ e))))
   ·exact .inr (by have:=h1.symm.trans e;simp only[Option.some.injEq]at this;omega)
 obtain⟨r1,r2⟩:=reads_on hk hm;refine h.store hk 14 v (by rfl) rfl (Wt h.so hkk fun g hg=>⟨l3 g hg,(h.sp g hg).2.2⟩) (fun g hg=>⟨(h.sp g hg).1,(h.sp g hg).2.1,fun e=>?_⟩) (by rw[List.length_append,flat_snoc];exact hown) (fun g hg=>?_) hm ?_
 ·rcases hat with h1|h1
  ·exact(h.sp g hg).2.2 (h1 ▸ e)
  ·have e2:some (W.alloc o).heap.size=some g:=h1.symm.trans e;simp only[Option.some.injEq]at e2;have:=l3 g hg;omega
 ·rcases hat with h1|h1
  ·exact h.cp g (h1 ▸ hg)
  ·have e2:some (W.alloc o).heap.size=some g:=h1.symm.trans hg;simp only[Option.some.injEq]at e2;exact⟨by omega,by omega⟩
 ·have hr:=h.reads.keep r1 r2;exact⟨hr.tape,hr.loc,hr.own,hr.types,hr.imps,hr.funs,hr.mems,hr.globs,hr.datas,hr.labs,fun j hj=>by
   rcases List.mem_append.1 hj with hj|hj
   ·exact hr.code j hj
   ·obtain rfl:=List.mem_singleton.1 hj;obtain⟨q,hq,ho⟩:=hl;exact⟨q,hq.keep r1 r2,ho⟩,fun q hq=>by rw[hF]at hq;cases hq⟩
theorem WD.reo {F:Fx} {w:World} {x:St} (h:WD F w x) (o:Option (List Nat)) (ho:∀ q,o=some q→Ul (x.c.map Iv.op) []=some q):WD { F with o:=o } w x :=
 ⟨h.hg,h.ht,h.ne,h.so,h.sp,h.co,h.cp,h.le,⟨h.reads.tape,h.reads.loc,h.reads.own,h.reads.types,h.reads.imps,h.reads.funs,h.reads.mems,h.reads.globs,h.reads.datas,h.reads.labs,h.reads.code,ho⟩⟩
theorem WD.setS {F:Fx} {W w:World} {x:St} (h:WD F W x) (hk:Wf (fun k=>k<W.heap.size∧x.sv.ownBlock≠some k) W w) (v:Value) (s:List Int) (hown:w.ownsRow 0 3 1 v s.length (s.map (Value.int .i64)))
 (hat:v.ownBlock=x.sv.ownBlock∨∀ g,v.ownBlock=some g→W.heap.size≤g) :
 WD F (w.setCell ⟨F.G,12,none⟩ v) { x with sv:=v,s:=s }∧Wv F W x (w.setCell ⟨F.G,12,none⟩ v) { x with sv:=v,s:=s }:=by
 obtain⟨l1,l2,l3,l4⟩:=h.lts;have hk2:Wf (fun k=>k<W.heap.size∧x.sv.ownBlock≠some k∧x.cv.ownBlock≠some k) W w:=hk.mono fun _ h=>⟨h.1,h.2.1⟩;have hm:∀ k,priv F { x with sv:=v,s:=s } k→priv F x k∨W.heap.size≤k:=by
  rintro k (e|e|e|e)
  ·exact .inl (.inl e)
  ·exact .inl (.inr (.inl e))
  ·rcases hat with h1|h1
   ·exact .inl (.inr (.inr (.inl (h1 ▸ e))))
   ·exact .inr (h1 k e)
  ·exact .inl (.inr (.inr (.inr e)))
 obtain⟨r1,r2⟩:=reads_on hk2 hm;refine h.store hk2 12 v (by rfl) rfl hown (fun g hg=>?_) (Wt h.co hk fun g hg=>⟨l4 g hg,fun e=>(h.sp g e).2.2 hg⟩) h.cp hm (h.reads.keep r1 r2);rcases hat with h1|h1
 ·exact h.sp g (h1 ▸ hg)
 ·have:=h1 g hg;exact⟨by omega,by omega,fun e=>by have:=l4 g e;omega⟩
theorem WD.pushS {F:Fx} {W w:World} {x:St} (h:WD F W x) (o:Obj) (hgr:(W.alloc o).grownBy w x.sv.ownBlock) (t:Int) (v:Value) (hown:w.ownsRow 0 3 1 v (x.s.length+1) (x.s.map (Value.int .i64)++[.int .i64 t]))
 (hat:v.ownBlock=x.sv.ownBlock∨v.ownBlock=some (W.alloc o).heap.size) :
 WD F (w.setCell ⟨F.G,12,none⟩ v) { x with sv:=v,s:=x.s++[t] }∧Wv F W x (w.setCell ⟨F.G,12,none⟩ v) { x with sv:=v,s:=x.s++[t] }:=by
 have hsz:(W.alloc o).heap.size=W.heap.size+1:=by simp
 have hka:Wf (fun k=>k<W.heap.size) W (W.alloc o):=.alloc W (fun _ h=>h) o;have hkg:Wf (fun k=>k<W.heap.size∧x.sv.ownBlock≠some k) (W.alloc o) w:=.grown hgr (fun k hk=>by rw[hsz];have:=hk.1;omega) (fun k e hk=>hk.2 e);refine h.setS ((hka.mono fun _ h=>h.1).trans hkg) v (x.s++[t]) (by rw[List.length_append,List.map_append];exact hown) ?_;rcases hat with h1|h1
 ·exact .inl h1
 ·exact .inr fun g e=>by have:=h1.symm.trans e;simp only[Option.some.injEq]at this;omega
section
variable {F:Fx} {w:World} {x:St}
theorem WD.cell (h:WD F w x) (o:Nat):w.cell? ⟨F.G,o,none⟩=(gcells F x)[o]?:=by simp[World.cell?,h.hg]
theorem WD.frozen (h:WD F w x) (o:Nat):w.frozen? ⟨F.G,o,none⟩=false:=by simp[World.frozen?,h.hg]
theorem WD.c0 (h:WD F w x):w.cell? ⟨F.G,0,none⟩=some (.pointer (some ⟨F.T,0,none⟩)):=h.cell 0
theorem WD.c1 (h:WD F w x):w.cell? ⟨F.G,1,none⟩=some F.m0:=h.cell 1
theorem WD.c2 (h:WD F w x):w.cell? ⟨F.G,2,none⟩=some F.m1:=h.cell 2
theorem WD.c3 (h:WD F w x):w.cell? ⟨F.G,3,none⟩=some F.m2:=h.cell 3
theorem WD.c4 (h:WD F w x):w.cell? ⟨F.G,4,none⟩=some F.m3:=h.cell 4
theorem WD.c5 (h:WD F w x):w.cell? ⟨F.G,5,none⟩=some F.m4:=h.cell 5
theorem WD.c6 (h:WD F w x):w.cell? ⟨F.G,6,none⟩=some F.m5:=h.cell 6
theorem WD.c7 (h:WD F w x):w.cell? ⟨F.G,7,none⟩=some F.m6:=h.cell 7
theorem WD.c8 (h:WD F w x):w.cell? ⟨F.G,8,none⟩=some F.m7:=h.cell 8
theorem WD.c9 (h:WD F w x):w.cell? ⟨F.G,9,none⟩=some F.lov:=h.cell 9
theorem WD.c11 (h:WD F w x):w.cell? ⟨F.G,11,none⟩=some F.rv:=h.cell 11
theorem WD.c12 (h:WD F w x):w.cell? ⟨F.G,12,none⟩=some x.sv:=h.cell 12
theorem WD.c13 (h:WD F w x):w.cell? ⟨F.G,13,none⟩=some x.lv:=h.cell 13
theorem WD.c14 (h:WD F w x):w.cell? ⟨F.G,14,none⟩=some x.cv:=h.cell 14
theorem WD.c15 (h:WD F w x):w.cell? ⟨F.G,15,none⟩=some (.int .i64 x.left):=h.cell 15
theorem WD.sform (h:WD F w x):∃ A c,x.sv=.slice A x.s.length c∧x.s.length≤c∧c≤maxLen:=by
 exact ZbA
theorem WD.new_free (h:WD F w x) {k:Nat} (hk:w.heap.size≤k):¬ priv F x k:=by
 obtain⟨l1,l2,l3,l4⟩:=h.lts;rintro(e|e|e|e)
 ·omega
 ·omega
 ·have:=l3 k e;omega
 ·have:=l4 k e;omega
theorem WD.alloc (h:WD F w x) (o:Obj):WD F (w.alloc o) x∧Wv F w x (w.alloc o) x:=h.below ((bR _ _).alloc (nR _) o)
theorem WD.new_cell (h:WD F w x) (cs:Array Value) (t:TypeId) {w':World} {x':St} (hs:Wv F (w.alloc (.cells cs t)) x w' x') (j:Nat):w'.cell? ⟨w.heap.size,j,none⟩=cs[j]? :=
 (hs.keeps.cell (p:=⟨w.heap.size,j,none⟩) ⟨by simp,h.new_free (nR _)⟩).trans (wN w cs t j)
theorem WD.drew (h:WD F w x):WD F w.drew x∧Wv F w x w.drew x:=h.below ((bR _ _).drew)
theorem WD.pushf (h:WD F w x) (o:Obj):(w.alloc o).cell? ⟨F.G,12,none⟩=some x.sv∧∀ w2,(w.alloc o).grownBy w2 x.sv.ownBlock→w2.cell? ⟨F.G,12,none⟩=some x.sv∧w2.frozen? ⟨F.G,12,none⟩=false:=by
 have hG:=h.lts.1;refine⟨by rw[World.cell?_alloc_lt _ _ _ (by exact hG)];exact h.c12,fun w2 hgr=>?_⟩;have hb:w2.heap[F.G]?=w.heap[F.G]?:=(hgr.block F.G (by simp;omega) (fun e=>(h.sp _ e.symm).1 rfl)).trans (Below.heap_alloc w o _ hG);exact⟨(World.cell?_of_block (w:=w) (a:=⟨F.G,12,none⟩) hb).trans h.c12,(World.frozen?_of_block (w:=w) (a:=⟨F.G,12,none⟩) hb).trans (h.frozen 12)⟩
end
theorem Ue (W:World) (e:TypeId):(W.alloc (.cells #[] e)).ownsRow 0 e 1 (.slice (some ⟨W.heap.size,0,none⟩) 0 0) 0 []:=World.ownsRow_made W #[] 0 (nZ _) (nZ _) rfl
theorem keeps_made {W w1:World} {o:Obj} (hg1:(W.alloc o).grownBy w1 (some W.heap.size)):Wf (fun k=>k<W.heap.size) W w1 :=
 (Wf.alloc W (fun _ h=>h) o).trans (.grown hg1 (fun k hk=>by simp;omega) (fun k e hk=>by simp only[Option.some.injEq]at e;omega))
theorem keeps_made2 {W w1 w2:World} {o:Obj} {v1:Value} (hk1:Wf (fun k=>k<W.heap.size) W w1) (ha1:v1.ownBlock=some W.heap.size∨v1.ownBlock=some (W.alloc o).heap.size) (hg2:w1.grownBy w2 v1.ownBlock):Wf (fun k=>k<W.heap.size) W w2 :=
 hk1.trans (.grown hg2 (fun k hk=>WW hk hk1.size) (fun k e hk=>by
  have hs:(W.alloc o).heap.size=W.heap.size+1:=by simp
  rcases ha1 with h|h
  ·exact ZbT
  ·have:=h.symm.trans e;simp only[Option.some.injEq]at this;omega))
theorem made_at {W w1:World} {o:Obj} {v1 v2:Value} (hk1:Wf (fun k=>k<W.heap.size) W w1) (ha1:v1.ownBlock=some W.heap.size∨v1.ownBlock=some (W.alloc o).heap.size) (ha2:v2.ownBlock=v1.ownBlock∨v2.ownBlock=some w1.heap.size):∀ g,v2.ownBlock=some g→W.heap.size≤g:=by
 have hs:(W.alloc o).heap.size=W.heap.size+1:=by simp
 have h1:=hk1.size;intro g hg;rcases ha2 with h|h
 ·rcases ha1 with k|k
  ·have:=(k.symm.trans h.symm).trans hg;simp only[Option.some.injEq]at this;omega
  ·have:=(k.symm.trans h.symm).trans hg;simp only[Option.some.injEq]at this;omega
 ·have:=h.symm.trans hg;simp only[Option.some.injEq]at this;omega
theorem WD.store12 {F:Fx} {W w:World} {x:St} (h:WD F W x) (hk:Wf (fun k=>k<W.heap.size) W w):w.cell? ⟨F.G,12,none⟩=some x.sv∧w.frozen? ⟨F.G,12,none⟩=false :=
 ⟨(World.cell?_of_block (w:=W) (a:=⟨F.G,12,none⟩) (hk.block F.G h.lts.1)).trans h.c12,(World.frozen?_of_block (w:=W) (a:=⟨F.G,12,none⟩) (hk.block F.G h.lts.1)).trans (h.frozen 12)⟩
theorem Wg.news_at {K:Nat→Prop} {W w:World} {v:Value} {l:List Int} (h:Wg K W v l) (hK:∀ k,K k→k<W.heap.size) (hk:Wf (fun k=>k<W.heap.size) W w):VG w v l.length (l.map (Value.int .i64)) :=
 (h.keep (hk.mono hK) (fun _ h=>h)).news
theorem WD.snews {F:Fx} {W w:World} {x:St} (h:WD F W x) (hk:Wf (fun k=>k<W.heap.size) W w) {A:Option Addr} {c d:Nat} (hs:x.sv=.slice A x.s.length c) (hd:d≤x.s.length):VG w (.slice A d c) d ((x.s.take d).map (Value.int .i64)):=by
 rcases h.so.2 with ⟨h1,h2⟩|⟨g,cap,cur,h1,_⟩
 ·rw[hs]at h1;simp only[vI]at h1;obtain⟨rfl,h3,rfl⟩:=h1;obtain rfl:d=0:=by omega
  exact .inl ⟨rfl,rfl,by simp⟩
 ·rw[hs]at h1;simp only[vI]at h1;obtain⟨rfl,_,rfl⟩:=h1;have h0:=h.so;rw[hs]at h0;have hg:g<W.heap.size:=(h0.lt g rfl).2;refine .inr ⟨_,c,rfl,fun j u hu=>?_⟩;rw[add_lit0];rcases Nat.lt_or_ge j d with hj|hj
  ·rw[hk.cell (p:=⟨g,j,none⟩) hg,h0.cellAt j (by omega)];rw[List.map_take,List.getElem?_take,if_pos hj]at hu;exact hu
  ·rw[List.getElem?_eq_none (by simp;omega)]at hu;cases hu
theorem WP (l:List Int):∀ u ∈ l.map (Value.int .i64),u.oneCell'=true:=by
 intro u hu;obtain⟨x,_,rfl⟩:=List.mem_map.1 hu;rfl
def Num (x x':St) (ds dc:Nat):Prop:=x'.s.length=x.s.length+ds∧x'.c.length=x.c.length+dc∧x'.nl=x.nl∧x'.left=x.left
theorem Num.trans {x y z:St} {a b c d:Nat} (h:Num x y a b) (k:Num y z c d):Num x z (a+c) (b+d):=by
 exact ZbX
def Vs (x:St) (B:Nat):Prop:=x.s.length+x.c.length≤B
theorem Vs.num {x x':St} {B a b:Nat} (h:Vs x B) (hn:Num x x' a b):Vs x' (B+a+b):=by
 obtain⟨h1,h2,_⟩:=hn;unfold Vs at h ⊢;omega
theorem Vs.le {x:St} {B C:Nat} (h:Vs x B) (hB:B≤C):Vs x C:=Nat.le_trans h hB
theorem Vs.s {x:St} {B:Nat} (h:Vs x B):x.s.length≤B:=by unfold Vs at h;omega
theorem Vs.c {x:St} {B:Nat} (h:Vs x B):x.c.length≤B:=by unfold Vs at h;omega
def Up (x x':St) (d:Nat):Prop:=x.s.length≤x'.s.length∧x'.s.length+x'.c.length≤x.s.length+x.c.length+d∧x'.nl=x.nl∧x'.left=x.left
theorem Up.refl (x:St):Up x x 0:=⟨nR _,nR _,rfl,rfl⟩
theorem Num.up {x x':St} {a b:Nat} (h:Num x x' a b):Up x x' (a+b):=by
 obtain⟨h1,h2,h3,h4⟩:=h;exact⟨by omega,by omega,h3,h4⟩
theorem Up.trans {x y z:St} {d e:Nat} (h:Up x y d) (k:Up y z e):Up x z (d+e):=by
 exact ZbX
theorem Up.le {x y:St} {d e:Nat} (h:Up x y d) (hd:d≤e):Up x y e:=⟨h.1,by have:=h.2.1;omega,h.2.2⟩
theorem Vs.up {x x':St} {B d:Nat} (h:Vs x B) (hn:Up x x' d):Vs x' (B+d):=by
 exact Zb6
def GPost (F:Fx) (w:World) (x:St) (v:Value) (R:St→Prop) (e:Ending) (w':World):Prop:=e=.returned v∧∃ x',WD F w' x'∧Wv F w x w' x'∧R x'
end
section
open Go.RowKit
theorem Zby {P:Prop}(h:P:=by
 have:(j+1) * size≤n * size:=Nat.mul_le_mul_right size hj;rw[Nat.succ_mul]at this;omega):P:=h
structure VV where
 op:Int
 a:Int
 b:Int
 n:Int
 l:List Int
structure Fnc where
 ty:Int
 loc:List Int
 code:List VV
structure Dat where
 act:Bool
 mem:Int
 pos:Int
 bytes:List Nat
structure W8 where
 types:List (List Int×List Int)
 imps:List (ByteArray×ByteArray×Int)
 funs:List Fnc
 mems:List (Int×Int)
 globs:List (Int×Bool×Int)
 exps:List (ByteArray×Int×Int)
 datas:List Dat
 cus:List (ByteArray×List Nat)
def VK (z:Int):Prop:=0≤z∧z≤18446744073709551615
def fitN (n:Nat):Prop:=n * 8≤140737488355328
def UJ (K:Nat→Prop) (w:World) (v:Value) (l:List Nat):Prop :=
 ∃ A c,v=.slice A l.length c∧l.length≤maxLen∧l.length≤c∧(A=none→c=0)∧(0<l.length→∃ g o:Nat,A=some ⟨g,o,none⟩∧K g∧∀ j,j<l.length→w.cell? ⟨g,o+j,none⟩=some (.int .u8 ((l.getD j 0:Nat):Int)))∧∀ b ∈ l,b<256
theorem UJ.keep {K K':Nat→Prop} {w w':World} {v:Value} {l:List Nat} (h:UJ K w v l) (hk:Wf K w w') (hm:∀ k,K k→K' k):UJ K' w' v l:=by
 obtain⟨A,c,rfl,h1,hc,h0,h3,hb⟩:=h;refine⟨A,c,rfl,h1,hc,h0,fun hl=>?_,hb⟩;exact ZbK
theorem UJ.nil (K:Nat→Prop) (w:World):UJ K w (.slice none 0 0) []:=⟨none,0,rfl,nZ _,nZ _,fun _=>rfl,fun h=>by simp at h,fun _ h=>by cases h⟩
def WR (K:Nat→Prop) (w:World) (x:VV):Nat→Value→Prop
 | 0,u=>u=.int .i64 x.op
 | 1,u=>u=.int .i64 x.a
 | 2,u=>u=.int .i64 x.b
 | 3,u=>u=.int .u64 x.n∧VK x.n
 | _,u=>Wg K w u x.l∧fitN x.l.length
def ins0:VV:=⟨0,0,0,0,[]⟩
def Vh (K:Nat→Prop) (w:World) (v:Value) (c:List VV):Prop:=Wd K w v c.length 5 fun j i u=>WR K w (c.getD j ins0) i u
theorem WR.keep {K K':Nat→Prop} {w w':World} {x:VV} {i:Nat} {u:Value} (h:WR K w x i u) (hk:Wf K w w') (hm:∀ k,K k→K' k):WR K' w' x i u:=by
 match i,h with
 | 0,h=>exact h
 | 1,h=>exact h
 | 2,h=>exact h
 | 3,h=>exact h
 | _+4,h=>exact⟨Wg.keep h.1 hk hm,h.2⟩
theorem Vh.keep {K K':Nat→Prop} {w w':World} {v:Value} {c:List VV} (h:Vh K w v c) (hk:Wf K w w') (hm:∀ k,K k→K' k):Vh K' w' v c :=
 Wd.keep h hk hm fun _ _ _ h=>h.keep hk hm
def VU (K:Nat→Prop) (w:World) (x:Fnc):Nat→Value→Prop
 | 0,u=>u=.int .i64 x.ty
 | 1,u=>Wg K w u x.loc
 | _,u=>Vh K w u x.code
def VF:Fnc:=⟨0,[],[]⟩
def FunsK (K:Nat→Prop) (w:World) (v:Value) (l:List Fnc):Prop:=Wd K w v l.length 3 fun j i u=>VU K w (l.getD j VF) i u
theorem VU.keep {K K':Nat→Prop} {w w':World} {x:Fnc} {i:Nat} {u:Value} (h:VU K w x i u) (hk:Wf K w w') (hm:∀ k,K k→K' k):VU K' w' x i u:=by
 match i,h with
 | 0,h=>exact h
 | 1,h=>exact Wg.keep h hk hm
 | _+2,h=>exact Vh.keep h hk hm
theorem FunsK.keep {K K':Nat→Prop} {w w':World} {v:Value} {l:List Fnc} (h:FunsK K w v l) (hk:Wf K w w') (hm:∀ k,K k→K' k):FunsK K' w' v l :=
 Wd.keep h hk hm fun _ _ _ h=>h.keep hk hm
def impCell (x:ByteArray×ByteArray×Int):Nat→Value→Prop
 | 0,u=>u=.string x.1
 | 1,u=>u=.string x.2.1
 | _,u=>u=.int .i64 x.2.2
def ImpsK (K:Nat→Prop) (w:World) (v:Value) (l:List (ByteArray×ByteArray×Int)):Prop:=Wd K w v l.length 3 fun j i u=>impCell (l.getD j (ByteArray.empty,ByteArray.empty,0)) i u
def memCell (x:Int×Int):Nat→Value→Prop
 | 0,u=>u=.int .i64 x.1
 | _,u=>u=.int .i64 x.2
def MemsK (K:Nat→Prop) (w:World) (v:Value) (l:List (Int×Int)):Prop:=Wd K w v l.length 2 fun j i u=>memCell (l.getD j (0,0)) i u
def VX (x:Int×Bool×Int):Nat→Value→Prop
 | 0,u=>u=.int .i64 x.1
 | 1,u=>u=.bool x.2.1
 | _,u=>u=.int .u64 x.2.2∧VK x.2.2
def GlobsK (K:Nat→Prop) (w:World) (v:Value) (l:List (Int×Bool×Int)):Prop:=Wd K w v l.length 3 fun j i u=>VX (l.getD j (0,false,0)) i u
def expCell (x:ByteArray×Int×Int):Nat→Value→Prop
 | 0,u=>u=.string x.1
 | 1,u=>u=.int .i64 x.2.1
 | _,u=>u=.int .i64 x.2.2
def ExpsK (K:Nat→Prop) (w:World) (v:Value) (l:List (ByteArray×Int×Int)):Prop:=Wd K w v l.length 3 fun j i u=>expCell (l.getD j (ByteArray.empty,0,0)) i u
def dat0:Dat:=⟨false,0,0,[]⟩
def UI (K:Nat→Prop) (w:World) (x:Dat):Nat→Value→Prop
 | 0,u=>u=.bool x.act
 | 1,u=>u=.int .i64 x.mem
 | 2,u=>u=.int .i64 x.pos
 | _,u=>UJ K w u x.bytes
def Vp (K:Nat→Prop) (w:World) (v:Value) (l:List Dat):Prop:=Wd K w v l.length 4 fun j i u=>UI K w (l.getD j dat0) i u
theorem UI.keep {K K':Nat→Prop} {w w':World} {x:Dat} {i:Nat} {u:Value} (h:UI K w x i u) (hk:Wf K w w') (hm:∀ k,K k→K' k):UI K' w' x i u:=by
 match i,h with
 | 0,h=>exact h
 | 1,h=>exact h
 | 2,h=>exact h
 | _+3,h=>exact UJ.keep h hk hm
theorem Vp.keep {K K':Nat→Prop} {w w':World} {v:Value} {l:List Dat} (h:Vp K w v l) (hk:Wf K w w') (hm:∀ k,K k→K' k):Vp K' w' v l :=
 Wd.keep h hk hm fun _ _ _ h=>h.keep hk hm
def UM (K:Nat→Prop) (w:World) (x:ByteArray×List Nat):Nat→Value→Prop
 | 0,u=>u=.string x.1
 | _,u=>UJ K w u x.2
def CusK (K:Nat→Prop) (w:World) (v:Value) (l:List (ByteArray×List Nat)):Prop:=Wd K w v l.length 2 fun j i u=>UM K w (l.getD j (ByteArray.empty,[])) i u
theorem UM.keep {K K':Nat→Prop} {w w':World} {x:ByteArray×List Nat} {i:Nat} {u:Value} (h:UM K w x i u) (hk:Wf K w w') (hm:∀ k,K k→K' k):UM K' w' x i u:=by
 match i,h with
 | 0,h=>exact h
 | _+1,h=>exact UJ.keep h hk hm
theorem CusK.keep {K K':Nat→Prop} {w w':World} {v:Value} {l:List (ByteArray×List Nat)} (h:CusK K w v l) (hk:Wf K w w') (hm:∀ k,K k→K' k):CusK K' w' v l :=
 Wd.keep h hk hm fun _ _ _ h=>h.keep hk hm
structure Mv where
 m0:Value
 m1:Value
 m2:Value
 m3:Value
 m4:Value
 m5:Value
 m6:Value
 m7:Value
def Mv.cells (v:Mv):Array Value:=#[v.m0,v.m1,v.m2,v.m3,v.m4,v.m5,v.m6,v.m7]
structure WQ (K:Nat→Prop) (w:World) (v:Mv) (m:W8):Prop where
 types:Vo K w v.m0 m.types
 imps:ImpsK K w v.m1 m.imps
 funs:FunsK K w v.m2 m.funs
 mems:MemsK K w v.m3 m.mems
 globs:GlobsK K w v.m4 m.globs
 exps:ExpsK K w v.m5 m.exps
 datas:Vp K w v.m6 m.datas
 cus:CusK K w v.m7 m.cus
theorem WQ.keep {K K':Nat→Prop} {w w':World} {v:Mv} {m:W8} (h:WQ K w v m) (hk:Wf K w w') (hm:∀ k,K k→K' k):WQ K' w' v m :=
 ⟨h.types.keep hk hm,h.imps.keep hk hm (fun _ _ _ h=>h),h.funs.keep hk hm,h.mems.keep hk hm (fun _ _ _ h=>h),h.globs.keep hk hm (fun _ _ _ h=>h),h.exps.keep hk hm (fun _ _ _ h=>h),h.datas.keep hk hm,h.cus.keep hk hm⟩
theorem Ua {K:Nat→Prop} {w:World} {base size:Nat} {e:TypeId} {v:Value} {n:Nat} {xs:List Value} (h:w.ownsRow base e size v n xs) (f:Nat→Nat→Value→Prop) (hK:∀ g,v.ownBlock=some g→K g) (hf:∀ j i,j<n→i<size→∃ u,xs[j * size+i]?=some u∧f j i u):Wd K w v n size f:=by
 have hl:=h.1;rcases h.2 with ⟨rfl,rfl⟩|⟨g,cap,cur,rfl,h1,h2,h3,h4,h5,h6⟩
 ·exact⟨none,0,rfl,nR _,nZ _,fun _=>rfl,fun h=>by omega⟩
 ·refine⟨_,cap,rfl,h3,h4,(fun h=>by cases h),fun _=>⟨g,0,rfl,hK g rfl,fun j i hj hi=>?_⟩⟩;obtain⟨u,k1,k2⟩:=hf j i hj hi;have hlt:j * size+i<n * size:=by
   exact Zby
  exact⟨u,by rw[Nat.zero_add,h.cellAt _ hlt];exact k1,k2⟩
end
end Go.Proofs.YtepgopnnaeoolaaGreatDoor
