/- A part of the proof. -/
import Derived.Test.YtgmgcadlkebokaaGreatDoorJ1
import Derived.Deep.RegionLaw
import Derived.BigRegion
namespace Go.Proofs.YtgmgcadlkebokaaGreatDoor
section
open Go.RowKit
theorem ZcD {P:Prop}(h:P:=by
 have:=h.symm.trans e;simp only[Option.some.injEq]at this;omega):P:=h
theorem ZcJ {P:Prop}(h:P:=by
 obtain⟨h1,h2,h3,h4⟩:=h;obtain⟨k1,k2,k3,k4⟩:=k;exact⟨by omega,by omega,k3.trans h3,k4.trans h4⟩):P:=h
theorem ZcQ {P:Prop}(h:P:=by
 obtain⟨_,h2,_⟩:=hn;unfold VF at h ⊢;omega):P:=h
def Wb (K:Nat→Prop) (w:World) (v:Value) (n size:Nat) (f:Nat→Nat→Value→Prop):Prop :=
 ∃ A c,v=.slice A n c∧n≤c∧c≤maxLen∧(A=none→c=0)∧(0<n→∃ g o:Nat,A=some ⟨g,o,none⟩∧K g∧∀ j i,j<n→i<size→∃ u,w.cell? ⟨g,o+j * size+i,none⟩=some u∧f j i u)
theorem Wb.keep {K K':Nat→Prop} {w w':World} {v:Value} {n size:Nat} {f f':Nat→Nat→Value→Prop} (h:Wb K w v n size f) (hk:We K w w') (hm:∀ k,K k→K' k) (hf:∀ j i u,f j i u→f' j i u):Wb K' w' v n size f':=by
 obtain⟨A,c,rfl,h1,h2,h0,h3⟩:=h;refine⟨A,c,rfl,h1,h2,h0,fun hl=>?_⟩;obtain⟨g,o,rfl,h4,h5⟩:=h3 hl;refine⟨g,o,rfl,hm g h4,fun j i hj hi=>?_⟩;obtain⟨u,h6,h7⟩:=h5 j i hj hi;exact⟨u,(hk.cell (p:=⟨g,o+j * size+i,none⟩) h4).trans h6,hf j i u h7⟩
def Vn (K:Nat→Prop) (w:World) (v:Value) (ts:List (List Int×List Int)):Prop :=
 Wb K w v ts.length 2 fun j i u=>Wh K w u (if i=0 then (ts.getD j ([],[])).1 else (ts.getD j ([],[])).2)
theorem Vn.keep {K K':Nat→Prop} {w w':World} {v:Value} {ts:List (List Int×List Int)} (h:Vn K w v ts) (hk:We K w w') (hm:∀ k,K k→K' k):Vn K' w' v ts :=
 Wb.keep h hk hm fun _ _ _ h=>Wh.keep h hk hm
def VE (K:Nat→Prop) (w:World) (v:Value) (size p:Nat) (l:List Int):Prop:=Wb K w v l.length size fun j i u=>i=p→u=.int .i64 (l.getD j 0)
theorem VE.keep {K K':Nat→Prop} {w w':World} {v:Value} {size p:Nat} {l:List Int} (h:VE K w v size p l) (hk:We K w w') (hm:∀ k,K k→K' k):VE K' w' v size p l :=
 Wb.keep h hk hm fun _ _ _ h=>h
theorem Wb.some_ {K:Nat→Prop} {w:World} {v:Value} {n size:Nat} {f:Nat→Nat→Value→Prop} (h:Wb K w v n size f) (hn:0<n):∃ g o c:Nat,v=.slice (some ⟨g,o,none⟩) n c∧n≤c∧c≤maxLen:=by
 obtain⟨A,c,rfl,h1,h2,h0,h3⟩:=h;obtain⟨g,o,rfl,_⟩:=h3 hn;exact⟨g,o,c,rfl,h1,h2⟩
theorem Wb.form {K:Nat→Prop} {w:World} {v:Value} {n size:Nat} {f:Nat→Nat→Value→Prop} (h:Wb K w v n size f):∃ A c,v=.slice A n c∧n≤c∧c≤maxLen:=by
 obtain⟨A,c,rfl,h1,h2,_⟩:=h;exact⟨A,c,rfl,h1,h2⟩
theorem Wb.at_ {K:Nat→Prop} {w:World} {g o m n c size:Nat} {f:Nat→Nat→Value→Prop} (h:Wb K w (.slice (some ⟨g,o,none⟩) m c) n size f) (j i:Nat) (hj:j<n) (hi:i<size):∃ u,w.cell? ⟨g,o+j * size+i,none⟩=some u∧f j i u:=by
 obtain⟨A,c',he,h1,h2,h0,h3⟩:=h;simp only[vI]at he;obtain⟨rfl,rfl,rfl⟩:=he;obtain⟨g',o',he,_,h5⟩:=h3 (by omega);simp only[Option.some.injEq,Addr.mk.injEq]at he;obtain⟨rfl,rfl,_⟩:=he;exact h5 j i hj hi
theorem VE.at_ {K:Nat→Prop} {w:World} {g o m c size p:Nat} {l:List Int} (h:VE K w (.slice (some ⟨g,o,none⟩) m c) size p l) (j:Nat) (hj:j<l.length) (hp:p<size):w.cell? ⟨g,o+j * size+p,none⟩=some (.int .i64 (l.getD j 0)):=by
 obtain⟨u,h1,h2⟩:=Wb.at_ h j p hj hp;rw[h1,h2 rfl]
def LabsK (K:Nat→Prop) (w:World) (v:Value) (n:Nat):Prop:=Wb K w v n 1 fun _ _ u=>∃ l:List Int,l.length≤3∧Wh K w u l
theorem LabsK.keep {K K':Nat→Prop} {w w':World} {v:Value} {n:Nat} (h:LabsK K w v n) (hk:We K w w') (hm:∀ k,K k→K' k):LabsK K' w' v n :=
 Wb.keep h hk hm fun _ _ _ ⟨l,h1,h2⟩=>⟨l,h1,h2.keep hk hm⟩
def LenK (v:Value) (n:Nat):Prop:=∃ A c,v=.slice A n c∧n≤c∧c≤maxLen
structure Iv where
 op:Int
 a:Int
 b:Int
 n:Int
 l:Value
def Iv.cells (x:Iv):List Value:=[.int .i64 x.op,.int .i64 x.a,.int .i64 x.b,.int .u64 x.n,x.l]
def flat (c:List Iv):List Value:=c.flatMap Iv.cells
theorem flat_length (c:List Iv):(flat c).length=c.length * 5:=by
 induction c with
 | nil=>rfl
 | cons x c ih=>simp only[flat,List.flatMap_cons,List.length_append,Iv.cells,List.length_cons,List.length_nil]at ih ⊢;omega
structure Fx where
 G:Nat
 T:Nat
 tv:Value
 tl:List Int
 m0:Value
 m1:Value
 m2:Value
 m3:Value
 m4:Value
 m5:Value
 m6:Value
 m7:Value
 lov:Value
 lo:List Int
 pv:Value
 rv:Value
 ro:List Int
 ts:List (List Int×List Int)
 is:List Int
 fs:List Int
 gs:List Int
 nm:Nat
 nd:Nat
 o:Option (List Nat)
 E:Nat→Prop
structure St where
 sv:Value
 lv:Value
 cv:Value
 at_:Nat
 s:List Int
 nl:Nat
 c:List Iv
 left:Int
def priv (F:Fx) (x:St) (k:Nat):Prop:=k=F.G∨k=F.T∨x.sv.ownBlock=some k∨x.cv.ownBlock=some k
def Ug (F:Fx) (w:World) (x:St) (k:Nat):Prop:=k<w.heap.size∧¬ priv F x k
def Vh (F:Fx) (w:World) (x:St) (k:Nat):Prop:=Ug F w x k∧¬ F.E k
structure Reads (F:Fx) (K:Nat→Prop) (w:World) (lv:Value) (nl:Nat) (c:List Iv):Prop where
 tape:Wh K w F.tv F.tl
 loc:Wh K w F.lov F.lo∧F.lo.length≤100
 own:Wh K w F.rv F.ro∧F.ro.length≤3
 types:Vn K w F.m0 F.ts∧F.ts.length=9∧∀ t ∈ F.ts,t.1.length≤3∧t.2.length≤3
 imps:VE K w F.m1 3 2 F.is∧F.is.length=2∧∀ t ∈ F.is,0≤t∧t<9
 funs:VE K w F.m2 3 0 F.fs∧(0<F.fs.length∧F.fs.length≤4)∧∀ t ∈ F.fs,0≤t∧t<9
 mems:LenK F.m3 F.nm∧F.nm≤3
 globs:VE K w F.m4 3 0 F.gs∧F.gs.length=4
 datas:LenK F.m6 F.nd∧F.nd≤2∧(0<F.nm→F.nd=2)
 labs:LabsK K w lv nl
 code:∀ iv ∈ c,∃ l,Wh K w iv.l l∧okB iv.op iv.a iv.b iv.n l=true
 nest:∀ q,F.o=some q→Uq (c.map Iv.op) []=some q
theorem Reads.keep {F:Fx} {K K':Nat→Prop} {w w':World} {lv:Value} {nl:Nat} {c:List Iv} (h:Reads F K w lv nl c) (hk:We K w w') (hm:∀ k,K k→K' k):Reads F K' w' lv nl c :=
 ⟨h.tape.keep hk hm,⟨h.loc.1.keep hk hm,h.loc.2⟩,⟨h.own.1.keep hk hm,h.own.2⟩,⟨h.types.1.keep hk hm,h.types.2⟩,⟨h.imps.1.keep hk hm,h.imps.2⟩,⟨h.funs.1.keep hk hm,h.funs.2⟩,h.mems,⟨h.globs.1.keep hk hm,h.globs.2⟩,h.datas,h.labs.keep hk hm,fun iv hiv=>by obtain⟨l,hl,ho⟩:=h.code iv hiv;exact⟨l,hl.keep hk hm,ho⟩,h.nest⟩
def gcells (F:Fx) (x:St):Array Value :=
 #[.pointer (some ⟨F.T,0,none⟩),F.m0,F.m1,F.m2,F.m3,F.m4,F.m5,F.m6,F.m7,F.lov,F.pv,F.rv,x.sv,x.lv,x.cv,.int .i64 x.left,.bool true]
structure WJ (F:Fx) (w:World) (x:St):Prop where
 hg:w.heap[F.G]?=some (.cells (gcells F x) 71 (0,0))
 ht:w.heap[F.T]?=some (.cells #[F.tv,.int .i64 (x.at_:Int)] 48 (0,0))
 ne:F.G≠F.T
 so:w.ownsRow 0 3 1 x.sv x.s.length (x.s.map (Value.int .i64))
 sp:∀ g,x.sv.ownBlock=some g→g≠F.G∧g≠F.T∧x.cv.ownBlock≠some g
 co:w.ownsRow 0 26 5 x.cv x.c.length (flat x.c)
 cp:∀ g,x.cv.ownBlock=some g→g≠F.G∧g≠F.T
 le:x.at_≤F.tl.length
 reads:Reads F (Vh F w x) w x.lv x.nl x.c
structure Wt (F:Fx) (w:World) (x:St) (w':World) (x':St):Prop where
 keeps:We (Ug F w x) w w'
 mono:∀ k,Ug F w x k→Ug F w' x' k
theorem Wt.refl (F:Fx) (w:World) (x:St):Wt F w x w x:=⟨.refl _ _,fun _ h=>h⟩
theorem Wt.trans {F:Fx} {a b c:World} {x y z:St} (h:Wt F a x b y) (k:Wt F b y c z):Wt F a x c z :=
 ⟨h.keeps.trans (k.keeps.mono h.mono),fun i hi=>k.mono i (h.mono i hi)⟩
theorem Wt.ints {F:Fx} {w w':World} {x x':St} (h:Wt F w x w' x') {v:Value} {l:List Int} (hv:Wh (Ug F w x) w v l):Wh (Ug F w' x') w' v l:=hv.keep h.keeps h.mono
theorem Wt.rints {F:Fx} {w w':World} {x x':St} (h:Wt F w x w' x') {v:Value} {l:List Int} (hv:Wh (Vh F w x) w v l):Wh (Vh F w' x') w' v l:=hv.keep (h.keeps.mono fun _ h=>h.1) fun k hk=>⟨h.mono k hk.1,hk.2⟩
theorem Wh.wide {F:Fx} {w:World} {x:St} {v:Value} {l:List Int} (h:Wh (Vh F w x) w v l):Wh (Ug F w x) w v l:=h.keep (.refl _ _) fun _ h=>h.1
theorem WJ.below {F:Fx} {w w':World} {x:St} (h:WJ F w x) (hb:Below w.heap.size w w'):WJ F w' x∧Wt F w x w' x:=by
 have hk:We (Ug F w x) w w':=.below hb fun k hk=>hk.1;have hm:∀ k,Ug F w x k→Ug F w' x k:=fun k hk=>⟨WK hk.1 hb.size,hk.2⟩;exact⟨⟨(hb.block _ (Array.getElem?_eq_some_iff.1 h.hg).1).trans h.hg,(hb.block _ (Array.getElem?_eq_some_iff.1 h.ht).1).trans h.ht,h.ne,owns_below h.so hb,h.sp,owns_below h.co hb,h.cp,h.le,h.reads.keep (hk.mono fun _ h=>h.1) fun k hk=>⟨hm k hk.1,hk.2⟩⟩,hk,hm⟩
structure TapeTo (T:Nat) (w w':World) (tv:Value) (k:Nat):Prop where
 os:w'.os=w.os
 tape:w'.tape=w.tape
 output:w'.output=w.output
 size:w'.heap.size=w.heap.size
 block:∀ b,b≠T→w'.heap[b]?=w.heap[b]?
 at_:w'.heap[T]?=some (.cells #[tv,.int .i64 (k:Int)] 48 (0,0))
theorem WJ.next {F:Fx} {w w':World} {x:St} (h:WJ F w x) {k:Nat} (ht:TapeTo F.T w w' F.tv k) (hk:k≤F.tl.length):WJ F w' { x with at_:=k }∧Wt F w x w' { x with at_:=k }:=by
 have hkeep:We (fun b=>b≠F.T) w w':=⟨ht.os,ht.tape,ht.output,by rw[ht.size];exact nR _,ht.block⟩;have hK:We (Ug F w x) w w':=hkeep.mono fun b hb e=>hb.2 (.inr (.inl e));have hm:∀ b,Ug F w x b→Ug F w' { x with at_:=k } b:=fun b hb=>⟨by rw[ht.size];exact hb.1,hb.2⟩;exact⟨⟨(ht.block _ h.ne).trans h.hg,ht.at_,h.ne,Wu h.so hkeep fun g hg=>(h.sp g hg).2.1,h.sp,Wu h.co hkeep fun g hg=>(h.cp g hg).2,h.cp,hk,h.reads.keep (hK.mono fun _ h=>h.1) fun k hk=>⟨hm k hk.1,hk.2⟩⟩,hK,hm⟩
theorem Wi (w:World) (g o:Nat) (cs:Array Value) (t:TypeId) (u:Value) (h:w.heap[g]?=some (.cells cs t (0,0))):(w.setCell ⟨g,o,none⟩ u).heap[g]?=some (.cells (cs.setIfInBounds o u) t (0,0)):=by
 simp[World.setCell,Array.getElem?_modify,h]
theorem WJ.store {F:Fx} {W w:World} {x x':St} (h:WJ F W x) (hk:We (fun k=>k<W.heap.size∧x.sv.ownBlock≠some k∧x.cv.ownBlock≠some k) W w) (o:Nat) (u:Value) (hc:(gcells F x).setIfInBounds o u=gcells F x') (ha:x'.at_=x.at_)
 (hs:w.ownsRow 0 3 1 x'.sv x'.s.length (x'.s.map (Value.int .i64))) (hsp:∀ g,x'.sv.ownBlock=some g→g≠F.G∧g≠F.T∧x'.cv.ownBlock≠some g)
 (hco:w.ownsRow 0 26 5 x'.cv x'.c.length (flat x'.c)) (hcp:∀ g,x'.cv.ownBlock=some g→g≠F.G∧g≠F.T)
 (hm:∀ k,priv F x' k→priv F x k∨W.heap.size≤k) (hr:Reads F (Vh F w x') w x'.lv x'.nl x'.c):WJ F (w.setCell ⟨F.G,o,none⟩ u) x'∧Wt F W x (w.setCell ⟨F.G,o,none⟩ u) x':=by
 have hsz:(w.setCell ⟨F.G,o,none⟩ u).heap.size=w.heap.size:=by simp[World.setCell]
 have hk0:We (fun b=>b≠F.G) w (w.setCell ⟨F.G,o,none⟩ u):=.setCell w (fun e=>e rfl) u;have hGW:F.G<W.heap.size:=(Array.getElem?_eq_some_iff.1 h.hg).1;have hTW:F.T<W.heap.size:=(Array.getElem?_eq_some_iff.1 h.ht).1;have hg:w.heap[F.G]?=some (.cells (gcells F x) 71 (0,0)):=(hk.block F.G ⟨hGW,fun e=>(h.sp _ e).1 rfl,fun e=>(h.cp _ e).1 rfl⟩).trans h.hg;have ht:w.heap[F.T]?=some (.cells #[F.tv,.int .i64 (x.at_:Int)] 48 (0,0)):=(hk.block F.T ⟨hTW,fun e=>(h.sp _ e).2.1 rfl,fun e=>(h.cp _ e).2 rfl⟩).trans h.ht;have hK:We (Ug F W x) W (w.setCell ⟨F.G,o,none⟩ u):=(hk.mono fun b hb=>⟨hb.1,fun e=>hb.2 (.inr (.inr (.inl e))),fun e=>hb.2 (.inr (.inr (.inr e)))⟩).trans ((hk0.mono fun b hb=>fun e=>hb.2 (.inl e)):We (Ug F W x) _ _);have hM:∀ k,Ug F W x k→Ug F (w.setCell ⟨F.G,o,none⟩ u) x' k:=fun k hk'=>⟨by rw[hsz];exact WK hk'.1 hk.size,fun hp=>by
  rcases hm k hp with h1|h1
  ·exact hk'.2 h1
  ·exact absurd hk'.1 (Nat.not_lt_of_le h1)⟩
 have hR:∀ k,Ug F w x' k→Ug F (w.setCell ⟨F.G,o,none⟩ u) x' k:=fun k hk'=>⟨by rw[hsz];exact hk'.1,hk'.2⟩;refine⟨⟨by rw[Wi w F.G o _ _ u hg,hc],(hk0.block _ (fun e=>h.ne e.symm)).trans (by rw[ha];exact ht),h.ne,Wu hs hk0 fun g hg=>(hsp g hg).1,hsp,Wu hco hk0 fun g hg=>(hcp g hg).1,hcp,by rw[ha];exact h.le,hr.keep (hk0.mono fun b hb e=>hb.1.2 (.inl e)) fun k hk=>⟨hR k hk.1,hk.2⟩⟩,hK,hM⟩
theorem reads_on {F:Fx} {W w:World} {x x':St} (hk:We (fun k=>k<W.heap.size∧x.sv.ownBlock≠some k∧x.cv.ownBlock≠some k) W w) (hm:∀ k,priv F x' k→priv F x k∨W.heap.size≤k) :
 We (Vh F W x) W w∧∀ k,Vh F W x k→Vh F w x' k :=
 ⟨hk.mono fun b hb=>⟨hb.1.1,fun e=>hb.1.2 (.inr (.inr (.inl e))),fun e=>hb.1.2 (.inr (.inr (.inr e)))⟩,fun k hk'=>⟨⟨WK hk'.1.1 hk.size,fun hp=>by
  rcases hm k hp with h1|h1
  ·exact hk'.1.2 h1
  ·exact absurd hk'.1.1 (Nat.not_lt_of_le h1)⟩,hk'.2⟩⟩
theorem flat_snoc (c:List Iv) (i:Iv):flat (c++[i])=flat c++i.cells:=by simp[flat]
theorem WJ.lts {F:Fx} {w:World} {x:St} (h:WJ F w x):F.G<w.heap.size∧F.T<w.heap.size∧(∀ g,x.sv.ownBlock=some g→g<w.heap.size)∧∀ g,x.cv.ownBlock=some g→g<w.heap.size :=
 ⟨(Array.getElem?_eq_some_iff.1 h.hg).1,(Array.getElem?_eq_some_iff.1 h.ht).1,fun g hg=>(h.so.lt g hg).2,fun g hg=>(h.co.lt g hg).2⟩
theorem WJ.pushC {F:Fx} {W w:World} {x:St} (h:WJ F W x) (o:Obj) (hgr:(W.alloc o).grownBy w x.cv.ownBlock) (i:Iv) (v:Value) (hown:w.ownsRow 0 26 5 v (x.c.length+1) (flat x.c++i.cells))
 (hat:v.ownBlock=x.cv.ownBlock∨v.ownBlock=some (W.alloc o).heap.size) (hl:∃ q,Wh (Vh F W x) W i.l q∧okB i.op i.a i.b i.n q=true) (hF:F.o=none) :
 WJ F (w.setCell ⟨F.G,14,none⟩ v) { x with cv:=v,c:=x.c++[i] }∧Wt F W x (w.setCell ⟨F.G,14,none⟩ v) { x with cv:=v,c:=x.c++[i] }:=by
 obtain⟨l1,l2,l3,l4⟩:=h.lts;have hsz:(W.alloc o).heap.size=W.heap.size+1:=by simp
 have hka:We (fun k=>k<W.heap.size) W (W.alloc o):=.alloc W (fun _ h=>h) o;have hkg:We (fun k=>k<W.heap.size∧x.cv.ownBlock≠some k) (W.alloc o) w:=.mono (.grown (K:=fun k=>k<W.heap.size∧x.cv.ownBlock≠some k) hgr (fun k hk=>by rw[hsz];have:=hk.1;omega) (fun k e hk=>hk.2 e)) fun _ h=>h;have hkk:We (fun k=>k<W.heap.size∧x.cv.ownBlock≠some k) W w:=(hka.mono fun _ h=>h.1).trans hkg;have hk:We (fun k=>k<W.heap.size∧x.sv.ownBlock≠some k∧x.cv.ownBlock≠some k) W w:=hkk.mono fun _ h=>⟨h.1,h.2.2⟩;have hm:∀ k,priv F { x with cv:=v,c:=x.c++[i] } k→priv F x k∨W.heap.size≤k:=by
  rintro k (e|e|e|e)
  ·exact .inl (.inl e)
  ·exact .inl (.inr (.inl e))
  ·exact .inl (.inr (.inr (.inl e)))
  ·rcases hat with h1|h1
   ·exact .inl (.inr (.inr (.inr (h1 ▸ e))))
   ·exact .inr (by have:=h1.symm.trans e;simp only[Option.some.injEq]at this;omega)
 obtain⟨r1,r2⟩:=reads_on hk hm;refine h.store hk 14 v (by rfl) rfl (Wu h.so hkk fun g hg=>⟨l3 g hg,(h.sp g hg).2.2⟩) (fun g hg=>⟨(h.sp g hg).1,(h.sp g hg).2.1,fun e=>?_⟩) (by rw[List.length_append,flat_snoc];exact hown) (fun g hg=>?_) hm ?_
 ·rcases hat with h1|h1
  ·exact(h.sp g hg).2.2 (h1 ▸ e)
  ·have e2:some (W.alloc o).heap.size=some g:=h1.symm.trans e;simp only[Option.some.injEq]at e2;have:=l3 g hg;omega
 ·rcases hat with h1|h1
  ·exact h.cp g (h1 ▸ hg)
  ·have e2:some (W.alloc o).heap.size=some g:=h1.symm.trans hg;simp only[Option.some.injEq]at e2;exact⟨by omega,by omega⟩
 ·have hr:=h.reads.keep r1 r2;exact⟨hr.tape,hr.loc,hr.own,hr.types,hr.imps,hr.funs,hr.mems,hr.globs,hr.datas,hr.labs,fun j hj=>by
   rcases List.mem_append.1 hj with hj|hj
   ·exact hr.code j hj
   ·obtain rfl:=List.mem_singleton.1 hj;obtain⟨q,hq,ho⟩:=hl;exact⟨q,hq.keep r1 r2,ho⟩,fun q hq=>by rw[hF]at hq;cases hq⟩
theorem WJ.reo {F:Fx} {w:World} {x:St} (h:WJ F w x) (o:Option (List Nat)) (ho:∀ q,o=some q→Uq (x.c.map Iv.op) []=some q):WJ { F with o:=o } w x :=
 ⟨h.hg,h.ht,h.ne,h.so,h.sp,h.co,h.cp,h.le,⟨h.reads.tape,h.reads.loc,h.reads.own,h.reads.types,h.reads.imps,h.reads.funs,h.reads.mems,h.reads.globs,h.reads.datas,h.reads.labs,h.reads.code,ho⟩⟩
theorem WJ.setS {F:Fx} {W w:World} {x:St} (h:WJ F W x) (hk:We (fun k=>k<W.heap.size∧x.sv.ownBlock≠some k) W w) (v:Value) (s:List Int) (hown:w.ownsRow 0 3 1 v s.length (s.map (Value.int .i64)))
 (hat:v.ownBlock=x.sv.ownBlock∨∀ g,v.ownBlock=some g→W.heap.size≤g) :
 WJ F (w.setCell ⟨F.G,12,none⟩ v) { x with sv:=v,s:=s }∧Wt F W x (w.setCell ⟨F.G,12,none⟩ v) { x with sv:=v,s:=s }:=by
 obtain⟨l1,l2,l3,l4⟩:=h.lts;have hk2:We (fun k=>k<W.heap.size∧x.sv.ownBlock≠some k∧x.cv.ownBlock≠some k) W w:=hk.mono fun _ h=>⟨h.1,h.2.1⟩;have hm:∀ k,priv F { x with sv:=v,s:=s } k→priv F x k∨W.heap.size≤k:=by
  rintro k (e|e|e|e)
  ·exact .inl (.inl e)
  ·exact .inl (.inr (.inl e))
  ·rcases hat with h1|h1
   ·exact .inl (.inr (.inr (.inl (h1 ▸ e))))
   ·exact .inr (h1 k e)
  ·exact .inl (.inr (.inr (.inr e)))
 obtain⟨r1,r2⟩:=reads_on hk2 hm;refine h.store hk2 12 v (by rfl) rfl hown (fun g hg=>?_) (Wu h.co hk fun g hg=>⟨l4 g hg,fun e=>(h.sp g e).2.2 hg⟩) h.cp hm (h.reads.keep r1 r2);rcases hat with h1|h1
 ·exact h.sp g (h1 ▸ hg)
 ·have:=h1 g hg;exact⟨by omega,by omega,fun e=>by have:=l4 g e;omega⟩
theorem WJ.pushS {F:Fx} {W w:World} {x:St} (h:WJ F W x) (o:Obj) (hgr:(W.alloc o).grownBy w x.sv.ownBlock) (t:Int) (v:Value) (hown:w.ownsRow 0 3 1 v (x.s.length+1) (x.s.map (Value.int .i64)++[.int .i64 t]))
 (hat:v.ownBlock=x.sv.ownBlock∨v.ownBlock=some (W.alloc o).heap.size) :
 WJ F (w.setCell ⟨F.G,12,none⟩ v) { x with sv:=v,s:=x.s++[t] }∧Wt F W x (w.setCell ⟨F.G,12,none⟩ v) { x with sv:=v,s:=x.s++[t] }:=by
 have hsz:(W.alloc o).heap.size=W.heap.size+1:=by simp
 have hka:We (fun k=>k<W.heap.size) W (W.alloc o):=.alloc W (fun _ h=>h) o;have hkg:We (fun k=>k<W.heap.size∧x.sv.ownBlock≠some k) (W.alloc o) w:=.grown hgr (fun k hk=>by rw[hsz];have:=hk.1;omega) (fun k e hk=>hk.2 e);refine h.setS ((hka.mono fun _ h=>h.1).trans hkg) v (x.s++[t]) (by rw[List.length_append,List.map_append];exact hown) ?_;rcases hat with h1|h1
 ·exact .inl h1
 ·exact .inr fun g e=>by have:=h1.symm.trans e;simp only[Option.some.injEq]at this;omega
section
variable {F:Fx} {w:World} {x:St}
theorem WJ.cell (h:WJ F w x) (o:Nat):w.cell? ⟨F.G,o,none⟩=(gcells F x)[o]?:=by simp[World.cell?,h.hg]
theorem WJ.frozen (h:WJ F w x) (o:Nat):w.frozen? ⟨F.G,o,none⟩=false:=by simp[World.frozen?,h.hg]
theorem WJ.c0 (h:WJ F w x):w.cell? ⟨F.G,0,none⟩=some (.pointer (some ⟨F.T,0,none⟩)):=h.cell 0
theorem WJ.c1 (h:WJ F w x):w.cell? ⟨F.G,1,none⟩=some F.m0:=h.cell 1
theorem WJ.c2 (h:WJ F w x):w.cell? ⟨F.G,2,none⟩=some F.m1:=h.cell 2
theorem WJ.c3 (h:WJ F w x):w.cell? ⟨F.G,3,none⟩=some F.m2:=h.cell 3
theorem WJ.c4 (h:WJ F w x):w.cell? ⟨F.G,4,none⟩=some F.m3:=h.cell 4
theorem WJ.c5 (h:WJ F w x):w.cell? ⟨F.G,5,none⟩=some F.m4:=h.cell 5
theorem WJ.c6 (h:WJ F w x):w.cell? ⟨F.G,6,none⟩=some F.m5:=h.cell 6
theorem WJ.c7 (h:WJ F w x):w.cell? ⟨F.G,7,none⟩=some F.m6:=h.cell 7
theorem WJ.c8 (h:WJ F w x):w.cell? ⟨F.G,8,none⟩=some F.m7:=h.cell 8
theorem WJ.c9 (h:WJ F w x):w.cell? ⟨F.G,9,none⟩=some F.lov:=h.cell 9
theorem WJ.c11 (h:WJ F w x):w.cell? ⟨F.G,11,none⟩=some F.rv:=h.cell 11
theorem WJ.c12 (h:WJ F w x):w.cell? ⟨F.G,12,none⟩=some x.sv:=h.cell 12
theorem WJ.c13 (h:WJ F w x):w.cell? ⟨F.G,13,none⟩=some x.lv:=h.cell 13
theorem WJ.c14 (h:WJ F w x):w.cell? ⟨F.G,14,none⟩=some x.cv:=h.cell 14
theorem WJ.c15 (h:WJ F w x):w.cell? ⟨F.G,15,none⟩=some (.int .i64 x.left):=h.cell 15
theorem WJ.sform (h:WJ F w x):∃ A c,x.sv=.slice A x.s.length c∧x.s.length≤c∧c≤maxLen:=by
 rcases h.so.2 with ⟨h1,h2⟩|⟨g,cap,cur,h1,_,_,h2,h3,_⟩
 ·exact⟨none,0,by rw[h1,h2],by omega,by unfold maxLen;omega⟩
 ·exact⟨_,cap,h1,h2,h3⟩
theorem WJ.new_free (h:WJ F w x) {k:Nat} (hk:w.heap.size≤k):¬ priv F x k:=by
 obtain⟨l1,l2,l3,l4⟩:=h.lts;rintro(e|e|e|e)
 ·omega
 ·omega
 ·have:=l3 k e;omega
 ·have:=l4 k e;omega
theorem WJ.alloc (h:WJ F w x) (o:Obj):WJ F (w.alloc o) x∧Wt F w x (w.alloc o) x:=h.below ((bR _ _).alloc (nR _) o)
theorem WJ.new_cell (h:WJ F w x) (cs:Array Value) (t:TypeId) {w':World} {x':St} (hs:Wt F (w.alloc (.cells cs t)) x w' x') (j:Nat):w'.cell? ⟨w.heap.size,j,none⟩=cs[j]? :=
 (hs.keeps.cell (p:=⟨w.heap.size,j,none⟩) ⟨by simp,h.new_free (nR _)⟩).trans (wN w cs t j)
theorem WJ.drew (h:WJ F w x):WJ F w.drew x∧Wt F w x w.drew x:=h.below ((bR _ _).drew)
theorem WJ.pushf (h:WJ F w x) (o:Obj):(w.alloc o).cell? ⟨F.G,12,none⟩=some x.sv∧∀ w2,(w.alloc o).grownBy w2 x.sv.ownBlock→w2.cell? ⟨F.G,12,none⟩=some x.sv∧w2.frozen? ⟨F.G,12,none⟩=false:=by
 have hG:=h.lts.1;refine⟨by rw[World.cell?_alloc_lt _ _ _ (by exact hG)];exact h.c12,fun w2 hgr=>?_⟩;have hb:w2.heap[F.G]?=w.heap[F.G]?:=(hgr.block F.G (by simp;omega) (fun e=>(h.sp _ e.symm).1 rfl)).trans (Below.heap_alloc w o _ hG);exact⟨(World.cell?_of_block (w:=w) (a:=⟨F.G,12,none⟩) hb).trans h.c12,(World.frozen?_of_block (w:=w) (a:=⟨F.G,12,none⟩) hb).trans (h.frozen 12)⟩
end
theorem Uk (W:World) (e:TypeId):(W.alloc (.cells #[] e)).ownsRow 0 e 1 (.slice (some ⟨W.heap.size,0,none⟩) 0 0) 0 []:=World.ownsRow_made W #[] 0 (nZ _) (nZ _) rfl
theorem UF {W w1:World} {o:Obj} (hg1:(W.alloc o).grownBy w1 (some W.heap.size)):We (fun k=>k<W.heap.size) W w1 :=
 (We.alloc W (fun _ h=>h) o).trans (.grown hg1 (fun k hk=>by simp;omega) (fun k e hk=>by simp only[Option.some.injEq]at e;omega))
theorem keeps_made2 {W w1 w2:World} {o:Obj} {v1:Value} (hk1:We (fun k=>k<W.heap.size) W w1) (ha1:v1.ownBlock=some W.heap.size∨v1.ownBlock=some (W.alloc o).heap.size) (hg2:w1.grownBy w2 v1.ownBlock):We (fun k=>k<W.heap.size) W w2 :=
 hk1.trans (.grown hg2 (fun k hk=>WK hk hk1.size) (fun k e hk=>by
  have hs:(W.alloc o).heap.size=W.heap.size+1:=by simp
  rcases ha1 with h|h
  ·exact ZcD
  ·have:=h.symm.trans e;simp only[Option.some.injEq]at this;omega))
theorem made_at {W w1:World} {o:Obj} {v1 v2:Value} (hk1:We (fun k=>k<W.heap.size) W w1) (ha1:v1.ownBlock=some W.heap.size∨v1.ownBlock=some (W.alloc o).heap.size) (ha2:v2.ownBlock=v1.ownBlock∨v2.ownBlock=some w1.heap.size):∀ g,v2.ownBlock=some g→W.heap.size≤g:=by
 have hs:(W.alloc o).heap.size=W.heap.size+1:=by simp
 have h1:=hk1.size;intro g hg;rcases ha2 with h|h
 ·rcases ha1 with k|k
  ·have:=(k.symm.trans h.symm).trans hg;simp only[Option.some.injEq]at this;omega
  ·have:=(k.symm.trans h.symm).trans hg;simp only[Option.some.injEq]at this;omega
 ·have:=h.symm.trans hg;simp only[Option.some.injEq]at this;omega
theorem WJ.store12 {F:Fx} {W w:World} {x:St} (h:WJ F W x) (hk:We (fun k=>k<W.heap.size) W w):w.cell? ⟨F.G,12,none⟩=some x.sv∧w.frozen? ⟨F.G,12,none⟩=false :=
 ⟨(World.cell?_of_block (w:=W) (a:=⟨F.G,12,none⟩) (hk.block F.G h.lts.1)).trans h.c12,(World.frozen?_of_block (w:=W) (a:=⟨F.G,12,none⟩) (hk.block F.G h.lts.1)).trans (h.frozen 12)⟩
theorem Wh.news_at {K:Nat→Prop} {W w:World} {v:Value} {l:List Int} (h:Wh K W v l) (hK:∀ k,K k→k<W.heap.size) (hk:We (fun k=>k<W.heap.size) W w):Vm w v l.length (l.map (Value.int .i64)) :=
 (h.keep (hk.mono hK) (fun _ h=>h)).news
theorem WJ.snews {F:Fx} {W w:World} {x:St} (h:WJ F W x) (hk:We (fun k=>k<W.heap.size) W w) {A:Option Addr} {c d:Nat} (hs:x.sv=.slice A x.s.length c) (hd:d≤x.s.length):Vm w (.slice A d c) d ((x.s.take d).map (Value.int .i64)):=by
 rcases h.so.2 with ⟨h1,h2⟩|⟨g,cap,cur,h1,_⟩
 ·rw[hs]at h1;simp only[vI]at h1;obtain⟨rfl,h3,rfl⟩:=h1;obtain rfl:d=0:=by omega
  exact .inl ⟨rfl,rfl,by simp⟩
 ·rw[hs]at h1;simp only[vI]at h1;obtain⟨rfl,_,rfl⟩:=h1;have h0:=h.so;rw[hs]at h0;have hg:g<W.heap.size:=(h0.lt g rfl).2;refine .inr ⟨_,c,rfl,fun j u hu=>?_⟩;rw[add_lit0];rcases Nat.lt_or_ge j d with hj|hj
  ·rw[hk.cell (p:=⟨g,j,none⟩) hg,h0.cellAt j (by omega)];rw[List.map_take,List.getElem?_take,if_pos hj]at hu;exact hu
  ·rw[List.getElem?_eq_none (by simp;omega)]at hu;cases hu
theorem WV (l:List Int):∀ u ∈ l.map (Value.int .i64),u.oneCell'=true:=by
 intro u hu;obtain⟨x,_,rfl⟩:=List.mem_map.1 hu;rfl
def Num (x x':St) (ds dc:Nat):Prop:=x'.s.length=x.s.length+ds∧x'.c.length=x.c.length+dc∧x'.nl=x.nl∧x'.left=x.left
theorem Num.trans {x y z:St} {a b c d:Nat} (h:Num x y a b) (k:Num y z c d):Num x z (a+c) (b+d):=by
 exact ZcJ
def VF (x:St) (B:Nat):Prop:=x.s.length+x.c.length≤B
theorem VF.num {x x':St} {B a b:Nat} (h:VF x B) (hn:Num x x' a b):VF x' (B+a+b):=by
 obtain⟨h1,h2,_⟩:=hn;unfold VF at h ⊢;omega
theorem VF.le {x:St} {B C:Nat} (h:VF x B) (hB:B≤C):VF x C:=Nat.le_trans h hB
theorem VF.s {x:St} {B:Nat} (h:VF x B):x.s.length≤B:=by unfold VF at h;omega
theorem VF.c {x:St} {B:Nat} (h:VF x B):x.c.length≤B:=by unfold VF at h;omega
def Up (x x':St) (d:Nat):Prop:=x.s.length≤x'.s.length∧x'.s.length+x'.c.length≤x.s.length+x.c.length+d∧x'.nl=x.nl∧x'.left=x.left
theorem Up.refl (x:St):Up x x 0:=⟨nR _,nR _,rfl,rfl⟩
theorem Num.up {x x':St} {a b:Nat} (h:Num x x' a b):Up x x' (a+b):=by
 obtain⟨h1,h2,h3,h4⟩:=h;exact⟨by omega,by omega,h3,h4⟩
theorem Up.trans {x y z:St} {d e:Nat} (h:Up x y d) (k:Up y z e):Up x z (d+e):=by
 exact ZcJ
theorem Up.le {x y:St} {d e:Nat} (h:Up x y d) (hd:d≤e):Up x y e:=⟨h.1,by have:=h.2.1;omega,h.2.2⟩
theorem VF.up {x x':St} {B d:Nat} (h:VF x B) (hn:Up x x' d):VF x' (B+d):=by
 exact ZcQ
def GPost (F:Fx) (w:World) (x:St) (v:Value) (R:St→Prop) (e:Ending) (w':World):Prop:=e=.returned v∧∃ x',WJ F w' x'∧Wt F w x w' x'∧R x'
end
section
open Go.RowKit
theorem Zci {P:Prop}(h:P:=by
 have:(j+1) * size≤n * size:=Nat.mul_le_mul_right size hj;rw[Nat.succ_mul]at this;omega):P:=h
structure Ins where
 op:Int
 a:Int
 b:Int
 n:Int
 l:List Int
structure Fnc where
 ty:Int
 loc:List Int
 code:List Ins
structure Dat where
 act:Bool
 mem:Int
 pos:Int
 bytes:List Nat
structure Vz where
 types:List (List Int×List Int)
 imps:List (ByteArray×ByteArray×Int)
 funs:List Fnc
 mems:List (Int×Int)
 globs:List (Int×Bool×Int)
 exps:List (ByteArray×Int×Int)
 datas:List Dat
 cus:List (ByteArray×List Nat)
def V7 (z:Int):Prop:=0≤z∧z≤18446744073709551615
def fitN (n:Nat):Prop:=n * 8≤140737488355328
def WD (K:Nat→Prop) (w:World) (v:Value) (l:List Nat):Prop :=
 ∃ A c,v=.slice A l.length c∧l.length≤maxLen∧l.length≤c∧(A=none→c=0)∧(0<l.length→∃ g o:Nat,A=some ⟨g,o,none⟩∧K g∧∀ j,j<l.length→w.cell? ⟨g,o+j,none⟩=some (.int .u8 ((l.getD j 0:Nat):Int)))∧∀ b ∈ l,b<256
theorem WD.keep {K K':Nat→Prop} {w w':World} {v:Value} {l:List Nat} (h:WD K w v l) (hk:We K w w') (hm:∀ k,K k→K' k):WD K' w' v l:=by
 obtain⟨A,c,rfl,h1,hc,h0,h3,hb⟩:=h;refine⟨A,c,rfl,h1,hc,h0,fun hl=>?_,hb⟩;exact Zct
theorem WD.nil (K:Nat→Prop) (w:World):WD K w (.slice none 0 0) []:=⟨none,0,rfl,nZ _,nZ _,fun _=>rfl,fun h=>by simp at h,fun _ h=>by cases h⟩
def WN (K:Nat→Prop) (w:World) (x:Ins):Nat→Value→Prop
 | 0,u=>u=.int .i64 x.op
 | 1,u=>u=.int .i64 x.a
 | 2,u=>u=.int .i64 x.b
 | 3,u=>u=.int .u64 x.n∧V7 x.n
 | _,u=>Wh K w u x.l∧fitN x.l.length
def VX:Ins:=⟨0,0,0,0,[]⟩
def WO (K:Nat→Prop) (w:World) (v:Value) (c:List Ins):Prop:=Wb K w v c.length 5 fun j i u=>WN K w (c.getD j VX) i u
theorem WN.keep {K K':Nat→Prop} {w w':World} {x:Ins} {i:Nat} {u:Value} (h:WN K w x i u) (hk:We K w w') (hm:∀ k,K k→K' k):WN K' w' x i u:=by
 match i,h with
 | 0,h=>exact h
 | 1,h=>exact h
 | 2,h=>exact h
 | 3,h=>exact h
 | _+4,h=>exact⟨Wh.keep h.1 hk hm,h.2⟩
theorem WO.keep {K K':Nat→Prop} {w w':World} {v:Value} {c:List Ins} (h:WO K w v c) (hk:We K w w') (hm:∀ k,K k→K' k):WO K' w' v c :=
 Wb.keep h hk hm fun _ _ _ h=>h.keep hk hm
def WP (K:Nat→Prop) (w:World) (x:Fnc):Nat→Value→Prop
 | 0,u=>u=.int .i64 x.ty
 | 1,u=>Wh K w u x.loc
 | _,u=>WO K w u x.code
def WW:Fnc:=⟨0,[],[]⟩
def FunsK (K:Nat→Prop) (w:World) (v:Value) (l:List Fnc):Prop:=Wb K w v l.length 3 fun j i u=>WP K w (l.getD j WW) i u
theorem WP.keep {K K':Nat→Prop} {w w':World} {x:Fnc} {i:Nat} {u:Value} (h:WP K w x i u) (hk:We K w w') (hm:∀ k,K k→K' k):WP K' w' x i u:=by
 match i,h with
 | 0,h=>exact h
 | 1,h=>exact Wh.keep h hk hm
 | _+2,h=>exact WO.keep h hk hm
theorem FunsK.keep {K K':Nat→Prop} {w w':World} {v:Value} {l:List Fnc} (h:FunsK K w v l) (hk:We K w w') (hm:∀ k,K k→K' k):FunsK K' w' v l :=
 Wb.keep h hk hm fun _ _ _ h=>h.keep hk hm
def UR (x:ByteArray×ByteArray×Int):Nat→Value→Prop
 | 0,u=>u=.string x.1
 | 1,u=>u=.string x.2.1
 | _,u=>u=.int .i64 x.2.2
def ImpsK (K:Nat→Prop) (w:World) (v:Value) (l:List (ByteArray×ByteArray×Int)):Prop:=Wb K w v l.length 3 fun j i u=>UR (l.getD j (ByteArray.empty,ByteArray.empty,0)) i u
def memCell (x:Int×Int):Nat→Value→Prop
 | 0,u=>u=.int .i64 x.1
 | _,u=>u=.int .i64 x.2
def MemsK (K:Nat→Prop) (w:World) (v:Value) (l:List (Int×Int)):Prop:=Wb K w v l.length 2 fun j i u=>memCell (l.getD j (0,0)) i u
def Ua (x:Int×Bool×Int):Nat→Value→Prop
 | 0,u=>u=.int .i64 x.1
 | 1,u=>u=.bool x.2.1
 | _,u=>u=.int .u64 x.2.2∧V7 x.2.2
def GlobsK (K:Nat→Prop) (w:World) (v:Value) (l:List (Int×Bool×Int)):Prop:=Wb K w v l.length 3 fun j i u=>Ua (l.getD j (0,false,0)) i u
def expCell (x:ByteArray×Int×Int):Nat→Value→Prop
 | 0,u=>u=.string x.1
 | 1,u=>u=.int .i64 x.2.1
 | _,u=>u=.int .i64 x.2.2
def ExpsK (K:Nat→Prop) (w:World) (v:Value) (l:List (ByteArray×Int×Int)):Prop:=Wb K w v l.length 3 fun j i u=>expCell (l.getD j (ByteArray.empty,0,0)) i u
def VC:Dat:=⟨false,0,0,[]⟩
def Vi (K:Nat→Prop) (w:World) (x:Dat):Nat→Value→Prop
 | 0,u=>u=.bool x.act
 | 1,u=>u=.int .i64 x.mem
 | 2,u=>u=.int .i64 x.pos
 | _,u=>WD K w u x.bytes
def VD (K:Nat→Prop) (w:World) (v:Value) (l:List Dat):Prop:=Wb K w v l.length 4 fun j i u=>Vi K w (l.getD j VC) i u
theorem Vi.keep {K K':Nat→Prop} {w w':World} {x:Dat} {i:Nat} {u:Value} (h:Vi K w x i u) (hk:We K w w') (hm:∀ k,K k→K' k):Vi K' w' x i u:=by
 match i,h with
 | 0,h=>exact h
 | 1,h=>exact h
 | 2,h=>exact h
 | _+3,h=>exact WD.keep h hk hm
theorem VD.keep {K K':Nat→Prop} {w w':World} {v:Value} {l:List Dat} (h:VD K w v l) (hk:We K w w') (hm:∀ k,K k→K' k):VD K' w' v l :=
 Wb.keep h hk hm fun _ _ _ h=>h.keep hk hm
def Vk (K:Nat→Prop) (w:World) (x:ByteArray×List Nat):Nat→Value→Prop
 | 0,u=>u=.string x.1
 | _,u=>WD K w u x.2
def CusK (K:Nat→Prop) (w:World) (v:Value) (l:List (ByteArray×List Nat)):Prop:=Wb K w v l.length 2 fun j i u=>Vk K w (l.getD j (ByteArray.empty,[])) i u
theorem Vk.keep {K K':Nat→Prop} {w w':World} {x:ByteArray×List Nat} {i:Nat} {u:Value} (h:Vk K w x i u) (hk:We K w w') (hm:∀ k,K k→K' k):Vk K' w' x i u:=by
 match i,h with
 | 0,h=>exact h
 | _+1,h=>exact WD.keep h hk hm
theorem CusK.keep {K K':Nat→Prop} {w w':World} {v:Value} {l:List (ByteArray×List Nat)} (h:CusK K w v l) (hk:We K w w') (hm:∀ k,K k→K' k):CusK K' w' v l :=
 Wb.keep h hk hm fun _ _ _ h=>h.keep hk hm
structure Mv where
 m0:Value
 m1:Value
 m2:Value
 m3:Value
 m4:Value
 m5:Value
 m6:Value
 m7:Value
def Mv.cells (v:Mv):Array Value:=#[v.m0,v.m1,v.m2,v.m3,v.m4,v.m5,v.m6,v.m7]
structure WL (K:Nat→Prop) (w:World) (v:Mv) (m:Vz):Prop where
 types:Vn K w v.m0 m.types
 imps:ImpsK K w v.m1 m.imps
 funs:FunsK K w v.m2 m.funs
 mems:MemsK K w v.m3 m.mems
 globs:GlobsK K w v.m4 m.globs
 exps:ExpsK K w v.m5 m.exps
 datas:VD K w v.m6 m.datas
 cus:CusK K w v.m7 m.cus
theorem WL.keep {K K':Nat→Prop} {w w':World} {v:Mv} {m:Vz} (h:WL K w v m) (hk:We K w w') (hm:∀ k,K k→K' k):WL K' w' v m :=
 ⟨h.types.keep hk hm,h.imps.keep hk hm (fun _ _ _ h=>h),h.funs.keep hk hm,h.mems.keep hk hm (fun _ _ _ h=>h),h.globs.keep hk hm (fun _ _ _ h=>h),h.exps.keep hk hm (fun _ _ _ h=>h),h.datas.keep hk hm,h.cus.keep hk hm⟩
theorem Ue {K:Nat→Prop} {w:World} {base size:Nat} {e:TypeId} {v:Value} {n:Nat} {xs:List Value} (h:w.ownsRow base e size v n xs) (f:Nat→Nat→Value→Prop) (hK:∀ g,v.ownBlock=some g→K g) (hf:∀ j i,j<n→i<size→∃ u,xs[j * size+i]?=some u∧f j i u):Wb K w v n size f:=by
 have hl:=h.1;rcases h.2 with ⟨rfl,rfl⟩|⟨g,cap,cur,rfl,h1,h2,h3,h4,h5,h6⟩
 ·exact⟨none,0,rfl,nR _,nZ _,fun _=>rfl,fun h=>by omega⟩
 ·refine⟨_,cap,rfl,h3,h4,(fun h=>by cases h),fun _=>⟨g,0,rfl,hK g rfl,fun j i hj hi=>?_⟩⟩;obtain⟨u,k1,k2⟩:=hf j i hj hi;have hlt:j * size+i<n * size:=by
   exact Zci
  exact⟨u,by rw[Nat.zero_add,h.cellAt _ hlt];exact k1,k2⟩
end
section
open Go.RowKit
set_option maxHeartbeats 1000000
def w30 (p:Int):Int:=if 0≤p∧p≤1073741824 then p else if p.tmod 1073741825<0 then p.tmod 1073741825+1073741825 else p.tmod 1073741825
theorem w30_bounds (p:Int):0≤w30 p∧w30 p≤1073741824:=by
 have t0:=Int.lt_tmod_of_pos p (show(0:Int)<1073741825 by omega);have t1:=Int.tmod_lt_of_pos p (show(0:Int)<1073741825 by omega);unfold w30
 split
 ·omega
 ·split <;> omega
theorem within30 (p:Int) (w:World):Calls Tryz.prog 60 #[.int .i64 p,.int .i64 0,.int .i64 1073741824] w fun e w'=>e=.returned (.int .i64 (w30 p))∧w'=w:=by
 have t0:=Int.lt_tmod_of_pos p (show(0:Int)<1073741825 by omega);have t1:=Int.tmod_lt_of_pos p (show(0:Int)<1073741825 by omega);have hbig:0≤p→w30 p=if p≤1073741824 then p else p % 1073741825:=fun h=>by
  unfold w30;rw[Int.tmod_eq_emod_of_nonneg h];by_cases h2:p≤1073741824
  ·rw[if_pos ⟨h,h2⟩,if_pos h2]
  ·rw[if_neg (by omega),if_neg (by omega),if_neg h2]
 have H0:0≤p→p≤1073741824→w30 p=p:=fun h h2=>by rw[hbig h,if_pos h2]
 have H3:0≤p→¬ p≤1073741824→w30 p=p % 1073741825:=fun h h2=>by rw[hbig h,if_neg h2]
 have H1:¬ 0≤p→p.tmod 1073741825<0→w30 p=p.tmod 1073741825+1073741825:=fun h1 h2=>by unfold w30;rw[if_neg (by omega),if_pos h2]
 have H2:¬ 0≤p→¬ p.tmod 1073741825<0→w30 p=p.tmod 1073741825:=fun h1 h2=>by unfold w30;rw[if_neg (by omega),if_neg h2]
 have HH0:=hD H0;have HH1:=hD H1;have HH2:=hD H2;have HH3:=hD H3;clear H0 H1 H2 H3 hbig;go_enter Tryz.func60,Tryz.ntmps60;by_cases hp:0≤p
 ·go_wp2
  all_goals go_ret
  all_goals refine⟨ret_int ?_,rfl⟩
  all_goals first
   | (rw[HH0.out (by omega) (by omega)];done)
   | (rw[HH3.out (by omega) (by omega)];done)
   | (rw[HH3.out (by omega) (by omega)];omega)
 ·go_wp2
  all_goals go_ret
  all_goals refine⟨ret_int ?_,rfl⟩
  all_goals first
   | (rw[HH1.out (by omega) (by omega)];done)
   | (rw[HH1.out (by omega) (by omega)];omega)
   | (rw[HH2.out (by omega) (by omega)];done)
   | (rw[HH2.out (by omega) (by omega)];omega)
def NextPost (T:Nat) (tv:Value) (m n:Nat) (w:World) (e:Ending) (w':World):Prop:=∃ r k':Nat,e=.returned (.int .i64 (r:Int))∧r<n∧k'≤m∧TapeTo T w w' tv k'
theorem next_any (K:Nat→Prop) (T:Nat) (tv:Value) (tl:List Int) (k n:Nat) (w:World) (hT:w.heap[T]?=some (.cells #[tv,.int .i64 (k:Int)] 48 (0,0))) (hrow:Wh K w tv tl) (hKT:¬ K T) (hk:k≤tl.length) (h0:0<n) (hn:n≤1073741824) :
 Calls Tryz.prog 15 #[.pointer (some ⟨T,0,none⟩),.int .i64 (n:Int)] w (NextPost T tv tl.length n w):=by
 obtain⟨A,c,rfl,h1,hnil,h3⟩:=hrow;have hc0:w.cell? ⟨T,0,none⟩=some (.slice A tl.length c):=by simp[World.cell?,hT]
 have hc1:w.cell? ⟨T,1,none⟩=some (.int .i64 (k:Int)):=by simp[World.cell?,hT]
 have hf1:w.frozen? ⟨T,1,none⟩=false:=by simp[World.frozen?,hT]
 have hTT:=hD hT;generalize hm:tl.length=m at *;have hmc:m≤9223372036854775807:=by unfold maxLen at h1;omega
 have HM:=hD hm;clear hT hnil h1 hm;by_cases hlt:k<m
 ·obtain⟨g,o,rfl,hKg,hcell⟩:=h3 (by omega);have hd:decide ((m:Int)≤(k:Int))=false:=by simp;omega
  have hgT:g≠T:=fun e=>hKT (e ▸ hKg);have hck:=hcell k hlt;generalize tl.getD k 0=x at hck;have hx:=w30_bounds x;have hW:=fun w=>within30 x w;generalize w30 x=y at hx hW;have HW:=hD hW;clear hcell h3 hW;have hk0:(0:Int)≤k:=Int.natCast_nonneg _;have hn0:((n:Int)==0)=false:=by simp;omega
  have hk1:IntKind.i64.wrap ((k:Int)+1)=(k:Int)+1:=IntWalk.i64_in _ (by omega);have hk2:IntKind.i64.wrap ((k:Int)+1 - 1)=(k:Int):=by rw[show(k:Int)+1 - 1=k by omega];exact IntWalk.i64_in _ (by omega)
  go_enter Tryz.func15,Tryz.ntmps15;go_wp2_with fail
  go_quiet (fail)
  rename_i nq _
  go_wp2_with fail
  have ht1:TapeTo T w ((w.drewN nq).setCell ⟨T,1,none⟩ (.int .i64 ((k:Int)+1))) (.slice (some ⟨g,o,none⟩) m c) (k+1) :=
   ⟨rfl,rfl,rfl,by simp[World.setCell],fun b hb=>Below.heap_setCell _ _ _ _ hb,by rw[Wi (w.drewN nq) T 1 _ _ _ hTT.out];simp⟩
  have hc0':((w.drewN nq).setCell ⟨T,1,none⟩ (.int .i64 ((k:Int)+1))).cell? ⟨T,0,none⟩=some (.slice (some ⟨g,o,none⟩) m c):=by simp[World.cell?,ht1.at_]
  have hc1':((w.drewN nq).setCell ⟨T,1,none⟩ (.int .i64 ((k:Int)+1))).cell? ⟨T,1,none⟩=some (.int .i64 ((k:Int)+1)):=by simp[World.cell?,ht1.at_]
  have hck':((w.drewN nq).setCell ⟨T,1,none⟩ (.int .i64 ((k:Int)+1))).cell? ⟨g,o+k,none⟩=some (.int .i64 x):=(World.cell?_of_block (w:=w) (ht1.block g hgT)).trans hck;clear hc0 hc1 hck hf1 hTT;generalize (w.drewN nq).setCell ⟨T,1,none⟩ (.int .i64 ((k:Int)+1))=w1 at *;have HT1:=hD ht1;clear ht1;go_quiet ((go_at_call 60;exact Calls.quiet_of_same (HW.out _)))
  go_wp2;go_ret;have hnn:(0:Int)<n:=by omega
  have m0:=Int.emod_nonneg y (show(n:Int)≠0 by omega);have m1:=Int.emod_lt_of_pos y hnn;exact⟨(y % n).toNat,k+1,ret_int (by omega),by omega,by omega,HT1.out.os,HT1.out.tape,HT1.out.output,HT1.out.size,HT1.out.block,HT1.out.at_⟩
 ·have hd:decide ((m:Int)≤(k:Int))=true:=by simp;omega
  have hk0:(0:Int)≤k:=Int.natCast_nonneg _;go_enter Tryz.func15,Tryz.ntmps15;go_wp2_with fail
  go_quiet (fail)
  go_wp2;go_ret;exact⟨0,k,rfl,h0,hk,rfl,rfl,rfl,rfl,fun _ _=>rfl,hTT.out⟩
end
section
open Go.RowKit
set_option maxHeartbeats 1000000
set_option maxRecDepth 100000
theorem Wy {F:Fx} {w:World} {x:St} (h:WJ F w x) (n:Nat) (h0:0<n) (hn:n≤1073741824) :
 Calls Tryz.prog 15 #[.pointer (some ⟨F.T,0,none⟩),.int .i64 (n:Int)] w fun e w'=>∃ r:Nat,r<n∧e=.returned (.int .i64 (r:Int))∧∃ x',WJ F w' x'∧Wt F w x w' x'∧Num x x' 0 0 :=
 (next_any (Vh F w x) F.T F.tv F.tl x.at_ n w h.ht h.reads.tape (fun hk=>hk.1.2 (.inr (.inl rfl))) h.le h0 hn).mono fun _ _ ⟨r,_,he,hr,hk,ht⟩=>⟨r,hr,he,_,(h.next ht hk).1,(h.next ht hk).2,rfl,rfl,rfl,rfl⟩
theorem Tryz.infoInst:(Tryz.prog.info? 26).map (fun i=>(i.zero,i.size,i.bytes))=some (some (.agg #[.int .i64 0,.int .i64 0,.int .i64 0,.int .u64 0,.slice none 0 0]),5,56):=by kernel_rfl
theorem put_none {F:Fx} {w:World} {x:St} (h:WJ F w x) (hF:F.o=none) (op a b n:Int) (l:Value) (hl:∃ q,Wh (Vh F w x) w l q∧okB op a b n q=true) (hm:VF x 900000) :
 Calls Tryz.prog 20 #[.pointer (some ⟨F.G,0,none⟩),.agg #[.int .i64 op,.int .i64 a,.int .i64 b,.int .u64 n,l]] w (GPost F w x (.tuple #[]) (fun x'=>Num x x' 0 1∧x'.c=x.c++[⟨op,a,b,n,l⟩])):=by
 obtain⟨q,⟨A,c,rfl,hq⟩,hok⟩:=hl;have HOK:=hD hok;clear hok;have hc0:=h.co;have hmc:=hm.c;obtain⟨hg1,hs1⟩:=h.below ((bR w.heap.size w).alloc (nR _) (.cells #[.int .i64 op,.int .i64 a,.int .i64 b,.int .u64 n,.slice A q.length c] 26));have cb:∀ j:Nat,(w.alloc (.cells #[.int .i64 op,.int .i64 a,.int .i64 b,.int .u64 n,.slice A q.length c] 26)).cell? ⟨w.heap.size,j,none⟩=#[Value.int .i64 op,.int .i64 a,.int .i64 b,.int .u64 n,.slice A q.length c][j]?:=fun j=>by rw[wN]
 have c14:=hg1.c14;have b0:=cb 0;have b1:=cb 1;have b2:=cb 2;have b3:=cb 3;have b4:=cb 4;simp only[List.getElem?_toArray,List.getElem?_cons_zero,List.getElem?_cons_succ]at b0 b1 b2 b3 b4;have HQ:Hid (∃ q',Wh (Vh F (w.alloc (.cells #[.int .i64 op,.int .i64 a,.int .i64 b,.int .u64 n,.slice A q.length c] 26)) x) (w.alloc (.cells #[.int .i64 op,.int .i64 a,.int .i64 b,.int .u64 n,.slice A q.length c] 26)) (.slice A q.length c) q'∧okB op a b n q'=true):=⟨q,hs1.rints ⟨A,c,rfl,hq⟩,HOK.out⟩;clear cb hq;go_enter Tryz.func20,Tryz.ntmps20;go_wp2_with fail
 generalize w.alloc (.cells #[.int .i64 op,.int .i64 a,.int .i64 b,.int .u64 n,.slice A q.length c] 26)=W at *;generalize hB:w.heap.size=B at *;generalize hql:q.length=ql at *;have HQL:=hD hql;clear hql;have HONE:Hid (∀ u ∈ [Value.int .i64 op,.int .i64 a,.int .i64 b,.int .u64 n,.slice A ql c],u.oneCell'=true):=by
  intro u hu;simp only[List.mem_cons,List.not_mem_nil,or_false]at hu;rcases hu with rfl|rfl|rfl|rfl|rfl <;> rfl
 have HLG:Hid (F.G<W.heap.size):=(Array.getElem?_eq_some_iff.1 hg1.hg).1;have HNG:Hid (some F.G≠x.cv.ownBlock):=fun e=>(hg1.cp _ e.symm).1 rfl;have HLB:Hid (B<W.heap.size):=wL W _ b0;have HNB:Hid (some B≠x.cv.ownBlock):=fun e=>by have:=(hc0.lt _ e.symm).2;omega
 have HE:Hid (∀ w2:World,(W.alloc (.cells #[.int .i64 op,.int .i64 a,.int .i64 b,.int .u64 n,.slice A ql c] 26)).grownBy w2 x.cv.ownBlock→∀ (p:Addr),p.block<W.heap.size→some p.block≠x.cv.ownBlock→∀ {u:Value},W.cell? p=some u→w2.cell? p=some u) :=
  fun w2 hgr p hp hne u hu=>(hgr.cell (a:=p) (by rw[World.cell?_alloc_lt _ _ _ hp];exact hu) hne)
 have HFZ:Hid (∀ w2:World,(W.alloc (.cells #[.int .i64 op,.int .i64 a,.int .i64 b,.int .u64 n,.slice A ql c] 26)).grownBy w2 x.cv.ownBlock→w2.frozen? ⟨F.G,14,none⟩=false) :=
  fun w2 hgr=>by rw[World.frozen?_of_block (w:=W) ((hgr.block F.G (by simp;have:=HLG.out;omega) HNG.out).trans (Below.heap_alloc W _ _ HLG.out))];exact hg1.frozen 14
 have c14b:(W.alloc (.cells #[.int .i64 op,.int .i64 a,.int .i64 b,.int .u64 n,.slice A ql c] 26)).cell? ⟨F.G,14,none⟩=some x.cv:=by rw[World.cell?_alloc_lt _ _ _ (by exact HLG)];exact c14
 have HG:=hD hg1;have HS:=hD hs1;clear hg1 hs1
 go_region_law (refine Wc rfl (.tmp 8) (.tmp 10) 62 26 rfl _ 5 56 Tryz.underlying62 Tryz.infoInst rfl (by decide) (by decide) x.cv x.c.length (flat x.c) (by rfl) (owns_drew (HG.out.co.alloc _)) _ 1 [.int .i64 op,.int .i64 a,.int .i64 b,.int .u64 n,.slice A ql c] (by rfl) (by rfl) (news_drew (Vq W _ _ 1 1)) HONE.out (by omega) ?_;intro v' w' hown hgr0 hat;have hgr:=grown_drew hgr0;clear hgr0;have f14:=HFZ.out w' hgr;have e14:=HE.out _ hgr ⟨F.G,14,none⟩ (by show F.G<_;exact HLG.out) HNG.out c14;obtain⟨A',c',rfl⟩:=Wd hown)
 all_goals
  have hgs:=HG.out.pushC _ hgr ⟨op,a,b,n,.slice A ql c⟩ _ hown hat HQ.out hF;have HGS:=hD hgs;clear hgs;go_wp2;refine bodyPost_end (results_none rfl _ _ _) rfl ⟨rfl,_,HGS.out.1,HS.out.trans HGS.out.2,⟨rfl,?_,rfl,rfl⟩,by rw[HQL.out]⟩;show(x.c++[_]).length=_;rw[List.length_append];rfl
theorem Wt.reo {F:Fx} {a b:Option (List Nat)} {w w':World} {x x':St} (h:Wt { F with o:=a } w x w' x'):Wt { F with o:=b } w x w' x':=⟨h.keeps,h.mono⟩
theorem put_to {F:Fx} {w:World} {x:St} (h:WJ F w x) (op a b n:Int) (l:Value) (hl:∃ q,Wh (Vh F w x) w l q∧okB op a b n q=true) (hm:VF x 900000) (o':Option (List Nat)) (ho:∀ q,o'=some q→∃ p,F.o=some p∧VT op p=some q) :
 Calls Tryz.prog 20 #[.pointer (some ⟨F.G,0,none⟩),.agg #[.int .i64 op,.int .i64 a,.int .i64 b,.int .u64 n,l]] w (GPost { F with o:=o' } w x (.tuple #[]) (fun x'=>Num x x' 0 1∧x'.c=x.c++[⟨op,a,b,n,l⟩])):=by
 refine(put_none (F:={ F with o:=none }) (h.reo none fun q hq=>by cases hq) rfl op a b n l hl hm).mono ?_;rintro e w' ⟨rfl,x',hg,hs,hn,hc⟩;refine⟨rfl,x',hg.reo o' fun q hq=>?_,hs.reo,hn,hc⟩;obtain⟨p,hp,hpq⟩:=ho q hq;rw[hc,List.map_append,List.map_singleton,nestOf_snoc,h.reads.nest p hp];exact hpq
theorem put_with {F:Fx} {w:World} {x:St} (h:WJ F w x) (op a b n:Int) (l:Value) (hl:∃ q,Wh (Vh F w x) w l q∧okB op a b n q=true) (hm:VF x 900000) (hp:plain op:=by exact plain_of (by decide)) :
 Calls Tryz.prog 20 #[.pointer (some ⟨F.G,0,none⟩),.agg #[.int .i64 op,.int .i64 a,.int .i64 b,.int .u64 n,l]] w (GPost F w x (.tuple #[]) (fun x'=>Num x x' 0 1)) :=
 (put_to h op a b n l hl hm F.o fun q hq=>⟨q,hq,nestStep_plain hp q⟩).mono fun _ _ ⟨he,x',hg,hs,hn,_⟩=>⟨he,x',hg,hs,hn⟩
theorem Va {F:Fx} {w:World} {x:St} (h:WJ F w x) (op a b n:Int) (hm:VF x 900000) (hp:plain op:=by exact plain_of (by decide))
 (hv:okB op a b n []=true:=by first|exact ok_i 0 0 0 0 (by decide +kernel) (by decide +kernel) (by omega) (by omega) (by omega) (by omega) (by omega) (by omega)|exact ok_i 0 0 0 4294967295 (by decide +kernel) (by decide +kernel) (by omega) (by omega) (by omega) (by omega) (by omega) (by omega)|exact ok_i 0 255 0 0 (by decide +kernel) (by decide +kernel) (by omega) (by omega) (by omega) (by omega) (by omega) (by omega)|exact ok_i 0 64 0 0 (by decide +kernel) (by decide +kernel) (by omega) (by omega) (by omega) (by omega) (by omega) (by omega)|exact ok_i 0 3 0 0 (by decide +kernel) (by decide +kernel) (by omega) (by omega) (by omega) (by omega) (by omega) (by omega)|exact ok_i 0 3 15 0 (by decide +kernel) (by decide +kernel) (by omega) (by omega) (by omega) (by omega) (by omega) (by omega)|exact ok_i 0 15 0 0 (by decide +kernel) (by decide +kernel) (by omega) (by omega) (by omega) (by omega) (by omega) (by omega)|exact ok_i 0 3 3 0 (by decide +kernel) (by decide +kernel) (by omega) (by omega) (by omega) (by omega) (by omega) (by omega)) :
 Calls Tryz.prog 20 #[.pointer (some ⟨F.G,0,none⟩),.agg #[.int .i64 op,.int .i64 a,.int .i64 b,.int .u64 n,.slice none 0 0]] w (GPost F w x (.tuple #[]) (fun x'=>Num x x' 0 1)) :=
 put_with h op a b n _ ⟨[],Wh.nil _ _,hv⟩ hm hp
end
section
open Go.RowKit
theorem ZcN {P:Prop}(h:P:=by
 subst e;rw[List.getD_eq_getElem?_getD,List.getElem?_append_right (by omega),h1,Nat.sub_self];exact hx i hi):P:=h
theorem Wb.news {K:Nat→Prop} {w:World} {v:Value} {n size:Nat} {f:Nat→Nat→Value→Prop} (h:Wb K w v n size f):∃ us:List Value,us.length=n * size∧Vm w v n us∧∀ j i,j<n→i<size→∃ u,us[j * size+i]?=some u∧f j i u:=by
 obtain⟨A,c,rfl,h1,h2,hn,h3⟩:=h;rcases Nat.eq_zero_or_pos n with rfl|h0
 ·rcases A with _|a
  ·obtain rfl:=hn rfl;exact⟨[],by simp,.inl ⟨rfl,rfl,rfl⟩,fun j i hj=>absurd hj (Nat.not_lt_zero _)⟩
  ·exact⟨[],by simp,.inr ⟨a,c,rfl,fun j u hu=>by simp at hu⟩,fun j i hj=>absurd hj (Nat.not_lt_zero _)⟩
 ·obtain⟨g,o,rfl,_,hc⟩:=h3 h0;refine⟨(List.range (n * size)).map fun j=>(w.cell? ⟨g,o+j,none⟩).getD undef,by simp,.inr ⟨_,c,rfl,fun j u hju=>?_⟩,fun j i hj hi=>?_⟩
  ·rw[List.getElem?_map]at hju;rcases Nat.lt_or_ge j (n * size) with hj|hj
   ·have hs:0<size:=Nat.pos_of_ne_zero fun e=>by rw[e,Nat.mul_zero]at hj;omega
    have hjs:j / size<n:=Nat.div_lt_of_lt_mul (by rw[Nat.mul_comm];exact hj);obtain⟨u',k1,_⟩:=hc (j / size) (j % size) hjs (Nat.mod_lt _ hs);rw[show o+j / size * size+j % size=o+j by have:=Nat.div_add_mod j size;rw[Nat.mul_comm]at this;omega]at k1;rw[List.getElem?_range hj]at hju;simp only[Option.map_some,k1,Option.getD_some,Option.some.injEq]at hju;rw[Addr.add_lit,k1,hju]
   ·rw[List.getElem?_eq_none (by simpa using hj)]at hju;cases hju
  ·obtain⟨u,k1,k2⟩:=hc j i hj hi;have hlt:j * size+i<n * size:=by
    exact Zci
   refine⟨u,?_,k2⟩;rw[List.getElem?_map,List.getElem?_range hlt];simp only[Option.map_some,← Nat.add_assoc,k1,Option.getD_some]
theorem Wb.drop {K:Nat→Prop} {w:World} {g o n c size:Nat} {f:Nat→Nat→Value→Prop} (h:Wb K w (.slice (some ⟨g,o,none⟩) n c) n size f) (k:Nat) (hk:k≤n):Wb K w (.slice (some ⟨g,o+k * size,none⟩) (n - k) (c - k)) (n - k) size (fun j i u=>f (k+j) i u):=by
 obtain⟨A,c',he,h1,h2,hn,h3⟩:=h;simp only[vI]at he;obtain⟨rfl,-,rfl⟩:=he;refine⟨_,_,rfl,by omega,by omega,(fun h=>by cases h),fun h0=>?_⟩;obtain⟨g',o',he,hg,hc⟩:=h3 (by omega);simp only[Option.some.injEq,Addr.mk.injEq]at he;obtain⟨rfl,rfl,_⟩:=he;refine⟨_,_,rfl,hg,fun j i hj hi=>?_⟩;obtain⟨u,k1,k2⟩:=hc (k+j) i (by omega) hi;exact⟨u,by rw[show o+k * size+j * size+i=o+(k+j) * size+i by rw[Nat.add_mul];omega];exact k1,k2⟩
theorem Wb.take {K:Nat→Prop} {w:World} {g o n c size:Nat} {f:Nat→Nat→Value→Prop} (h:Wb K w (.slice (some ⟨g,o,none⟩) n c) n size f) (k:Nat) (hk:k≤n):Wb K w (.slice (some ⟨g,o,none⟩) k c) k size f:=by
 obtain⟨A,c',he,h1,h2,hn,h3⟩:=h;simp only[vI]at he;obtain⟨rfl,-,rfl⟩:=he;refine⟨_,_,rfl,by omega,h2,(fun h=>by cases h),fun h0=>?_⟩;obtain⟨g',o',he,hg,hc⟩:=h3 (by omega);simp only[Option.some.injEq,Addr.mk.injEq]at he;obtain⟨rfl,rfl,_⟩:=he;exact⟨_,_,rfl,hg,fun j i hj hi=>hc j i (by omega) hi⟩
def VH (K:Nat→Prop) (w:World) (us:List Value) (n:Nat):Prop:=us.length=n * 5∧∀ j,j<n→∃ x:Ins,∀ i,i<5→∃ u,us[j * 5+i]?=some u∧WN K w x i u
theorem VH.keep {K K':Nat→Prop} {w w':World} {us:List Value} {n:Nat} (h:VH K w us n) (hk:We K w w') (hm:∀ k,K k→K' k):VH K' w' us n :=
 ⟨h.1,fun j hj=>by
  obtain⟨x,hx⟩:=h.2 j hj;exact⟨x,fun i hi=>by obtain⟨u,h1,h2⟩:=hx i hi;exact⟨u,h1,h2.keep hk hm⟩⟩⟩
theorem WO.good {K:Nat→Prop} {w:World} {v:Value} {c:List Ins} (h:WO K w v c):∃ us,Vm w v c.length us∧VH K w us c.length:=by
 obtain⟨us,h1,h2,h3⟩:=Wb.news h;exact⟨us,h2,h1,fun j hj=>⟨_,fun i hi=>h3 j i hj hi⟩⟩
theorem VH.nil (K:Nat→Prop) (w:World):VH K w [] 0:=⟨rfl,fun _ hj=>absurd hj (Nat.not_lt_zero _)⟩
theorem VH.append {K:Nat→Prop} {w:World} {us vs:List Value} {n m:Nat} (h:VH K w us n) (k:VH K w vs m):VH K w (us++vs) (n+m):=by
 refine⟨by rw[List.length_append,h.1,k.1,Nat.add_mul],fun j hj=>?_⟩;rcases Nat.lt_or_ge j n with hlt|hge
 ·obtain⟨x,hx⟩:=h.2 j hlt;refine⟨x,fun i hi=>?_⟩;obtain⟨u,h1,h2⟩:=hx i hi;exact⟨u,by rw[List.getElem?_append_left (by rw[h.1];omega)];exact h1,h2⟩
 ·obtain⟨x,hx⟩:=k.2 (j - n) (by omega);refine⟨x,fun i hi=>?_⟩;obtain⟨u,h1,h2⟩:=hx i hi;exact⟨u,by rw[List.getElem?_append_right (by rw[h.1];omega),h.1,show j * 5+i - n * 5=(j - n) * 5+i by omega];exact h1,h2⟩
theorem VH.take {K:Nat→Prop} {w:World} {us:List Value} {n:Nat} (h:VH K w us n) (k:Nat) (hk:k≤n):VH K w (us.take (k * 5)) k:=by
 refine⟨by rw[List.length_take,h.1];omega,fun j hj=>?_⟩;obtain⟨x,hx⟩:=h.2 j (by omega);refine⟨x,fun i hi=>?_⟩;obtain⟨u,h1,h2⟩:=hx i hi;exact⟨u,by rw[List.getElem?_take,if_pos (by omega)];exact h1,h2⟩
theorem VH.set {K:Nat→Prop} {w:World} {us:List Value} {n:Nat} (h:VH K w us n) (k i0:Nat) (hk:k<n) (hi0:i0<5) (u0:Value) (f:Ins→Ins) (hf:∀ x,WN K w (f x) i0 u0∧∀ i u,i<5→i≠i0→WN K w x i u→WN K w (f x) i u):VH K w (us.set (k * 5+i0) u0) n:=by
 refine⟨by rw[List.length_set];exact h.1,fun j hj=>?_⟩;obtain⟨x,hx⟩:=h.2 j hj;by_cases hjk:j=k
 ·subst hjk;refine⟨f x,fun i hi=>?_⟩;by_cases hii:i=i0
  ·subst hii;exact⟨u0,by rw[List.getElem?_set,if_pos rfl,if_pos (by rw[h.1];omega)],(hf x).1⟩
  ·obtain⟨u,h1,h2⟩:=hx i hi;exact⟨u,by rw[List.getElem?_set,if_neg (by omega)];exact h1,(hf x).2 i u hi hii h2⟩
 ·refine⟨x,fun i hi=>?_⟩;obtain⟨u,h1,h2⟩:=hx i hi;exact⟨u,by rw[List.getElem?_set,if_neg (by omega)];exact h1,h2⟩
theorem insCell_one {K:Nat→Prop} {w:World} (x:Ins) {Lv:Value} (h:Wh K w Lv x.l) (hn:V7 x.n) (hf:fitN x.l.length):VH K w [.int .i64 x.op,.int .i64 x.a,.int .i64 x.b,.int .u64 x.n,Lv] 1 :=
 ⟨rfl,fun j hj=>⟨x,fun i hi=>by
  obtain rfl:j=0:=by omega
  rcases(show i=0∨i=1∨i=2∨i=3∨i=4 by omega) with rfl|rfl|rfl|rfl|rfl
  ·exact⟨_,rfl,rfl⟩
  ·exact⟨_,rfl,rfl⟩
  ·exact⟨_,rfl,rfl⟩
  ·exact⟨_,rfl,rfl,hn⟩
  ·exact⟨_,rfl,h,hf⟩⟩⟩
theorem VH.code {K:Nat→Prop} {w:World} {base:Nat} {e:TypeId} {v:Value} {n:Nat} {us:List Value} (h:VH K w us n) (ho:w.ownsRow base e 5 v n us) (hK:∀ g,v.ownBlock=some g→K g):∃ c:List Ins,c.length=n∧WO K w v c:=by
 have hc:∀ m,m≤n→∃ c:List Ins,c.length=m∧∀ j,j<m→∀ i,i<5→∃ u,us[j * 5+i]?=some u∧WN K w (c.getD j VX) i u:=by
  intro m;induction m with
  | zero=>intro _;exact⟨[],rfl,fun j hj=>absurd hj (Nat.not_lt_zero _)⟩
  | succ m ih =>
   intro hm;obtain⟨c,h1,h2⟩:=ih (by omega);obtain⟨x,hx⟩:=h.2 m (by omega);refine⟨c++[x],by simp[h1],fun j hj i hi=>?_⟩;by_cases e:j=m
   ·exact ZcN
   ·rw[List.getD_eq_getElem?_getD,List.getElem?_append_left (by omega),← List.getD_eq_getElem?_getD];exact h2 j (by omega) i hi
 obtain⟨c,h1,h2⟩:=hc n (nR _);refine⟨c,h1,?_⟩;unfold WO;rw[h1];exact Ue ho _ hK fun j i hj hi=>h2 j hj i hi
theorem VH.ones {K:Nat→Prop} {w:World} {us:List Value} {n:Nat} (h:VH K w us n):∀ u ∈ us,u.oneCell'=true:=by
 intro u hu;obtain⟨k,hk,rfl⟩:=List.mem_iff_getElem.1 hu;have h1:=h.1;obtain⟨x,hx⟩:=h.2 (k / 5) (by omega);obtain⟨u',k1,k2⟩:=hx (k % 5) (Nat.mod_lt _ (by omega));rw[show k / 5 * 5+k % 5=k by omega,List.getElem?_eq_getElem hk]at k1;obtain rfl:=Option.some.inj k1;rcases(show k % 5=0∨k % 5=1∨k % 5=2∨k % 5=3∨k % 5=4 by omega) with e|e|e|e|e
 all_goals rw[e]at k2
 ·rw[show us[k]=_ from k2];rfl
 ·rw[show us[k]=_ from k2];rfl
 ·rw[show us[k]=_ from k2];rfl
 ·rw[show us[k]=_ from k2.1];rfl
 ·obtain⟨⟨A,c,k3,_⟩,_⟩:=k2;rw[k3];rfl
end
end Go.Proofs.YtgmgcadlkebokaaGreatDoor
