/- A part of the proof. -/
import Derived.Test.YtgmgcadlkebokaaGreatDoorJ17
namespace Go.Proofs.YtgmgcadlkebokaaGreatDoor
section
open Go.RowKit
theorem US {P:MP} {w:World} {x:MS} (h:Mk P w x) (n:Nat) (h0:0<n) (hn:n≤1073741824) :
 Calls Tryz.prog 15 #[.pointer (some ⟨P.T,0,none⟩),.int .i64 (n:Int)] w fun e w'=>∃ r:Nat,r<n∧e=.returned (.int .i64 (r:Int))∧∃ a,Mk P w' { x with at_:=a }∧Vp P w x w' { x with at_:=a } :=
 (next_any (fun k=>k<P.W.heap.size) P.T P.tv P.tl x.at_ n w h.hT (h.tape.keep (We.below h.bel fun _ h=>h) fun _ h=>h) (fun hk=>by have:=h.new.2.1;omega) h.le h0 hn).mono fun _ _ ⟨r,a,he,hr,hk,ht⟩ =>
  ⟨r,hr,he,a,h.later ⟨ht.os,ht.tape,ht.output,by rw[ht.size];exact nR _,fun k hk=>ht.block k hk.2⟩ a hk ht.at_⟩
theorem Mk.cell {P:MP} {w:World} {x:MS} (h:Mk P w x) (o:Nat):w.cell? ⟨P.M,o,none⟩=(Uo x)[o]?:=by simp[World.cell?,h.hM]
theorem Mk.frozen {P:MP} {w:World} {x:MS} (h:Mk P w x) (o:Nat):w.frozen? ⟨P.M,o,none⟩=false:=by simp[World.frozen?,h.hM]
theorem Mk.drew {P:MP} {w:World} {x:MS} (h:Mk P w x):Mk P w.drew x∧Vp P w x w.drew x:=h.below ((bR _ _).drew)
theorem Mk.pushf {P:MP} {w:World} {x:MS} (h:Mk P w x) (ob:Obj) (r:Option Nat) (hr:∀ k,r=some k→own3 x k) (o:Nat):(w.alloc ob).cell? ⟨P.M,o,none⟩=(Uo x)[o]?∧∀ w2,(w.alloc ob).grownBy w2 r→w2.cell? ⟨P.M,o,none⟩=(Uo x)[o]?∧w2.frozen? ⟨P.M,o,none⟩=false:=by
 obtain⟨l1,_,_⟩:=h.lts;have hrM:r≠some P.M:=fun e=>by
  exact ZcL
 refine⟨by rw[World.cell?_alloc_lt _ _ _ (by exact l1)];exact h.cell o,fun w2 hgr=>?_⟩;have hb:=(UJ hgr).block P.M ⟨l1,hrM⟩;exact⟨(World.cell?_of_block (w:=w) (a:=⟨P.M,o,none⟩) hb).trans (h.cell o),(World.frozen?_of_block (w:=w) (a:=⟨P.M,o,none⟩) hb).trans (h.frozen o)⟩
def Wv:Array Value:=#[.slice none 0 0,.slice none 0 0,.slice none 0 0,.slice none 0 0,.slice none 0 0,.slice none 0 0,.slice none 0 0,.slice none 0 0]
theorem mk_start (w:World) (tv:Value) (tl:List Int) (htl:Wh (fun k=>k<w.heap.size) w tv tl) (W1 W2:World) (hW1:W1=(w.alloc (.cells Wv 36)).alloc (.cells #[tv,.int .i64 0] 48)) (hW2:W2=(tyObjs W1.heap.size).foldl World.alloc W1) (x:MS)
 (hx:x=⟨.slice (some ⟨W1.heap.size+14,0,none⟩) 9 9,.slice none 0 0,.slice none 0 0,.slice none 0 0,.slice none 0 0,.slice none 0 0,.slice none 0 0,0,[],[],[]⟩) (P:MP) (hP:P=⟨w.alloc (.cells Wv 36),W2.heap.size,w.heap.size+1,tv,tl⟩) :
 Mk P (W2.alloc (.cells (Uo x) 36)) x∧Vn (WZ P x (W2.alloc (.cells (Uo x) 36))) (W2.alloc (.cells (Uo x) 36)) x.m0 Ut:=by
 have s0:(w.alloc (.cells Wv 36)).heap.size=w.heap.size+1:=by simp
 have s1:W1.heap.size=w.heap.size+2:=by rw[hW1];simp
 obtain⟨_,hb2,s2⟩:=WU (tyObjs W1.heap.size) W1 0 _ rfl;rw[← hW2]at hb2 s2;have s2':W2.heap.size=w.heap.size+17:=by rw[s2,s1];rfl
 have hb1:Below (w.alloc (.cells Wv 36)).heap.size (w.alloc (.cells Wv 36)) W1:=by rw[hW1];exact(bR _ _).alloc (nR _) _
 have hb3:Below W2.heap.size W2 (W2.alloc (.cells (Uo x) 36)):=(bR _ _).alloc (nR _) _;have hb13:Below W1.heap.size W1 (W2.alloc (.cells (Uo x) 36)):=hb2.trans (hb3.mono (by omega));have s3:(W2.alloc (.cells (Uo x) 36)).heap.size=w.heap.size+18:=by simp[s2']
 have hT:W1.heap[w.heap.size+1]?=some (.cells #[tv,.int .i64 0] 48 (0,0)):=by
  have:=heap_alloc_new (w.alloc (.cells Wv 36)) (.cells #[tv,.int .i64 0] 48);rw[s0]at this;rw[hW1];exact this
 have hn:∀ k,¬ own3 x k:=fun k=>by rw[hx];rintro(e|e|e) <;> cases e
 have htl':Wh (fun k=>k<(w.alloc (.cells Wv 36)).heap.size) (w.alloc (.cells Wv 36)) tv tl:=htl.keep (We.alloc w (fun _ h=>h) _) fun k hk=>by rw[s0];omega
 subst hP;refine⟨⟨hb1.trans (hb13.mono (by rw[s0];omega)),heap_alloc_new W2 _,(hb13.block (w.heap.size+1) (by omega)).trans (by rw[hx];exact hT),by rw[hx];exact nZ _,htl',⟨by show _≤W2.heap.size;rw[s0];omega,by show _≤w.heap.size+1;rw[s0];exact nR _,by show W2.heap.size≠w.heap.size+1;omega⟩,
  by rw[hx];exact World.ownsRow_nil _ _ _ _,by rw[hx];exact World.ownsRow_nil _ _ _ _,by rw[hx];exact World.ownsRow_nil _ _ _ _,fun g hg=>absurd (Or.inl hg) (hn g),fun g hg=>absurd (Or.inr (Or.inl hg)) (hn g),fun g hg=>absurd (Or.inr (Or.inr hg)) (hn g)⟩,?_⟩
 have ht:=nine_read W1;rw[← hW2]at ht;rw[show x.m0=.slice (some ⟨W1.heap.size+14,0,none⟩) 9 9 by rw[hx]];exact ht.keep (We.below hb3 fun k hk=>hk.2) fun k hk=>⟨⟨by show(w.alloc _).heap.size≤k;rw[s0];omega,by omega⟩,by show k≠W2.heap.size;omega,by show k≠w.heap.size+1;omega,hn _⟩
theorem Mk.beside {P:MP} {w w':World} {x:MS} (h:Mk P w x) (J:Nat→Prop) (hJ:∀ k,J k→WZ P x w k) (hk:We (fun k=>k<w.heap.size∧¬ J k) w w'):Mk P w' x:=by
 obtain⟨l1,l2,l3⟩:=h.lts;have hb:Below P.W.heap.size P.W w':=⟨hk.os.trans h.bel.os,hk.tape.trans h.bel.tape,hk.output.trans h.bel.output,Nat.le_trans h.bel.size hk.size,fun k hk'=>(hk.block k ⟨WK hk' h.bel.size,fun e=>by have:=(hJ k e).1.1;omega⟩).trans (h.bel.block k hk')⟩;have hrow:∀ g,own3 x g→g<w.heap.size∧¬ J g:=fun g hg=>⟨l3 g hg,fun e=>(hJ g e).2.2.2 hg⟩;exact⟨hb,(hk.block _ ⟨l1,fun e=>(hJ _ e).2.1 rfl⟩).trans h.hM,(hk.block _ ⟨l2,fun e=>(hJ _ e).2.2.1 rfl⟩).trans h.hT,h.le,h.tape,h.new,Wu h.fo hk fun g hg=>hrow g (.inl hg),Wu h.mo hk fun g hg=>hrow g (.inr (.inl hg)),Wu h.eo hk fun g hg=>hrow g (.inr (.inr hg)),h.fp,h.mp,h.ep⟩
structure Inn (P:MP) (W:World) (z:MS) (ty:Int) (w:World) (a:Nat) (lv:Value) (ll:List Int):Prop where
 md:Mk P w { z with at_:=a }
 st:Vp P W z w { z with at_:=a }
 f9:w.heap[W.heap.size]?=some (.cells #[.int .i64 ty,lv,.slice none 0 0] 64 (0,0))
 ow:w.ownsRow 0 3 1 lv ll.length (ll.map (Value.int .i64))
 lp:∀ g,lv.ownBlock=some g→W.heap.size<g
 base:(∀ k,own3 z k→k<W.heap.size)∧P.M<W.heap.size∧P.T<W.heap.size∧P.W.heap.size≤W.heap.size
theorem Inn.stl {P:MP} {W w:World} {z:MS} {ty:Int} {a:Nat} {lv:Value} {ll:List Int} (h:Inn P W z ty w a lv ll) {k:Nat} (h1:W.heap.size≤k) (h2:k<w.heap.size) (a':Nat):WZ P { z with at_:=a' } w k:=by
 obtain⟨b1,b2,b3,b4⟩:=h.base;exact⟨⟨by omega,h2⟩,by omega,by omega,fun e=>by have:=b1 k e;omega⟩
theorem Inn.f9lt {P:MP} {W w:World} {z:MS} {ty:Int} {a:Nat} {lv:Value} {ll:List Int} (h:Inn P W z ty w a lv ll):W.heap.size<w.heap.size:=(Array.getElem?_eq_some_iff.1 h.f9).1
theorem Inn.next {P:MP} {W w w':World} {z:MS} {ty:Int} {a a':Nat} {lv:Value} {ll:List Int} (h:Inn P W z ty w a lv ll) (hm:Mk P w' { z with at_:=a' }) (hs:Vp P w { z with at_:=a } w' { z with at_:=a' }):Inn P W z ty w' a' lv ll :=
 ⟨hm,h.st.trans hs,(hs.keeps.block _ (h.stl (nR _) h.f9lt a)).trans h.f9,Wu h.ow hs.keeps fun g hg=>h.stl (Nat.le_of_lt (h.lp g hg)) (h.ow.lt g hg).2 a,h.lp,h.base⟩
theorem Inn.below {P:MP} {W w w':World} {z:MS} {ty:Int} {a:Nat} {lv:Value} {ll:List Int} (h:Inn P W z ty w a lv ll) (hb:Below w.heap.size w w'):Inn P W z ty w' a lv ll:=by
 obtain⟨h1,h2⟩:=h.md.below hb;exact h.next h1 h2
theorem Inn.cell1 {P:MP} {W w:World} {z:MS} {ty:Int} {a:Nat} {lv:Value} {ll:List Int} (h:Inn P W z ty w a lv ll):w.cell? ⟨W.heap.size,1,none⟩=some lv∧w.frozen? ⟨W.heap.size,1,none⟩=false:=by simp[World.cell?,World.frozen?,h.f9]
theorem Inn.pushf {P:MP} {W w:World} {z:MS} {ty:Int} {a:Nat} {lv:Value} {ll:List Int} (h:Inn P W z ty w a lv ll) {w0 w1:World} (hb0:Below w.heap.size w w0) {ob:Obj} (hg:(w0.alloc ob).grownBy w1 lv.ownBlock):w1.cell? ⟨W.heap.size,1,none⟩=some lv∧w1.frozen? ⟨W.heap.size,1,none⟩=false:=by
 have hb:=(UJ hg).block W.heap.size ⟨WK h.f9lt hb0.size,fun e=>by have:=h.lp _ e;omega⟩;have h9:=(h.below hb0).cell1;exact⟨(World.cell?_of_block (w:=w0) (a:=⟨W.heap.size,1,none⟩) hb).trans h9.1,(World.frozen?_of_block (w:=w0) (a:=⟨W.heap.size,1,none⟩) hb).trans h9.2⟩
theorem Inn.push {P:MP} {W w w1:World} {z:MS} {ty:Int} {a:Nat} {lv:Value} {ll:List Int} (h:Inn P W z ty w a lv ll) {w0:World} (hb0:Below w.heap.size w w0) (ob:Obj) (t:Int) {v:Value} {n:Nat} {xs:List Value} (ho:w1.ownsRow 0 3 1 v n xs) (hn:n=ll.length+1) (hx:xs=ll.map (Value.int .i64)++[.int .i64 t]) (hg:(w0.alloc ob).grownBy w1 lv.ownBlock)
 (hat:v.ownBlock=lv.ownBlock∨v.ownBlock=some (w0.alloc ob).heap.size):Inn P W z ty (w1.setCell ⟨W.heap.size,1,none⟩ v) a v (ll++[t]):=by
 subst hn hx;have h9:=h.f9lt;have hsa:(w0.alloc ob).heap.size=w0.heap.size+1:=by simp
 have hs0:=hb0.size;have hkg:=UJ hg;have hk1:We (fun k=>k<w.heap.size∧lv.ownBlock≠some k) w w1:=((We.below hb0 fun _ h=>h):We (fun k=>k<w.heap.size) w w0).mono (fun _ h=>h.1) |>.trans (hkg.mono fun k hk=>⟨WK hk.1 hs0,hk.2⟩);have hk0:We (fun b=>b≠W.heap.size) w1 (w1.setCell ⟨W.heap.size,1,none⟩ v):=.setCell w1 (fun e=>e rfl) v;have hf1:w1.heap[W.heap.size]?=some (.cells #[.int .i64 ty,lv,.slice none 0 0] 64 (0,0)):=(hk1.block _ ⟨h9,fun e=>by have:=h.lp _ e;omega⟩).trans h.f9;have hvn:∀ g,v.ownBlock=some g→W.heap.size<g:=fun g hg'=>by
  rcases new_at hat hg' with e|e
  ·exact h.lp g e
  ·omega
 have hkj:We (fun k=>k<w.heap.size∧¬ (k=W.heap.size∨lv.ownBlock=some k)) w (w1.setCell ⟨W.heap.size,1,none⟩ v):=(hk1.mono fun k hk=>⟨hk.1,fun e=>hk.2 (.inr e)⟩).trans (hk0.mono fun k hk e=>hk.2 (.inl e));have hmd:=h.md.beside (fun k=>k=W.heap.size∨lv.ownBlock=some k) (fun k hk=>by
  rcases hk with rfl|hk
  ·exact h.stl (nR _) h9 a
  ·exact h.stl (Nat.le_of_lt (h.lp k hk)) (h.ow.lt k hk).2 a) hkj
 refine⟨hmd,⟨h.st.keeps.trans (hkj.mono fun k hk=>⟨(h.st.mono k hk).1.2,?_⟩),fun k hk=>⟨⟨hk.1.1,WK (h.st.mono k hk).1.2 hkj.size⟩,(h.st.mono k hk).2⟩⟩,?_,?_,hvn,h.base⟩
 ·rintro(e|e)
  ·have:=hk.1.2;omega
  ·have h1:=h.lp k e;have:=hk.1.2;omega
 ·rw[Wi w1 W.heap.size 1 _ _ v hf1];rfl
 ·rw[List.length_append,List.map_append];exact Wu ho hk0 fun g hg'=>by have:=hvn g hg';omega
end
section
open Go.RowKit
theorem len_owned {w:World} {base size:Nat} {e:TypeId} {v:Value} {n:Nat} {xs:List Value} (h:w.ownsRow base e size v n xs):LenK v n:=by
 rcases h.2 with ⟨rfl,h0⟩|⟨g,cap,cur,rfl,_,_,h1,h2,_⟩
 ·exact⟨none,0,by rw[h0],by omega,nZ _⟩
 ·exact⟨_,cap,rfl,h1,h2⟩
theorem Mk.types_of {P:MP} {w:World} {x:MS} (h:Mk P w x) (K:Nat→Prop) (hK:∀ g,x.m2.ownBlock=some g→K g):VE K w x.m2 3 0 (x.fs.map (·.1)):=by
 rcases h.fo.2 with ⟨h1,h0⟩|⟨g,cap,cur,h1,_,_,h2,h3,_⟩
 ·exact⟨none,0,by rw[h1,List.length_map,h0],by rw[List.length_map,h0];exact nR _,nZ _,fun _=>rfl,fun hl=>by rw[List.length_map]at hl;omega⟩
 ·have hfo:=h.fo;rw[h1]at hfo;refine⟨_,cap,by rw[h1,List.length_map],by rw[List.length_map];exact h2,h3,(fun h=>by cases h),fun _=>⟨g,0,rfl,hK g (by rw[h1];rfl),fun j i hj hi=>?_⟩⟩;rw[List.length_map]at hj;obtain⟨f0,f1,f2⟩:=flatFn_at x.fs j x.fs[j] (List.getElem?_eq_getElem hj);rw[Nat.zero_add];rcases(show i=0∨i=1∨i=2 by omega) with rfl|rfl|rfl
  ·refine⟨_,by rw[hfo.cellAt _ (by omega),Nat.add_zero];exact f0,fun _=>?_⟩;rw[List.getD_eq_getElem?_getD,List.getElem?_map,List.getElem?_eq_getElem hj];rfl
  ·exact⟨_,by rw[hfo.cellAt _ (by omega)];exact f1,fun h=>by omega⟩
  ·exact⟨_,by rw[hfo.cellAt _ (by omega)];exact f2,fun h=>by omega⟩
def fxOf (P:MP) (x:MS) (G:Nat) (lov:Value) (lo:List Int) (pv rv:Value) (ro:List Int) (nd:Nat):Fx :=
 ⟨G,P.T,P.tv,P.tl,x.m0,x.m1,x.m2,x.m3,x.m4,x.m5,x.m6,.slice none 0 0,lov,lo,pv,rv,ro,Ut,[1,7],x.fs.map (·.1),[127,126,124,127],x.ms.length,nd,some [],fun _=>False⟩
def stOf (lv:Value) (a:Nat):St:=⟨.slice none 0 0,lv,.slice none 0 0,a,[],1,[],40⟩
theorem gen_start {P:MP} {w4:World} {x:MS} (h:Mk P w4 x) (G:Nat) (lov:Value) (lo:List Int) (pv rv:Value) (ro:List Int) (nd:Nat) (lv:Value)
 (hG:w4.heap[G]?=some (.cells (gcells (fxOf P x G lov lo pv rv ro nd) (stOf lv x.at_)) 71 (0,0))) (hGn:G≠P.M∧G≠P.T∧¬ own3 x G∧P.W.heap.size≤G)
 (hlo:Wh (fun k=>k<w4.heap.size∧k≠G∧k≠P.T) w4 lov lo) (hlo1:lo.length≤100) (hro:Wh (fun k=>k<w4.heap.size∧k≠G∧k≠P.T) w4 rv ro) (hro1:ro.length≤3)
 (hts:Vn (fun k=>k<w4.heap.size∧k≠G∧k≠P.T) w4 x.m0 Ut) (his:VE (fun k=>k<w4.heap.size∧k≠G∧k≠P.T) w4 x.m1 3 2 [1,7]) (hgs:VE (fun k=>k<w4.heap.size∧k≠G∧k≠P.T) w4 x.m4 3 0 [127,126,124,127])
 (hfs:0<x.fs.length∧x.fs.length≤4∧∀ f ∈ x.fs,0≤f.1∧f.1<9) (hms:x.ms.length≤3) (hds:LenK x.m6 nd∧nd≤2∧(0<x.ms.length→nd=2))
 (hlab:LabsK (fun k=>k<w4.heap.size∧k≠G∧k≠P.T) w4 lv 1) :
 WJ (fxOf P x G lov lo pv rv ro nd) w4 (stOf lv x.at_):=by
 have hnp:∀ k,priv (fxOf P x G lov lo pv rv ro nd) (stOf lv x.at_) k→k=G∨k=P.T:=fun k hk=>by
  rcases hk with e|e|e|e
  ·exact .inl e
  ·exact .inr e
  ·cases e
  ·cases e
 have hrf:∀ k,k<w4.heap.size→k≠G→k≠P.T→Vh (fxOf P x G lov lo pv rv ro nd) w4 (stOf lv x.at_) k:=fun k h1 h2 h3=>⟨⟨h1,fun e=>(hnp k e).elim h2 h3⟩,fun e=>e⟩;have hst:∀ k,(k<w4.heap.size∧k≠G∧k≠P.T)→Vh (fxOf P x G lov lo pv rv ro nd) w4 (stOf lv x.at_) k:=fun k hk=>hrf k hk.1 hk.2.1 hk.2.2;refine⟨hG,h.hT,hGn.2.1,World.ownsRow_nil _ _ _ _,(fun g e=>by cases e),World.ownsRow_nil _ _ _ _,(fun g e=>by cases e),h.le,?_⟩;refine⟨?_,⟨hlo.keep (.refl _ _) hst,hlo1⟩,⟨hro.keep (.refl _ _) hst,hro1⟩,⟨hts.keep (.refl _ _) hst,rfl,(by decide:∀ t ∈ Ut,t.1.length≤3∧t.2.length≤3)⟩,⟨his.keep (.refl _ _) hst,rfl,(by decide:∀ t ∈ ([1,7]:List Int),0≤t∧t<9)⟩,⟨?_,⟨?_,?_⟩,?_⟩,⟨?_,hms⟩,⟨hgs.keep (.refl _ _) hst,rfl⟩,hds.1 |> fun h=>⟨h,hds.2⟩,hlab.keep (.refl _ _) (fun k hk=>hrf k hk.1 hk.2.1 hk.2.2),(fun iv hiv=>by cases hiv),fun q hq=>?_⟩
 ·exact h.tape.keep (We.below h.bel fun _ h=>h) fun k hk=>hrf k (WK hk h.bel.size) (fun e=>by have:=hGn.2.2.2;omega) (fun e=>by have:=h.new.2.1;omega)
 ·exact h.types_of _ fun g hg=>hrf g (h.fo.lt g hg).2 (fun e=>hGn.2.2.1 (.inl (e ▸ hg))) (h.fp g hg).2.2.1
 ·show 0<(x.fs.map (·.1)).length;rw[List.length_map];exact hfs.1
 ·show(x.fs.map (·.1)).length≤4;rw[List.length_map];exact hfs.2.1
 ·intro t ht;obtain⟨f,hf,rfl⟩:=List.mem_map.1 ht;exact hfs.2.2 f hf
 ·exact len_owned h.mo
 ·obtain rfl:=Option.some.inj hq;rfl
end
section
open Go.RowKit
def digit (n:Nat):ByteArray:=⟨#[(48+n).toUInt8]⟩
theorem digit_size (n:Nat):(digit n).size=1:=rfl
theorem rune_int (n:Nat) (hn:n<4) (w:World):(convert 3 21 (.int .i64 (48+(n:Int)))).run Tryz.prog w=.ok (.int .i32 (48+(n:Int))) w:=by
 have e:IntKind.i32.wrap (48+(n:Int))=48+(n:Int):=by
  rcases(show n=0∨n=1∨n=2∨n=3 by omega) with rfl|rfl|rfl|rfl <;> decide
 simp[convert,run_underlying Tryz.underlying3,run_underlying Tryz.underlying21,Conv.intToInt,e]
theorem rune_str (n:Nat) (hn:n<4) (w:World):(convert 21 9 (.int .i32 (48+(n:Int)))).run Tryz.prog w=.ok (.string (digit n)) w:=by
 rcases(show n=0∨n=1∨n=2∨n=3 by omega) with rfl|rfl|rfl|rfl <;> simp[convert,run_underlying Tryz.underlying21,run_underlying Tryz.underlying9,digit] <;> rfl
end
section
open Go.RowKit
theorem ZU {P:Prop}(h:P:=by
 unfold Wl;by_cases h0:2≤op∧op≤4
 ·rw[if_pos h0];decide
 rw[if_neg h0];by_cases h1:op=12∨op=13
 ·rw[if_pos h1];decide
 rw[if_neg h1];by_cases h2:op=14
 ·rw[if_pos h2];decide
 rw[if_neg h2];by_cases h3:op=16∨op=18
 ·rw[if_pos h3];decide
 rw[if_neg h3];by_cases h4:32≤op∧op≤34
 ·rw[if_pos h4];decide
 rw[if_neg h4];by_cases h5:op=35∨op=36
 ·rw[if_pos h5];decide
 rw[if_neg h5];by_cases h6:op=63∨op=64∨op=64523
 ·rw[if_pos h6];decide
 rw[if_neg h6];by_cases h7:op=64520
 ·rw[if_pos h7];decide
 rw[if_neg h7];by_cases h8:op=64521
 ·rw[if_pos h8];decide
 rw[if_neg h8];by_cases h9:op=64522
 ·rw[if_pos h9];decide
 rw[if_neg h9];by_cases h10:op=65
 ·rw[if_pos h10];decide
 rw[if_neg h10];by_cases h11:op=66∨op=68
 ·rw[if_pos h11];decide
 rw[if_neg h11];by_cases h12:(VV op).2.2.2=true
 ·rw[if_pos h12];decide
 rw[if_neg h12]
 decide):P:=h
theorem Vp.cells {P:MP} {w w':World} {x x':MS} (h:Vp P w x w' x') {v:Value} {n s:Nat} {f:Nat→Nat→Value→Prop} (hv:Wb (WZ P x w) w v n s f):Wb (WZ P x' w') w' v n s f:=hv.keep h.keeps h.mono fun _ _ _ h=>h
theorem cells_lit {P:MP} {w:World} {x:MS} (h:Mk P w x) (cs:Array Value) (t:TypeId) (n size:Nat) (f:Nat→Nat→Value→Prop) (h0:0<n) (hn:n≤100) (hc:∀ j i,j<n→i<size→∃ u,cs[j * size+i]?=some u∧f j i u) :
 Wb (WZ P x (w.alloc (.cells cs t))) (w.alloc (.cells cs t)) (.slice (some ⟨w.heap.size,0,none⟩) n n) n size f:=by
 obtain⟨l1,l2,l3⟩:=h.lts;have hw:=h.bel.size;refine⟨_,n,rfl,nR _,by unfold maxLen;omega,(fun h=>by cases h),fun _=>⟨w.heap.size,0,rfl,⟨⟨hw,by simp⟩,by omega,by omega,fun e=>by have:=l3 _ e;omega⟩,fun j i hj hi=>?_⟩⟩;obtain⟨u,h1,h2⟩:=hc j i hj hi;exact⟨u,by rw[Nat.zero_add,wN];exact h1,h2⟩
theorem Wb.mono {K:Nat→Prop} {w:World} {v:Value} {n size:Nat} {f f':Nat→Nat→Value→Prop} (h:Wb K w v n size f) (hf:∀ j i u,j<n→i<size→f j i u→f' j i u):Wb K w v n size f':=by
 obtain⟨A,c,rfl,h1,h2,h0,h3⟩:=h;refine⟨A,c,rfl,h1,h2,h0,fun hl=>?_⟩;obtain⟨g,o,rfl,h4,h5⟩:=h3 hl;refine⟨g,o,rfl,h4,fun j i hj hi=>?_⟩;obtain⟨u,h6,h7⟩:=h5 j i hj hi;exact⟨u,h6,hf j i u hj hi h7⟩
def hostName:ByteArray:=⟨#[104,111,115,116]⟩
def twoImps:List (ByteArray×ByteArray×Int):=[(hostName,⟨#[111,110,101]⟩,1),(hostName,⟨#[116,119,111]⟩,7)]
def UG:List (Int×Bool×Int):=[(127,true,5),(126,true,1099511627776),(124,true,4611686018427387904),(127,false,9)]
def impL:Array Value:=#[.string ⟨#[104,111,115,116]⟩,.string ⟨#[111,110,101]⟩,.int .i64 1,.string ⟨#[104,111,115,116]⟩,.string ⟨#[116,119,111]⟩,.int .i64 7]
def globL:Array Value:=#[.int .i64 127,.bool true,.int .u64 5,.int .i64 126,.bool true,.int .u64 1099511627776,.int .i64 124,.bool true,.int .u64 4611686018427387904,.int .i64 127,.bool false,.int .u64 9]
theorem imp_cells (j i:Nat) (hj:j<2) (hi:i<3):∃ u,impL[j * 3+i]?=some u∧UR (twoImps.getD j (ByteArray.empty,ByteArray.empty,0)) i u:=by
 rcases(show j=0∨j=1 by omega) with rfl|rfl <;> rcases(show i=0∨i=1∨i=2 by omega) with rfl|rfl|rfl <;> exact⟨_,rfl,rfl⟩
theorem glob_cells (j i:Nat) (hj:j<4) (hi:i<3):∃ u,globL[j * 3+i]?=some u∧Ua (UG.getD j (0,false,0)) i u:=by
 rcases(show j=0∨j=1∨j=2∨j=3 by omega) with rfl|rfl|rfl|rfl <;> rcases(show i=0∨i=1∨i=2 by omega) with rfl|rfl|rfl <;> first|exact⟨_,rfl,rfl⟩|exact⟨_,rfl,rfl,And.intro (by decide) (by decide)⟩
theorem imps_field {K:Nat→Prop} {w:World} {v:Value} (h:ImpsK K w v twoImps):VE K w v 3 2 [1,7] :=
 Wb.mono h fun j i u hj hi hu e=>by
  subst e;have hj2:j<2:=hj;rcases(show j=0∨j=1 by omega) with rfl|rfl <;> exact hu
theorem globs_field {K:Nat→Prop} {w:World} {v:Value} (h:GlobsK K w v UG):VE K w v 3 0 [127,126,124,127] :=
 Wb.mono h fun j i u hj hi hu e=>by
  subst e;have hj4:j<4:=hj;rcases(show j=0∨j=1∨j=2∨j=3 by omega) with rfl|rfl|rfl|rfl <;> exact hu
def memName:ByteArray:=⟨#[109,101,109,111,114,121]⟩
def globName:ByteArray:=⟨#[103,108,111,98,97,108]⟩
def actB:List Nat:=[97,99,116,105,118,101]
def pasB:List Nat:=[112,97,115,115,105,118,101]
def datsOk (nm:Nat) (ds:List Dat):Prop:=(nm=0∧ds=[])∨(0<nm∧∃ a b:Nat,a<nm∧b<1000∧ds=[⟨true,(a:Int),(b:Int),actB⟩,⟨false,0,0,pasB⟩])
theorem datsOk.len {nm:Nat} {ds:List Dat} (h:datsOk nm ds):ds.length≤2∧(0<nm→ds.length=2):=by
 rcases h with ⟨h,rfl⟩|⟨h,a,b,_,_,rfl⟩
 ·exact⟨nZ _,fun h'=>by omega⟩
 ·exact⟨nR _,fun _=>rfl⟩
def mexp (nm:Nat):List (ByteArray×Int×Int):=if 0<nm then [(memName,2,(nm:Int) - 1)] else []
def fexp (n:Nat):List (ByteArray×Int×Int):=(List.range n).map fun i=>(⟨#[102]⟩++digit i,0,2+(i:Int))
theorem mexp_le (nm:Nat):(mexp nm).length≤1:=by unfold mexp;split <;> simp
theorem fexp_len (n:Nat):(fexp n).length=n:=by simp[fexp]
theorem fexp_succ (n:Nat):fexp (n+1)=fexp n++[(⟨#[102]⟩++digit n,0,2+(n:Int))]:=by simp[fexp,List.range_succ]
def kind3 (t:Int):Prop:=t=127∨t=126∨t=124
def iend:Iv:=⟨11,0,0,0,.slice none 0 0⟩
structure FnI (P:MP) (w:World) (x:MS) (made:Prop) (f:Int×Value×Value):Prop where
 ty:0≤f.1∧f.1<9
 loc:∃ ll:List Int,ll.length≤3∧Wh (WZ P x w) w f.2.1 ll∧∀ t ∈ ll,kind3 t
 code:∃ c:List Iv,c.length≤900000∧Wb (WZ P x w) w f.2.2 c.length 5 (fun j i u=>(flat c)[j * 5+i]?=some u)∧(∀ iv ∈ c,∃ l,Wh (fun k=>k<w.heap.size∧k≠P.T) w iv.l l∧okB iv.op iv.a iv.b iv.n l=true)∧(made→∃ d,c=d++[iend]∧Uq (d.map Iv.op) []=some [])
theorem FnI.step {P:MP} {w w':World} {x x':MS} {made made':Prop} {f:Int×Value×Value} (h:FnI P w x made f) (hs:Vp P w x w' x') (hk:We (fun k=>k<w.heap.size∧k≠P.T) w w') (hm:made'→made):FnI P w' x' made' f:=by
 obtain⟨h1,⟨ll,h2,h3,h4⟩,c,h5,h6,h7,h8⟩:=h;exact⟨h1,⟨ll,h2,hs.ints h3,h4⟩,c,h5,hs.cells h6,fun iv hiv=>by
  obtain⟨l,hl,ho⟩:=h7 iv hiv;exact⟨l,hl.keep hk fun k hk'=>⟨WK hk'.1 hk.size,hk'.2⟩,ho⟩,fun hm'=>h8 (hm hm')⟩
theorem Wh.set {K:Nat→Prop} {w:World} {v:Value} {l:List Int} (h:Wh K w v l) {p:Addr} {u0:Value} (hp:w.cell? p=some u0) (hn:∀ n,u0≠.int .i64 n) (u:Value):Wh K (w.setCell p u) v l:=by
 obtain⟨A,c,rfl,h1,h0,h3⟩:=h;refine⟨A,c,rfl,h1,h0,fun hl=>?_⟩;obtain⟨g,o,rfl,h4,h5⟩:=h3 hl;refine⟨g,o,rfl,h4,fun j hj=>?_⟩;have e:=h5 j hj;by_cases hpe:p=⟨g,o+j,none⟩
 ·rw[hpe,e]at hp;exact absurd (Option.some.inj hp).symm (hn _)
 ·rw[World.cell?_setCell_other _ _ _ _ hpe];exact e
structure VO (P:MP) (W0:World) (X0:MS) (nm n i:Nat) (r:Nat) (w:World) (x:MS):Prop where
 md:Mk P w x
 st:Vp P W0 X0 w x
 m0:x.m0=X0.m0
 m1:x.m1=X0.m1
 m4:x.m4=X0.m4
 fs:x.fs.length=n∧∀ j f,x.fs[j]?=some f→FnI P w x (j<i) f
 ms:x.ms.length=nm∧nm≤3∧∀ m ∈ x.ms,1≤m.1∧m.1≤2∧2≤m.2∧m.2≤4
 ds:∃ ds,VD (WZ P x w) w x.m6 ds∧datsOk nm ds
 es:x.es=mexp nm++fexp n++[(globName,3,(r:Int))]
theorem VO.later {P:MP} {W0:World} {X0:MS} {nm n i r:Nat} {w w':World} {x:MS} (h:VO P W0 X0 nm n i r w x) (hk:We (fun k=>k<w.heap.size∧k≠P.T) w w') (a:Nat) (ha:a≤P.tl.length) (hT:w'.heap[P.T]?=some (.cells #[P.tv,.int .i64 (a:Int)] 48 (0,0))):VO P W0 X0 nm n i r w' { x with at_:=a }:=by
 obtain⟨h1,h2⟩:=h.md.later hk a ha hT;refine⟨h1,h.st.trans h2,h.m0,h.m1,h.m4,⟨h.fs.1,fun j f hf=>(h.fs.2 j f hf).step h2 hk fun h=>h⟩,h.ms,?_,h.es⟩;obtain⟨ds,h3,h4⟩:=h.ds;exact⟨ds,VD.keep h3 h2.keeps h2.mono,h4⟩
theorem VO.code {P:MP} {W0:World} {X0:MS} {nm n i r:Nat} {w:World} {x:MS} (h:VO P W0 X0 nm n i r w x) {g cap:Nat} (hm:x.m2=.slice (some ⟨g,0,none⟩) n cap) (hi:i<n) {cv:Value} {c:List Iv} (hc:c.length≤900000) (hcv:Wb (WZ P x w) w cv c.length 5 (fun j i u=>(flat c)[j * 5+i]?=some u))
 (hl:∀ iv ∈ c,∃ l,Wh (fun k=>k<w.heap.size∧k≠P.T) w iv.l l∧okB iv.op iv.a iv.b iv.n l=true) (hd:∃ d,c=d++[iend]∧Uq (d.map Iv.op) []=some []):∃ fs',VO P W0 X0 nm n (i+1) r (w.setCell ⟨g,i * 3+2,none⟩ cv) { x with fs:=fs' }:=by
 obtain⟨hn,hfs⟩:=h.fs;have hil:i<x.fs.length:=by omega
 have hf:x.fs[i]?=some x.fs[i]:=List.getElem?_eq_getElem hil;obtain⟨f,hfe⟩:∃ f,f=x.fs[i]:=⟨_,rfl⟩;rw[← hfe]at hf;rw[← hn]at hm;obtain⟨h1,h2⟩:=h.md.code hm hf cv;have hfo:=h.md.fo;rw[hm]at hfo;have hgb:x.m2.ownBlock=some g:=by rw[hm];rfl
 have hcell:w.cell? ⟨g,i * 3+2,none⟩=some f.2.2:=by rw[hfo.cellAt _ (by omega)];exact(flatFn_at x.fs i f hf).2.2
 have hni:∀ k,f.2.2≠.int .i64 k:=fun k e=>by
  obtain⟨_,_,c',_,h6,_⟩:=hfs i f hf;obtain⟨A,c2,h7,_⟩:=h6.form;rw[h7]at e;cases e
 have hsz:(w.setCell ⟨g,i * 3+2,none⟩ cv).heap.size=w.heap.size:=by simp[World.setCell]
 have hq:∀ {v l},Wh (fun k=>k<w.heap.size∧k≠P.T) w v l→Wh (fun k=>k<(w.setCell ⟨g,i * 3+2,none⟩ cv).heap.size∧k≠P.T) (w.setCell ⟨g,i * 3+2,none⟩ cv) v l:=fun hv=>by
  rw[hsz];exact hv.set hcell hni cv
 refine⟨_,h1,h.st.trans h2,h.m0,h.m1,h.m4,⟨by rw[List.length_set];exact hn,fun j f' hj=>?_⟩,h.ms,?_,h.es⟩
 ·rw[List.getElem?_set]at hj;by_cases hji:i=j
  ·rw[if_pos hji,if_pos hil]at hj;obtain rfl:=Option.some.inj hj;obtain⟨k1,⟨ll,k2,k3,k4⟩,_⟩:=hfs i f hf;exact⟨k1,⟨ll,k2,h2.ints k3,k4⟩,c,hc,h2.cells hcv,fun iv hiv=>by obtain⟨l,hl',ho⟩:=hl iv hiv;exact⟨l,hq hl',ho⟩,fun _=>hd⟩
  ·rw[if_neg hji]at hj;obtain⟨k1,⟨ll,k2,k3,k4⟩,c',k5,k6,k7,k8⟩:=hfs j f' hj;exact⟨k1,⟨ll,k2,h2.ints k3,k4⟩,c',k5,h2.cells k6,fun iv hiv=>by obtain⟨l,hl',ho⟩:=k7 iv hiv;exact⟨l,hq hl',ho⟩,fun h=>k8 (by omega)⟩
 ·obtain⟨ds,h3,h4⟩:=h.ds;exact⟨ds,VD.keep h3 h2.keeps h2.mono,h4⟩
theorem VO.sigs {P:MP} {W0:World} {X0:MS} {nm n i r:Nat} {w:World} {x:MS} (h:VO P W0 X0 nm n i r w x) (hi:i<n) (hn:n≤4) (h0:Vn (WZ P x w) w x.m0 Ut) (h1:ImpsK (WZ P x w) w x.m1 twoImps) :
 ∃ (t:Nat) (ll:List Int),t<9∧ll.length≤3∧∀ wz,Below w.heap.size w wz →
  (Calls Tryz.prog 16 #[.agg #[x.m0,x.m1,x.m2,x.m3,x.m4,x.m5,x.m6,.slice none 0 0],.int .i64 (2+(i:Int))] wz (LocPost ((Ut.getD t ([],[])).1++ll) wz)) ∧
  (Calls Tryz.prog 17 #[.agg #[x.m0,x.m1,x.m2,x.m3,x.m4,x.m5,x.m6,.slice none 0 0],.int .i64 (2+(i:Int))] wz (SigPost (fun k=>k<w.heap.size∧k≠P.T) (Ut.getD t ([],[])) wz)):=by
 obtain⟨hl,hfs⟩:=h.fs;have hil:i<x.fs.length:=by omega
 have hf:x.fs[i]?=some x.fs[i]:=List.getElem?_eq_getElem hil;obtain⟨f,hfe⟩:∃ f,f=x.fs[i]:=⟨_,rfl⟩;rw[← hfe]at hf;obtain⟨⟨t0,t9⟩,⟨ll,hll,hlk,_⟩,_⟩:=hfs i f hf;obtain⟨l1,l2,l3⟩:=h.md.lts;have hcell:∀ g o n' c,x.m2=.slice (some ⟨g,o,none⟩) n' c→g<w.heap.size∧w.cell? ⟨g,o+i * 3+1,none⟩=some f.2.1:=fun g o n' c e=>by
  have hfo:=h.md.fo;have hb:x.m2.ownBlock=some g:=by rw[e];rfl
  rcases hfo.2 with ⟨e2,_⟩|⟨g',cap,cur,e2,_⟩
  ·rw[e]at e2;cases e2
  ·rw[e]at e2;simp only[vI,Option.some.injEq,Addr.mk.injEq]at e2;obtain⟨⟨rfl,rfl,_⟩,rfl,rfl⟩:=e2;rw[e]at hfo;exact⟨l3 g (.inl hb),by rw[Nat.zero_add,hfo.cellAt _ (by omega)];exact(flatFn_at x.fs i f hf).2.1⟩
 have hsk:∀ k,WZ P x w k→k<w.heap.size∧k≠P.T:=fun k hk=>⟨hk.1.2,hk.2.2.1⟩;have hft:(x.fs.map (·.1)).getD i 0=((f.1.toNat:Nat):Int):=by
  rw[List.getD_eq_getElem?_getD,List.getElem?_map,hf];show f.1=_;omega
 have h3:∀ t,t<9→(Ut.getD t ([],[])).1.length≤3:=by decide
 have hml:(x.fs.map (·.1)).length=n:=by rw[List.length_map];exact hl
 refine⟨f.1.toNat,ll,by omega,hll,fun wz hb=>?_⟩;have hk:We (fun k=>k<w.heap.size∧k≠P.T) w wz:=.below hb fun k hk=>hk.1;have k0:=h0.keep (hk.mono hsk) hsk;have k1:=(imps_field h1).keep (hk.mono hsk) hsk;have k2:=(h.md.types_of (fun k=>k<w.heap.size∧k≠P.T) fun g hg=>⟨l3 g (.inl hg),(h.md.fp g hg).2.2.1⟩).keep hk fun _ h=>h;have e2:(2:Int)+(i:Int)=((([1,7]:List Int).length+i:Nat):Int):=by simp
 rw[e2];exact⟨rloc_yes wz (fun k=>k<w.heap.size∧k≠P.T) (fun k hk=>WK hk.1 hb.size) x.m0 x.m1 x.m2 x.m3 x.m4 x.m5 x.m6 _ Ut [1,7] _ k0 k1 k2 (by rw[hml];show 9+2+n≤1000;omega) i f.1.toNat (by omega) hft (by show f.1.toNat<9;omega) (h3 _ (by omega)) f.2.1 ll (fun g o n' c e=>(hb.cell (p:=⟨g,o+i * 3+1,none⟩) (hcell g o n' c e).1).trans (hcell g o n' c e).2) (hlk.keep (hk.mono hsk) hsk) (by omega),
  rsig_yes (fun k=>k<w.heap.size∧k≠P.T) wz x.m0 x.m1 x.m2 x.m3 x.m4 x.m5 x.m6 _ Ut [1,7] _ k0 k1 k2 (by rw[hml];show 9+2+n≤1000000;omega) _ f.1.toNat (.inr ⟨Nat.le_add_right _ _,by omega,by rw[Nat.add_sub_cancel_left];exact hft⟩) (by show f.1.toNat<9;omega)⟩
theorem VO.forms {P:MP} {W0:World} {X0:MS} {nm n i r:Nat} {w:World} {x:MS} (h:VO P W0 X0 nm n i r w x) (hn:0<n):(∃ A k c,x.m3=.slice A k c)∧(∃ A k c,x.m5=.slice A k c)∧(∃ A k c,x.m6=.slice A k c)∧∃ g c,x.m2=.slice (some ⟨g,0,none⟩) n c∧n≤c:=by
 obtain⟨A3,c3,h3⟩:=Wd h.md.mo;obtain⟨A5,c5,h5⟩:=Wd h.md.eo;obtain⟨ds,hd,_⟩:=h.ds;obtain⟨A6,c6,h6,_⟩:=Wb.form hd;refine⟨⟨_,_,_,h3⟩,⟨_,_,_,h5⟩,⟨_,_,_,h6⟩,?_⟩;rcases h.md.fo.2 with ⟨_,h0⟩|⟨g,cap,cur,h1,_,_,h2,_⟩
 ·have:=h.fs.1;omega
 ·exact⟨g,cap,by rw[h1,h.fs.1],by have:=h.fs.1;omega⟩
theorem VO.spot {P:MP} {W0:World} {X0:MS} {nm n i r:Nat} {w w':World} {x:MS} (h:VO P W0 X0 nm n i r w x) {g cap:Nat} (hm:x.m2=.slice (some ⟨g,0,none⟩) n cap) (hi:i<n) (hk:We (fun k=>k<w.heap.size∧k≠P.T) w w') :
 w'.frozen? ⟨g,i * 3+2,none⟩=false∧(∃ u,w'.cell? ⟨g,i * 3+2,none⟩=some u)∧w'.cell? ⟨P.M,2,none⟩=some x.m2:=by
 obtain⟨l1,_,l3⟩:=h.md.lts;have hfo:=Wu h.md.fo hk fun g hg=>⟨l3 g (.inl hg),(h.md.fp g hg).2.2.1⟩;have hl:=h.fs.1;rw[hm,hl]at hfo;have hlen:i * 3+2<(VL x.fs).length:=by rw[flatFn_length];omega
 exact⟨hfo.frozenAt _,⟨_,by rw[hfo.cellAt _ (by omega)];exact List.getElem?_eq_getElem hlen⟩,(hk.cell (p:=⟨P.M,2,none⟩) ⟨l1,h.md.new.2.2⟩).trans (h.md.cell 2)⟩
theorem Wb.form3 {K:Nat→Prop} {w:World} {v:Value} {n size:Nat} {f:Nat→Nat→Value→Prop} (h:Wb K w v n size f):∃ A k c,v=.slice A k c:=by
 obtain⟨A,c,h1,_⟩:=h.form;exact⟨A,_,c,h1⟩
theorem box_set {w:World} {G:Nat} {cs:Array Value} {t:TypeId} (h:w.heap[G]?=some (.cells cs t (0,0))) (p r v:Value) (ob:Obj) :
 ((((w.setCell ⟨G,10,none⟩ p).setCell ⟨G,11,none⟩ r).alloc ob).setCell ⟨G,13,none⟩ v).heap[G]?=some (.cells (((cs.setIfInBounds 10 p).setIfInBounds 11 r).setIfInBounds 13 v) t (0,0)):=by
 have h1:=Wi w G 10 cs t p h;have h2:=Wi _ G 11 _ t r h1;have hlt:=(Array.getElem?_eq_some_iff.1 h2).1;exact Wi _ G 13 _ t v ((Below.heap_alloc _ ob _ hlt).trans h2)
theorem VO.gen {P:MP} {W0:World} {X0:MS} {nm n i r:Nat} {w w3:World} {x:MS} (h:VO P W0 X0 nm n i r w x) (hn:0<n∧n≤4) (h0:Vn (WZ P x w) w x.m0 Ut) (h1:ImpsK (WZ P x w) w x.m1 twoImps) (h4:GlobsK (WZ P x w) w x.m4 UG)
 {G:Nat} (hG:w.heap.size≤G) {lov:Value} {lo:List Int} (hlo:Wh (fun k=>w.heap.size≤k∧k<G) w3 lov lo) (hlo1:lo.length≤100) {p rv:Value} {t:List Int×List Int} (hr:Wh (fun k=>k<w.heap.size∧k≠P.T) w3 rv t.2) (hr3:t.2.length≤3)
 (hw3:Below w.heap.size w w3) (hG3:w3.heap[G]?=some (.cells #[.pointer (some ⟨P.T,0,none⟩),x.m0,x.m1,x.m2,x.m3,x.m4,x.m5,x.m6,.slice none 0 0,lov,.slice none 0 0,.slice none 0 0,.slice none 0 0,.slice none 0 0,.slice none 0 0,.int .i64 40,.bool true] 71 (0,0))) :
 ∃ F x0,F.G=G∧F.T=P.T∧F.o=some []∧(∀ k,¬ F.E k)∧F.tl=P.tl∧F.rv=rv∧F.ro=t.2∧x0.s=[]∧x0.c=[]∧x0.nl=1∧x0.left=40∧F.tv=P.tv ∧
  WJ F ((((w3.setCell ⟨G,10,none⟩ p).setCell ⟨G,11,none⟩ rv).alloc (.cells #[rv] 22)).setCell ⟨G,13,none⟩ (.slice (some ⟨w3.heap.size,0,none⟩) 1 1)) x0 ∧
  Below w.heap.size w ((((w3.setCell ⟨G,10,none⟩ p).setCell ⟨G,11,none⟩ rv).alloc (.cells #[rv] 22)).setCell ⟨G,13,none⟩ (.slice (some ⟨w3.heap.size,0,none⟩) 1 1)) ∧
  (∀ k,k<w.heap.size∧k≠P.T→Ug F ((((w3.setCell ⟨G,10,none⟩ p).setCell ⟨G,11,none⟩ rv).alloc (.cells #[rv] 22)).setCell ⟨G,13,none⟩ (.slice (some ⟨w3.heap.size,0,none⟩) 1 1)) x0 k) ∧
  (∀ k,¬ (k=G∨k=P.T)→k<((((w3.setCell ⟨G,10,none⟩ p).setCell ⟨G,11,none⟩ rv).alloc (.cells #[rv] 22)).setCell ⟨G,13,none⟩ (.slice (some ⟨w3.heap.size,0,none⟩) 1 1)).heap.size→Ug F ((((w3.setCell ⟨G,10,none⟩ p).setCell ⟨G,11,none⟩ rv).alloc (.cells #[rv] 22)).setCell ⟨G,13,none⟩ (.slice (some ⟨w3.heap.size,0,none⟩) 1 1)) x0 k):=by
 have hGlt:=(Array.getElem?_eq_some_iff.1 hG3).1;have hbx:=box_set hG3 p rv (.slice (some ⟨w3.heap.size,0,none⟩) 1 1) (.cells #[rv] 22);have hsz1:((w3.setCell ⟨G,10,none⟩ p).setCell ⟨G,11,none⟩ rv).heap.size=w3.heap.size:=by simp[World.setCell]
 have hsz:((((w3.setCell ⟨G,10,none⟩ p).setCell ⟨G,11,none⟩ rv).alloc (.cells #[rv] 22)).setCell ⟨G,13,none⟩ (.slice (some ⟨w3.heap.size,0,none⟩) 1 1)).heap.size=w3.heap.size+1:=by simp[World.setCell]
 have hkp:We (fun k=>k<w3.heap.size∧k≠G) w3 ((((w3.setCell ⟨G,10,none⟩ p).setCell ⟨G,11,none⟩ rv).alloc (.cells #[rv] 22)).setCell ⟨G,13,none⟩ (.slice (some ⟨w3.heap.size,0,none⟩) 1 1)) :=
  (We.setCell w3 (fun e=>e.2 rfl) p).trans ((We.setCell _ (fun e=>e.2 rfl) rv).trans ((We.alloc _ (fun k hk=>by rw[hsz1];exact hk.1) _).trans (We.setCell _ (fun e=>e.2 rfl) _)))
 have hlb:((((w3.setCell ⟨G,10,none⟩ p).setCell ⟨G,11,none⟩ rv).alloc (.cells #[rv] 22)).setCell ⟨G,13,none⟩ (.slice (some ⟨w3.heap.size,0,none⟩) 1 1)).cell? ⟨w3.heap.size,0,none⟩=some rv:=by
  rw[World.cell?_setCell_far _ _ _ _ (by show G≠w3.heap.size;omega)];have h9:=wN ((w3.setCell ⟨G,10,none⟩ p).setCell ⟨G,11,none⟩ rv) #[rv] 22 0;rw[hsz1]at h9;exact h9
 generalize ((((w3.setCell ⟨G,10,none⟩ p).setCell ⟨G,11,none⟩ rv).alloc (.cells #[rv] 22)).setCell ⟨G,13,none⟩ (.slice (some ⟨w3.heap.size,0,none⟩) 1 1))=w4 at *;have hw3s:=hw3.size;have hb4:Below w.heap.size w w4:=⟨hkp.os.trans hw3.os,hkp.tape.trans hw3.tape,hkp.output.trans hw3.output,by omega,fun k hk=>(hkp.block k ⟨by omega,by omega⟩).trans (hw3.block k hk)⟩;obtain⟨hm4,hs4⟩:=h.md.below hb4;obtain⟨l1,l2,l3⟩:=h.md.lts;have hK4:We (fun k=>k<w.heap.size∧k≠P.T) w w4:=.below hb4 fun k hk=>hk.1;have hsk:∀ k,WZ P x w k→k<w4.heap.size∧k≠G∧k≠P.T:=fun k hk=>⟨by have:=hk.1.2;omega,by have:=hk.1.2;omega,hk.2.2.1⟩;have hks:We (WZ P x w) w w4:=.below hb4 fun k hk=>hk.1.2;obtain⟨ds,hd,hdo⟩:=h.ds;have hdl:=hdo.len;obtain⟨Ad,cd,hde,hd1,hd2⟩:=hd.form;have hgen:=gen_start hm4 G lov lo p rv t.2 ds.length (.slice (some ⟨w3.heap.size,0,none⟩) 1 1) hbx ⟨by omega,by omega,fun e=>by have:=l3 G e;omega,by have:=h.md.bel.size;omega⟩
  (hlo.keep (hkp.mono fun k hk=>⟨by omega,by omega⟩) fun k hk=>⟨by omega,by omega,by omega⟩) hlo1 (hr.keep (hkp.mono fun k hk=>⟨by omega,by omega⟩) fun k hk=>⟨by omega,by omega,hk.2⟩) hr3
  (h0.keep hks hsk) ((imps_field h1).keep hks hsk) ((globs_field h4).keep hks hsk) ⟨by have:=h.fs.1;omega,by have:=h.fs.1;omega,fun f hf=>by obtain⟨j,hj,rfl⟩:=List.mem_iff_getElem.1 hf;exact(h.fs.2 j _ (List.getElem?_eq_getElem hj)).ty⟩ (by rw[h.ms.1];exact h.ms.2.1)
  ⟨⟨Ad,cd,hde,hd1,hd2⟩,hdl.1,fun hp=>hdl.2 (by rw[h.ms.1]at hp;exact hp)⟩
  ⟨_,1,rfl,nR _,by unfold maxLen;omega,(fun h=>by cases h),fun _=>⟨w3.heap.size,0,rfl,⟨by omega,by omega,by omega⟩,fun j i' hj hi'=>by
   obtain rfl:j=0:=by omega
   obtain rfl:i'=0:=by omega
   exact⟨rv,hlb,t.2,hr3,hr.keep (hkp.mono fun k hk=>⟨by omega,by omega⟩) fun k hk=>⟨by omega,by omega,by have:=hk.2;omega⟩⟩⟩⟩
 have hfr:∀ k,¬ (k=G∨k=P.T)→k<w4.heap.size→Ug (fxOf P x G lov lo p rv t.2 ds.length) w4 (stOf (.slice (some ⟨w3.heap.size,0,none⟩) 1 1) x.at_) k:=fun k hk hlt=>⟨hlt,fun e=>by
  rcases e with e|e|e|e
  ·exact hk (.inl e)
  ·exact hk (.inr e)
  ·cases e
  ·cases e⟩
 exact⟨_,_,rfl,rfl,rfl,fun _ e=>e,rfl,rfl,rfl,rfl,rfl,rfl,rfl,rfl,hgen,hb4,fun k hk=>hfr k (fun e=>by rcases e with e|e;omega;exact hk.2 e) (by omega),hfr⟩
theorem VO.made {P:MP} {W0:World} {X0:MS} {nm n i r:Nat} {w w4 w9:World} {x:MS} (h:VO P W0 X0 nm n i r w x) {F:Fx} {x0 x9:St} (hT:F.T=P.T) (htl:F.tl=P.tl) (htv:F.tv=P.tv) (hb4:Below w.heap.size w w4) (hfr:∀ k,k<w.heap.size∧k≠P.T→Ug F w4 x0 k) (hfr2:∀ k,¬ (k=F.G∨k=P.T)→k<w4.heap.size→Ug F w4 x0 k)
 (hg:WJ F w9 x9) (hs:Wt F w4 x0 w9 x9) (hi:i<n) {g cap:Nat} (hm:x.m2=.slice (some ⟨g,0,none⟩) n cap) (hc:x9.c.length≤900000) (hd:∃ d,x9.c=d++[iend]∧Uq (d.map Iv.op) []=some []) :
 ∃ y',VO P W0 X0 nm n (i+1) r (w9.setCell ⟨g,i * 3+2,none⟩ x9.cv) y':=by
 have hK:We (fun k=>k<w.heap.size∧k≠P.T) w w9:=(We.below hb4 fun k hk=>hk.1).trans (hs.keeps.mono hfr);have hf9:=h.later hK x9.at_ (by rw[← htl];exact hg.le) (by rw[← hT,← htv];exact hg.ht);obtain⟨l1,l2,l3⟩:=h.md.lts;obtain⟨g1,g2,g3,g4⟩:=hg.lts;have hsz:=hb4.size;have hcv:∀ k,x9.cv.ownBlock=some k→w4.heap.size≤k:=fun k hk=>by
  rcases Nat.lt_or_ge k w4.heap.size with hlt|hge
  ·obtain⟨q1,q2⟩:=hg.cp k hk;have:=hs.mono k (hfr2 k (fun e=>by rcases e with e|e;exact q1 e;exact q2 (e.trans hT.symm)) hlt);exact absurd (.inr (.inr (.inr hk))) this.2
  ·exact hge
 have hWs:=h.md.bel.size;obtain⟨fs',hf'⟩:=hf9.code hm hi hc (Ue hg.co _ (fun k hk=>(⟨⟨by have:=hcv k hk;omega,g4 k hk⟩,by have:=hcv k hk;omega,by have:=hcv k hk;omega,fun e=>by have:=hcv k hk;have:=l3 k e;omega⟩:WZ P _ w9 k)) fun j i' hj hi'=>by
  have hlt:j * 5+i'<(flat x9.c).length:=by rw[flat_length];omega
  exact⟨_,List.getElem?_eq_getElem hlt,List.getElem?_eq_getElem hlt⟩)
  (fun iv hiv=>by
   obtain⟨l,hl,ho⟩:=hg.reads.code iv hiv;exact⟨l,hl.keep (.refl _ _) fun k hk=>⟨hk.1.1,fun e=>hk.1.2 (.inr (.inl (e.trans hT.symm)))⟩,ho⟩) hd
 exact⟨_,hf'⟩
theorem list_of {α β:Type} (R:α→β→Prop) (l:List α) (h:∀ a ∈ l,∃ b,R a b):∃ m:List β,m.length=l.length∧∀ (j:Nat) (a:α),l[j]?=some a→∃ b,m[j]?=some b∧R a b:=by
 induction l with
 | nil=>exact⟨[],rfl,fun j a h=>by simp at h⟩
 | cons x l ih =>
  obtain⟨b,hb⟩:=h x (List.mem_cons_self ..);obtain⟨m,h1,h2⟩:=ih fun a ha=>h a (List.mem_cons_of_mem _ ha);refine⟨b :: m,by simp[h1],fun j a hj=>?_⟩;cases j with
  | zero=>simp only[List.getElem?_cons_zero,Option.some.injEq]at hj;subst hj;exact⟨b,rfl,hb⟩
  | succ j=>simpa using h2 j a (by simpa using hj)
theorem flat_at (c:List Iv):∀ k (iv:Iv),c[k]?=some iv→(flat c)[k * 5]?=some (.int .i64 iv.op)∧(flat c)[k * 5+1]?=some (.int .i64 iv.a)∧(flat c)[k * 5+2]?=some (.int .i64 iv.b)∧(flat c)[k * 5+3]?=some (.int .u64 iv.n)∧(flat c)[k * 5+4]?=some iv.l:=by
 induction c with
 | nil=>intro k iv h;simp at h
 | cons x c ih =>
  intro k iv h;rw[show flat (x :: c)=x.cells++flat c from rfl];cases k with
  | zero=>simp only[List.getElem?_cons_zero,Option.some.injEq]at h;subst h;exact⟨rfl,rfl,rfl,rfl,rfl⟩
  | succ k =>
   have h3:x.cells.length=5:=rfl;rw[List.getElem?_append_right (by rw[h3];omega),List.getElem?_append_right (by rw[h3];omega),List.getElem?_append_right (by rw[h3];omega),List.getElem?_append_right (by rw[h3];omega),List.getElem?_append_right (by rw[h3];omega),h3,show(k+1) * 5 - 5=k * 5 by omega,show(k+1) * 5+1 - 5=k * 5+1 by omega,show(k+1) * 5+2 - 5=k * 5+2 by omega,show(k+1) * 5+3 - 5=k * 5+3 by omega,show(k+1) * 5+4 - 5=k * 5+4 by omega];exact ih k iv (by simpa using h)
theorem most_word (op:Int):(Wl op).2.2.2.1≤18446744073709551615:=by
 exact ZU
theorem ok_word {op a b n:Int} {l:List Int} (h:okB op a b n l=true):V7 n:=by
 simp only[okB,insB,Bool.and_eq_true,decide_eq_true_eq]at h;exact⟨h.1,Int.le_trans h.2.1.1.2 (most_word op)⟩
theorem most_labs (op:Int):(Wl op).2.2.2.2.2≤17:=by
 exact ZU
theorem ok_fit {op a b n:Int} {l:List Int} (h:okB op a b n l=true):fitN l.length:=by
 simp only[okB,insB,Bool.and_eq_true,decide_eq_true_eq,inB]at h;have h1:=h.2.1.2.2;have h2:=most_labs op;unfold fitN;omega
def ivIs (w:World) (iv:Iv) (x:Ins):Prop:=iv.op=x.op∧iv.a=x.a∧iv.b=x.b∧iv.n=x.n∧Wh (fun k=>k<w.heap.size) w iv.l x.l∧okB x.op x.a x.b x.n x.l=true
theorem codeK_of {K:Nat→Prop} {w:World} {v:Value} {c:List Iv} (h:Wb K w v c.length 5 (fun j i u=>(flat c)[j * 5+i]?=some u)) (hK:∀ k,K k→k<w.heap.size) (hl:∀ iv ∈ c,∃ l,Wh (fun k=>k<w.heap.size) w iv.l l∧okB iv.op iv.a iv.b iv.n l=true) :
 ∃ d:List Ins,d.length=c.length∧WO (fun k=>k<w.heap.size) w v d∧∀ (j:Nat) (iv:Iv),c[j]?=some iv→∃ x,d[j]?=some x∧ivIs w iv x:=by
 obtain⟨d,hd,hr⟩:=list_of (ivIs w) c fun iv hiv=>by
  obtain⟨l,hl',ho⟩:=hl iv hiv;exact⟨⟨iv.op,iv.a,iv.b,iv.n,l⟩,rfl,rfl,rfl,rfl,hl',ho⟩
 refine⟨d,hd,?_,hr⟩;unfold WO;rw[hd];have h':Wb (fun k=>k<w.heap.size) w v c.length 5 (fun j i u=>(flat c)[j * 5+i]?=some u):=h.keep (.refl _ _) hK fun _ _ _ h=>h;refine h'.mono fun j i u hj hi hu=>?_;have hj':c[j]?=some c[j]:=List.getElem?_eq_getElem hj;obtain⟨x,hx,e1,e2,e3,e4,e5,ho⟩:=hr j _ hj';obtain⟨f0,f1,f2,f3,f4⟩:=flat_at c j _ hj';have hg:d.getD j VX=x:=by rw[List.getD_eq_getElem?_getD,hx];rfl
 rw[hg];rcases(show i=0∨i=1∨i=2∨i=3∨i=4 by omega) with rfl|rfl|rfl|rfl|rfl
 ·rw[Nat.add_zero,f0]at hu;obtain rfl:=Option.some.inj hu;show _=Value.int .i64 x.op;rw[e1]
 ·rw[f1]at hu;obtain rfl:=Option.some.inj hu;show _=Value.int .i64 x.a;rw[e2]
 ·rw[f2]at hu;obtain rfl:=Option.some.inj hu;show _=Value.int .i64 x.b;rw[e3]
 ·rw[f3]at hu;obtain rfl:=Option.some.inj hu;exact⟨by rw[e4],ok_word ho⟩
 ·rw[f4]at hu;obtain rfl:=Option.some.inj hu;exact⟨e5,ok_fit ho⟩
def codeOk (c:List Ins):Prop:=c.length≤900000∧∃ d,c=d++[⟨11,0,0,0,[]⟩]∧Uq (d.map Ins.op) []=some []
def fncOk (x:Fnc):Prop:=0≤x.ty∧x.ty<9∧x.loc.length≤3∧(∀ t ∈ x.loc,kind3 t)∧codeOk x.code
def fncIs (w:World) (f:Int×Value×Value) (x:Fnc):Prop:=f.1=x.ty∧Wh (fun k=>k<w.heap.size) w f.2.1 x.loc∧WO (fun k=>k<w.heap.size) w f.2.2 x.code
structure Kept (P:MP) (w w':World):Prop where
 keeps:We (fun k=>(P.W.heap.size≤k∧k<w.heap.size)∧k≠P.M∧k≠P.T) w w'
 lists:∀ v l,Wh (fun k=>k<w.heap.size∧k≠P.T) w v l→Wh (fun k=>k<w'.heap.size) w' v l
theorem Kept.still {P:MP} {w w':World} (h:Kept P w w') {x:MS}:We (WZ P x w) w w'∧∀ k,WZ P x w k→k<w'.heap.size :=
 ⟨h.keeps.mono fun _ hk=>⟨hk.1,hk.2.1,hk.2.2.1⟩,fun _ hk=>WK hk.1.2 h.keeps.size⟩
theorem FnI.data {P:MP} {w w':World} {x:MS} {made:Prop} {f:Int×Value×Value} (h:FnI P w x made f) (hm:made) (hw:Kept P w w'):∃ y,fncIs w' f y∧fncOk y∧∀ i ∈ y.code,okB i.op i.a i.b i.n i.l=true:=by
 obtain⟨⟨h1,h1'⟩,⟨ll,h2,h3,h4⟩,c,h5,h6,h7,h8⟩:=h;obtain⟨s1,s2⟩:=hw.still (x:=x);obtain⟨d,hd,hk,hr⟩:=codeK_of (h6.keep s1 s2 fun _ _ _ h=>h) (fun _ h=>h) (fun iv hiv=>by obtain⟨l,hl,ho⟩:=h7 iv hiv;exact⟨l,hw.lists _ _ hl,ho⟩);obtain⟨b,rfl,hb⟩:=h8 hm;refine⟨⟨f.1,ll,d⟩,⟨rfl,h3.keep s1 s2,hk⟩,⟨h1,h1',h2,h4,by show d.length≤_;omega,d.take b.length,?_,?_⟩,fun i hi=>?_⟩
 ·obtain⟨x1,hx1,e1,e2,e3,e4,e5,_⟩:=hr b.length iend (by simp);obtain⟨A,cp,he,_⟩:=e5;have hx0:x1.l=[]:=by
   have he2:(Value.slice none 0 0:Value)=.slice A x1.l.length cp:=he;simp only[vI]at he2;exact List.eq_nil_of_length_eq_zero he2.2.1.symm
  have hxe:x1=⟨11,0,0,0,[]⟩:=by
   cases x1
   simp only[iend]at e1 e2 e3 e4 hx0;simp only[← e1,← e2,← e3,← e4,hx0]
  have hlen:d.length=b.length+1:=by rw[hd];simp
  refine List.ext_getElem? fun j=>?_;show d[j]?=(d.take b.length++[⟨11,0,0,0,[]⟩])[j]?;rcases Nat.lt_trichotomy j b.length with hj|hj|hj
  ·rw[List.getElem?_append_left (by rw[List.length_take];omega),List.getElem?_take,if_pos hj]
  ·subst hj;rw[List.getElem?_append_right (by rw[List.length_take];omega),hx1,hxe,List.length_take,Nat.min_eq_left (by omega),Nat.sub_self];rfl
  ·rw[List.getElem?_eq_none (by omega),List.getElem?_eq_none (by rw[List.length_append,List.length_take];simp;omega)]
 ·have e:(d.take b.length).map Ins.op=b.map Iv.op:=by
   refine List.ext_getElem? fun j=>?_;rw[List.getElem?_map,List.getElem?_map,List.getElem?_take];by_cases hj:j<b.length
   ·rw[if_pos hj];have hj':(b++[iend])[j]?=some b[j]:=by rw[List.getElem?_append_left hj,List.getElem?_eq_getElem hj]
    obtain⟨y,hy,e1,_⟩:=hr j _ hj';rw[hy,List.getElem?_eq_getElem hj];simp[e1]
   ·rw[if_neg hj,List.getElem?_eq_none (by omega)];rfl
  rw[e];exact hb
 ·obtain⟨j,hj,rfl⟩:=List.mem_iff_getElem.1 (show i ∈ d from hi);have hj':(b++[iend])[j]?=some ((b++[iend])[j]'(by omega)):=List.getElem?_eq_getElem _;obtain⟨y,hy,_,_,_,_,_,ho⟩:=hr j _ hj';rw[List.getElem?_eq_getElem hj]at hy;obtain rfl:=Option.some.inj hy;exact ho
structure MadeM (m:Vz):Prop where
 types:m.types=Ut
 imps:m.imps=twoImps
 funs:(0<m.funs.length∧m.funs.length≤4)∧∀ f ∈ m.funs,fncOk f
 mems:m.mems.length≤3∧∀ x ∈ m.mems,1≤x.1∧x.1≤2∧2≤x.2∧x.2≤4
 globs:m.globs=UG
 exps:∃ r:Nat,r<4∧m.exps=mexp m.mems.length++fexp m.funs.length++[(globName,3,(r:Int))]
 datas:datsOk m.mems.length m.datas
 cus:m.cus=[]
 oks:∀ f ∈ m.funs,∀ i ∈ f.code,okB i.op i.a i.b i.n i.l=true
theorem flatMm_at (l:List (Int×Int)):∀ k (f:Int×Int),l[k]?=some f→(flatMm l)[k * 2]?=some (.int .i64 f.1)∧(flatMm l)[k * 2+1]?=some (.int .i64 f.2):=by
 induction l with
 | nil=>intro k f h;simp at h
 | cons x l ih =>
  intro k f h;rw[show flatMm (x :: l)=mmCells x++flatMm l from rfl];cases k with
  | zero=>simp only[List.getElem?_cons_zero,Option.some.injEq]at h;subst h;exact⟨rfl,rfl⟩
  | succ k =>
   have h3:(mmCells x).length=2:=rfl;rw[List.getElem?_append_right (by rw[h3];omega),List.getElem?_append_right (by rw[h3];omega),h3,show(k+1) * 2 - 2=k * 2 by omega,show(k+1) * 2+1 - 2=k * 2+1 by omega];exact ih k f (by simpa using h)
theorem flatEx_at (l:List (ByteArray×Int×Int)):∀ k (f:ByteArray×Int×Int),l[k]?=some f→(Um l)[k * 3]?=some (.string f.1)∧(Um l)[k * 3+1]?=some (.int .i64 f.2.1)∧(Um l)[k * 3+2]?=some (.int .i64 f.2.2):=by
 induction l with
 | nil=>intro k f h;simp at h
 | cons x l ih =>
  intro k f h;rw[show Um (x :: l)=Uy x++Um l from rfl];cases k with
  | zero=>simp only[List.getElem?_cons_zero,Option.some.injEq]at h;subst h;exact⟨rfl,rfl,rfl⟩
  | succ k =>
   have h3:(Uy x).length=3:=rfl;exact ZbB
theorem getD_some {α:Type} {l:List α} {j:Nat} {a d:α} (h:l[j]?=some a):l.getD j d=a:=by rw[List.getD_eq_getElem?_getD,h];rfl
theorem VO.data {P:MP} {W0:World} {X0:MS} {nm n r:Nat} {w w':World} {x:MS} (h:VO P W0 X0 nm n n r w x) (hn:0<n∧n≤4) (hr:r<4) (h0:Vn (WZ P x w) w x.m0 Ut) (h1:ImpsK (WZ P x w) w x.m1 twoImps) (h4:GlobsK (WZ P x w) w x.m4 UG) (hw:Kept P w w') :
 ∃ m,MadeM m∧WL (fun k=>k<w'.heap.size) w' ⟨x.m0,x.m1,x.m2,x.m3,x.m4,x.m5,x.m6,.slice none 0 0⟩ m:=by
 obtain⟨fs,hl,hf⟩:=list_of (fun f y=>fncIs w' f y∧fncOk y∧∀ i ∈ y.code,okB i.op i.a i.b i.n i.l=true) x.fs fun f hf=>by
  obtain⟨j,hj,rfl⟩:=List.mem_iff_getElem.1 hf;exact(h.fs.2 j _ (List.getElem?_eq_getElem hj)).data (by have:=h.fs.1;omega) hw
 obtain⟨ds,hd,hdo⟩:=h.ds;obtain⟨_,_,l3⟩:=h.md.lts;obtain⟨s1,s2⟩:=hw.still (x:=x);have ko:∀ g,own3 x g→((P.W.heap.size≤g∧g<w.heap.size)∧g≠P.M∧g≠P.T):=fun g hg=>by
  rcases hg with e|e|e
  ·have:=h.md.fp g e;exact⟨⟨this.1,l3 g (.inl e)⟩,this.2.1,this.2.2.1⟩
  ·have:=h.md.mp g e;exact⟨⟨this.1,l3 g (.inr (.inl e))⟩,this.2.1,this.2.2.1⟩
  ·have:=h.md.ep g e;exact⟨⟨this.1,l3 g (.inr (.inr e))⟩,this.2.1,this.2.2⟩
 have hsz:=hw.keeps.size;have hfl:fs.length=n:=hl.trans h.fs.1;refine⟨⟨Ut,twoImps,fs,x.ms,UG,x.es,ds,[]⟩,⟨rfl,rfl,⟨by show 0<fs.length∧fs.length≤4;omega,fun y hy=>?_⟩,⟨by show x.ms.length≤3;rw[h.ms.1];exact h.ms.2.1,h.ms.2.2⟩,rfl,⟨r,hr,?_⟩,?_,rfl,fun y hy=>?_⟩,
  ⟨h0.keep s1 s2,Wb.keep h1 s1 s2 (fun _ _ _ h=>h),?_,?_,Wb.keep h4 s1 s2 (fun _ _ _ h=>h),?_,VD.keep hd s1 s2,⟨none,0,rfl,nR _,nZ _,fun _=>rfl,fun h=>absurd h (Nat.lt_irrefl 0)⟩⟩⟩
 ·obtain⟨j,hj,rfl⟩:=List.mem_iff_getElem.1 hy;have hjf:j<fs.length:=hj;have hj':j<x.fs.length:=by have:=h.fs.1;omega
  obtain⟨b,hb,_,hok,_⟩:=hf j _ (List.getElem?_eq_getElem hj');rw[List.getElem?_eq_getElem hj]at hb;obtain rfl:=Option.some.inj hb;exact hok
 ·show x.es=mexp x.ms.length++fexp fs.length++_;rw[h.ms.1,hfl];exact h.es
 ·show datsOk x.ms.length ds;rw[h.ms.1];exact hdo
 ·obtain⟨j,hj,rfl⟩:=List.mem_iff_getElem.1 hy;have hjf:j<fs.length:=hj;have hj':j<x.fs.length:=by have:=h.fs.1;omega
  obtain⟨b,hb,_,_,hok⟩:=hf j _ (List.getElem?_eq_getElem hj');rw[List.getElem?_eq_getElem hj]at hb;obtain rfl:=Option.some.inj hb;exact hok
 ·show FunsK _ w' x.m2 fs;unfold FunsK;rw[hl];refine Ue (Wu h.md.fo hw.keeps fun g hg=>ko g (.inl hg)) _ (fun g hg=>WK (l3 g (.inl hg)) hsz) fun j i hj hi=>?_;have hj':x.fs[j]?=some x.fs[j]:=List.getElem?_eq_getElem hj;obtain⟨y,hy,⟨e1,e2,e3⟩,_⟩:=hf j _ hj';obtain⟨f0,f1,f2⟩:=flatFn_at x.fs j _ hj';rw[getD_some hy];rcases(show i=0∨i=1∨i=2 by omega) with rfl|rfl|rfl
  ·exact⟨_,f0,by show _=Value.int .i64 y.ty;rw[e1]⟩
  ·exact⟨_,f1,e2⟩
  ·exact⟨_,f2,e3⟩
 ·refine Ue (Wu h.md.mo hw.keeps fun g hg=>ko g (.inr (.inl hg))) _ (fun g hg=>WK (l3 g (.inr (.inl hg))) hsz) fun j i hj hi=>?_;have hj':x.ms[j]?=some x.ms[j]:=List.getElem?_eq_getElem hj;obtain⟨f0,f1⟩:=flatMm_at x.ms j _ hj';show ∃ u,_∧memCell (x.ms.getD j (0,0)) i u;rw[getD_some hj'];rcases(show i=0∨i=1 by omega) with rfl|rfl
  ·exact⟨_,f0,rfl⟩
  ·exact⟨_,f1,rfl⟩
 ·refine Ue (Wu h.md.eo hw.keeps fun g hg=>ko g (.inr (.inr hg))) _ (fun g hg=>WK (l3 g (.inr (.inr hg))) hsz) fun j i hj hi=>?_;have hj':x.es[j]?=some x.es[j]:=List.getElem?_eq_getElem hj;obtain⟨f0,f1,f2⟩:=flatEx_at x.es j _ hj';show ∃ u,_∧expCell (x.es.getD j (ByteArray.empty,0,0)) i u;rw[getD_some hj'];rcases(show i=0∨i=1∨i=2 by omega) with rfl|rfl|rfl
  ·exact⟨_,f0,rfl⟩
  ·exact⟨_,f1,rfl⟩
  ·exact⟨_,f2,rfl⟩
def fill8 (w:World) (B:Nat) (v:Mv):World:=((((((((w.setCell ⟨B,0,none⟩ v.m0).setCell ⟨B,1,none⟩ v.m1).setCell ⟨B,2,none⟩ v.m2).setCell ⟨B,3,none⟩ v.m3).setCell ⟨B,4,none⟩ v.m4).setCell ⟨B,5,none⟩ v.m5).setCell ⟨B,6,none⟩ v.m6).setCell ⟨B,7,none⟩ v.m7)
theorem Vc {w:World} {B:Nat} {T:TypeId} (h:w.heap[B]?=some (.cells Wv T (0,0))) (i:Nat) (hi:i<8):w.frozen? ⟨B,i,none⟩=false∧w.cell? ⟨B,i,none⟩=some (.slice none 0 0):=by
 refine⟨by simp[World.frozen?,h],?_⟩;simp only[World.cell?,h];rcases(show i=0∨i=1∨i=2∨i=3∨i=4∨i=5∨i=6∨i=7 by omega) with rfl|rfl|rfl|rfl|rfl|rfl|rfl|rfl <;> rfl
theorem fill8_at {w:World} {B:Nat} {T:TypeId} (h:w.heap[B]?=some (.cells Wv T (0,0))) (v:Mv):(fill8 w B v).heap[B]?=some (.cells v.cells T (0,0)):=by
 have h0:=Wi w B 0 _ T v.m0 h;have h1:=Wi _ B 1 _ T v.m1 h0;have h2:=Wi _ B 2 _ T v.m2 h1;have h3:=Wi _ B 3 _ T v.m3 h2;have h4:=Wi _ B 4 _ T v.m4 h3;have h5:=Wi _ B 5 _ T v.m5 h4;have h6:=Wi _ B 6 _ T v.m6 h5;have h7:=Wi _ B 7 _ T v.m7 h6;have e:(((((((Wv.setIfInBounds 0 v.m0).setIfInBounds 1 v.m1).setIfInBounds 2 v.m2).setIfInBounds 3 v.m3).setIfInBounds 4 v.m4).setIfInBounds 5 v.m5).setIfInBounds 6 v.m6).setIfInBounds 7 v.m7=v.cells:=by simp[Wv,Mv.cells]
 rw[e]at h7;exact h7
theorem Uc (w:World) (B:Nat) (v:Mv):We (fun k=>k≠B) w (fill8 w B v) :=
 (We.setCell w (fun e=>e rfl) v.m0).trans ((We.setCell _ (fun e=>e rfl) v.m1).trans ((We.setCell _ (fun e=>e rfl) v.m2).trans ((We.setCell _ (fun e=>e rfl) v.m3).trans ((We.setCell _ (fun e=>e rfl) v.m4).trans ((We.setCell _ (fun e=>e rfl) v.m5).trans ((We.setCell _ (fun e=>e rfl) v.m6).trans (We.setCell _ (fun e=>e rfl) v.m7)))))))
theorem Wh.fill8 {K:Nat→Prop} {w:World} {B:Nat} {T:TypeId} (h:w.heap[B]?=some (.cells Wv T (0,0))) (v:Mv) {u:Value} {l:List Int} (hu:Wh K w u l):Wh K (Go.Proofs.YtgmgcadlkebokaaGreatDoor.fill8 w B v) u l:=by
 obtain⟨A,c,rfl,h1,h0,h3⟩:=hu;refine⟨A,c,rfl,h1,h0,fun hl=>?_⟩;obtain⟨g,o,rfl,h4,h5⟩:=h3 hl;refine⟨g,o,rfl,h4,fun j hj=>?_⟩;have e:=h5 j hj;by_cases hg:g=B
 ·subst hg;rcases Nat.lt_or_ge (o+j) 8 with h8|h8
  ·rw[(Vc h _ h8).2]at e;cases e
  ·simp only[World.cell?,h]at e;have:Wv[o+j]?=none:=Array.getElem?_eq_none (by show 8≤o+j;omega);rw[if_neg (by simp),this]at e;cases e
 ·exact((Uc w B v).cell (p:=⟨g,o+j,none⟩) hg).trans e
theorem kept_fill8 {P:MP} {w:World} {x:MS} (h:Mk P w x) {B:Nat} {T:TypeId} (hB:B<P.W.heap.size) (hz:P.W.heap[B]?=some (.cells Wv T (0,0))) (v:Mv):Kept P w (fill8 w B v):=by
 have hz':=(h.bel.block B hB).trans hz;have hk:=Uc w B v;exact⟨hk.mono fun k hk'=>by have:=hk'.1.1;omega,fun u l hu=>(hu.fill8 hz' v).keep (.refl _ _) fun k hk'=>WK hk'.1 hk.size⟩
theorem below_fill8 {w0 w:World} {B:Nat} (h:Below w0.heap.size w0 w) (hB:w0.heap.size≤B) (v:Mv):Below w0.heap.size w0 (fill8 w B v) :=
 (((((((h.setCell (by exact hB) _).setCell (by exact hB) _).setCell (by exact hB) _).setCell (by exact hB) _).setCell (by exact hB) _).setCell (by exact hB) _).setCell (by exact hB) _).setCell (by exact hB) _
end
end Go.Proofs.YtgmgcadlkebokaaGreatDoor
