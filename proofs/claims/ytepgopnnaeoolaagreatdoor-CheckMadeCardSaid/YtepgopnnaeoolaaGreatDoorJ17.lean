/- A part of the proof. -/
import Derived.Test.YtepgopnnaeoolaaGreatDoorJ16
import Derived.Test.YtepgopnnaeoolaaGreatDoorJ10
import Derived.OneCell
namespace Go.Proofs.YtepgopnnaeoolaaGreatDoor
section
open Go.RowKit
theorem body_ok {F:Fx} (hE:∀ k,¬ F.E k) (n:Nat):n≤1000→∀ o,BodyOk { F with o:=o } ((n:Int) - 1)∧OneOk { F with o:=o } ((n:Int) - 1):=by
 induction n with
 | zero =>
  intro _ o;exact⟨fun w x ht n h hh hn hn8 hl0 hlL=>by omega,fun w x ht h hh hn hn8 hl0 hlL=>by omega⟩
 | succ n ih =>
  intro hn o;have hb:∀ o,BodyOk { F with o:=o } (((n+1:Nat):Int) - 1):=fun o=>body_of_one (by have h:=(ih (by omega) o).2;rwa [show((n+1:Nat):Int) - 1 - 1=(n:Int) - 1 by omega]) (by omega);exact⟨hb o,one_of_body (F:={ F with o:=o }) (fun q'=>hb (some q')) hE⟩
theorem body_any {F:Fx} {q:List Nat} {w:World} {x:St} (h:WD F w x) (hq:F.o=some q) (ht n:Nat) (hh:ht≤x.s.length) (hn:0<x.nl) (hn8:x.nl≤8) (hqn:q.length≤x.nl) (hl0:0≤x.left) (hl:x.left≤900) (hw:wgt x≤800000) (hn1:n≤1000) (hE:∀ k,¬ F.E k) :
 Calls Tryz.prog 12 #[.pointer (some ⟨F.G,0,none⟩),.int .i64 (ht:Int),.int .i64 (n:Int)] w (GrewPost F w x ht 0) :=
 (body_ok (F:=F) hE 1000 (nR _) F.o).1 w x ht n h hh hn hn8 hl0 (by omega) hw ⟨q,hq,hqn⟩ hn1
end
section
open Go.RowKit
set_option maxHeartbeats 2000000
set_option maxRecDepth 100000
theorem WK (os:List Obj):∀ (w:World) (i:Nat) (o:Obj),os[i]?=some o→(os.foldl World.alloc w).heap[w.heap.size+i]?=some o∧Below w.heap.size w (os.foldl World.alloc w)∧(os.foldl World.alloc w).heap.size=w.heap.size+os.length:=by
 induction os with
 | nil=>intro w i o h;simp at h
 | cons a os ih =>
  intro w i o h;have hs:(w.alloc a).heap.size=w.heap.size+1:=by simp
  have hb:Below w.heap.size w (w.alloc a):=(bR _ _).alloc (nR _) a;rcases os with _|⟨b,os⟩
  ·cases i with
   | zero=>simp only[List.getElem?_cons_zero,Option.some.injEq]at h;subst h;exact⟨heap_alloc_new w _,hb,hs⟩
   | succ i=>simp at h
  ·have h0:=ih (w.alloc a) 0 b rfl;have hbb:Below w.heap.size w ((b :: os).foldl World.alloc (w.alloc a)):=hb.trans (h0.2.1.mono (by rw[hs];omega));have hsz:((a :: b :: os).foldl World.alloc w).heap.size=w.heap.size+(a :: b :: os).length:=by
    show((b :: os).foldl World.alloc (w.alloc a)).heap.size=_;rw[h0.2.2,hs];simp only[List.length_cons];omega
   cases i with
   | zero =>
    simp only[List.getElem?_cons_zero,Option.some.injEq]at h;subst h;exact⟨(h0.2.1.block w.heap.size (by rw[hs];omega)).trans (heap_alloc_new w _),hbb,hsz⟩
   | succ i =>
    have h1:=ih (w.alloc a) i o (by simpa using h);rw[hs,show w.heap.size+1+i=w.heap.size+(i+1) by omega]at h1;exact⟨h1.1,hbb,hsz⟩
def tyObjs (B:Nat):List Obj:=[.cells #[.int .i64 127] 3,.cells #[.int .i64 127] 3,.cells #[.int .i64 127,.int .i64 127] 3,.cells #[.int .i64 127,.int .i64 127] 3,.cells #[.int .i64 126,.int .i64 124] 3,.cells #[.int .i64 124] 3,.cells #[.int .i64 127,.int .i64 126,.int .i64 124] 3,.cells #[.int .i64 127] 3,.cells #[.int .i64 127,.int .i64 126] 3,.cells #[.int .i64 124] 3,.cells #[.int .i64 127] 3,.cells #[.int .i64 127,.int .i64 126] 3,.cells #[.int .i64 126] 3,.cells #[.int .i64 126] 3,.cells #[.slice none 0 0,.slice none 0 0,.slice (some ⟨B,0,none⟩) 1 1,.slice (some ⟨B+1,0,none⟩) 1 1,.slice (some ⟨B+2,0,none⟩) 2 2,.slice (some ⟨B+3,0,none⟩) 2 2,.slice (some ⟨B+4,0,none⟩) 2 2,.slice (some ⟨B+5,0,none⟩) 1 1,.slice none 0 0,.slice (some ⟨B+6,0,none⟩) 3 3,.slice (some ⟨B+7,0,none⟩) 1 1,.slice (some ⟨B+8,0,none⟩) 2 2,.slice (some ⟨B+9,0,none⟩) 1 1,.slice (some ⟨B+10,0,none⟩) 1 1,.slice (some ⟨B+11,0,none⟩) 2 2,.slice none 0 0,.slice (some ⟨B+12,0,none⟩) 1 1,.slice (some ⟨B+13,0,none⟩) 1 1] 66]
def Us:List (List Int×List Int):=[([],[]),([127],[127]),([127,127],[127,127]),([126,124],[124]),([],[127,126,124]),([127],[127,126]),([124],[127]),([127,126],[]),([126],[126])]
theorem nine_read (w:World):Vo (fun k=>w.heap.size≤k∧k<((tyObjs w.heap.size).foldl World.alloc w).heap.size) ((tyObjs w.heap.size).foldl World.alloc w) (.slice (some ⟨w.heap.size+14,0,none⟩) 9 9) Us:=by
 have A:=fun i o h=>WK (tyObjs w.heap.size) w i o h;have hsz:=(A 14 _ rfl).2.2;have C:∀ (i:Nat) (u:Value),(match (tyObjs w.heap.size)[14]? with|some (Obj.cells cs _ _)=>cs[i]?|_=>none)=some u→((tyObjs w.heap.size).foldl World.alloc w).cell? ⟨w.heap.size+14,i,none⟩=some u:=fun i u h=>by
  have h14:=(A 14 _ rfl).1;simp only[World.cell?,h14];exact h
 have I:∀ (m:Nat) (l:List Int),(tyObjs w.heap.size)[m]?=some (.cells (l.map (Value.int .i64)).toArray 3)→m<15→l.length≤3→Wg (fun k=>w.heap.size≤k∧k<((tyObjs w.heap.size).foldl World.alloc w).heap.size) ((tyObjs w.heap.size).foldl World.alloc w) (.slice (some ⟨w.heap.size+m,0,none⟩) l.length l.length) l:=fun m l h hm hl =>
  ⟨_,_,rfl,by unfold maxLen;omega,(fun h=>by cases h),fun _=>⟨w.heap.size+m,0,rfl,⟨by omega,by rw[hsz];show _<_+15;omega⟩,fun j hj=>by
   rw[Nat.zero_add];simp only[World.cell?,(A m _ h).1];simp[hj]⟩⟩
 refine⟨_,9,rfl,nR _,by unfold maxLen;omega,(fun h=>by cases h),fun _=>⟨w.heap.size+14,0,rfl,⟨by omega,by rw[hsz];show _<_+15;omega⟩,fun j i hj hi=>?_⟩⟩;have hj9:j<9:=hj;rcases(show(j=0∨j=1∨j=2∨j=3∨j=4∨j=5∨j=6∨j=7∨j=8) by omega) with rfl|rfl|rfl|rfl|rfl|rfl|rfl|rfl|rfl
 all_goals rcases(show i=0∨i=1 by omega) with rfl|rfl
 ·exact⟨_,C 0 _ rfl,Wg.nil _ _⟩
 ·exact⟨_,C 1 _ rfl,Wg.nil _ _⟩
 ·exact⟨_,C 2 _ rfl,I 0 [127] rfl (by decide) (by decide)⟩
 ·exact⟨_,C 3 _ rfl,I 1 [127] rfl (by decide) (by decide)⟩
 ·exact⟨_,C 4 _ rfl,I 2 [127,127] rfl (by decide) (by decide)⟩
 ·exact⟨_,C 5 _ rfl,I 3 [127,127] rfl (by decide) (by decide)⟩
 ·exact⟨_,C 6 _ rfl,I 4 [126,124] rfl (by decide) (by decide)⟩
 ·exact⟨_,C 7 _ rfl,I 5 [124] rfl (by decide) (by decide)⟩
 ·exact⟨_,C 8 _ rfl,Wg.nil _ _⟩
 ·exact⟨_,C 9 _ rfl,I 6 [127,126,124] rfl (by decide) (by decide)⟩
 ·exact⟨_,C 10 _ rfl,I 7 [127] rfl (by decide) (by decide)⟩
 ·exact⟨_,C 11 _ rfl,I 8 [127,126] rfl (by decide) (by decide)⟩
 ·exact⟨_,C 12 _ rfl,I 9 [124] rfl (by decide) (by decide)⟩
 ·exact⟨_,C 13 _ rfl,I 10 [127] rfl (by decide) (by decide)⟩
 ·exact⟨_,C 14 _ rfl,I 11 [127,126] rfl (by decide) (by decide)⟩
 ·exact⟨_,C 15 _ rfl,Wg.nil _ _⟩
 ·exact⟨_,C 16 _ rfl,I 12 [126] rfl (by decide) (by decide)⟩
 ·exact⟨_,C 17 _ rfl,I 13 [126] rfl (by decide) (by decide)⟩
theorem types_any (w:World):Calls Tryz.prog 8 #[] w (fun e w'=>e=.returned (.slice (some ⟨w.heap.size+14,0,none⟩) 9 9)∧w'=(tyObjs w.heap.size).foldl World.alloc w):=by
 go_enter Tryz.func8,Tryz.ntmps8;go_wp2;go_ret;exact⟨rfl,rfl⟩
end
section
open Go.RowKit
theorem Z7 {P:Prop}(h:P:=by
 rw[List.getElem?_append_right (by rw[h3];omega),List.getElem?_append_right (by rw[h3];omega),List.getElem?_append_right (by rw[h3];omega),h3,show(k+1) * 3 - 3=k * 3 by omega,show(k+1) * 3+1 - 3=k * 3+1 by omega,show(k+1) * 3+2 - 3=k * 3+2 by omega];exact ih k f (by simpa using h)):P:=h
theorem Zb0 {P:Prop}(h:P:=by
 rcases hr _ e with e|e|e
 ·exact(h.fp _ e).2.1 rfl
 ·exact(h.mp _ e).2.1 rfl
 ·exact(h.ep _ e).2.1 rfl):P:=h
def Uw (f:Int×Value×Value):List Value:=[.int .i64 f.1,f.2.1,f.2.2]
def Vw (l:List (Int×Value×Value)):List Value:=l.flatMap Uw
def mmCells (m:Int×Int):List Value:=[.int .i64 m.1,.int .i64 m.2]
def flatMm (l:List (Int×Int)):List Value:=l.flatMap mmCells
def Uv (e:ByteArray×Int×Int):List Value:=[.string e.1,.int .i64 e.2.1,.int .i64 e.2.2]
def Uk (l:List (ByteArray×Int×Int)):List Value:=l.flatMap Uv
theorem flatFn_snoc (l:List (Int×Value×Value)) (x:Int×Value×Value):Vw (l++[x])=Vw l++Uw x:=by simp[Vw]
theorem flatMm_snoc (l:List (Int×Int)) (x:Int×Int):flatMm (l++[x])=flatMm l++mmCells x:=by simp[flatMm]
theorem flatEx_snoc (l:List (ByteArray×Int×Int)) (x:ByteArray×Int×Int):Uk (l++[x])=Uk l++Uv x:=by simp[Uk]
theorem flatFn_length (l:List (Int×Value×Value)):(Vw l).length=l.length * 3:=by
 induction l with
 | nil=>rfl
 | cons x l ih=>simp only[Vw,List.flatMap_cons,List.length_append,Uw,List.length_cons,List.length_nil]at ih ⊢;omega
theorem flatFn_at (l:List (Int×Value×Value)):∀ k (f:Int×Value×Value),l[k]?=some f→(Vw l)[k * 3]?=some (.int .i64 f.1)∧(Vw l)[k * 3+1]?=some f.2.1∧(Vw l)[k * 3+2]?=some f.2.2:=by
 induction l with
 | nil=>intro k f h;simp at h
 | cons x l ih =>
  intro k f h;rw[show Vw (x :: l)=Uw x++Vw l from rfl];cases k with
  | zero=>simp only[List.getElem?_cons_zero,Option.some.injEq]at h;subst h;exact⟨rfl,rfl,rfl⟩
  | succ k =>
   have h3:(Uw x).length=3:=rfl;exact Z7
theorem flatFn_set (l:List (Int×Value×Value)):∀ k (f:Int×Value×Value) (u:Value),l[k]?=some f→Vw (l.set k (f.1,f.2.1,u))=(Vw l).set (k * 3+2) u:=by
 induction l with
 | nil=>intro k f u h;simp at h
 | cons x l ih =>
  intro k f u h;cases k with
  | zero=>simp only[List.getElem?_cons_zero,Option.some.injEq]at h;subst h;rfl
  | succ k =>
   have h3:(Uw x).length=3:=rfl;have h1:=ih k f u (by simpa using h);rw[List.set_cons_succ,show Vw (x :: l.set k (f.1,f.2.1,u))=Uw x++Vw (l.set k (f.1,f.2.1,u)) from rfl,h1,show Vw (x :: l)=Uw x++Vw l from rfl];rw[List.set_append_right _ _ (by rw[h3];omega),h3,show(k+1) * 3+2 - 3=k * 3+2 by omega]
structure MS where
 m0:Value
 m1:Value
 m2:Value
 m3:Value
 m4:Value
 m5:Value
 m6:Value
 at_:Nat
 fs:List (Int×Value×Value)
 ms:List (Int×Int)
 es:List (ByteArray×Int×Int)
structure MP where
 W:World
 M:Nat
 T:Nat
 tv:Value
 tl:List Int
def own3 (x:MS) (k:Nat):Prop:=x.m2.ownBlock=some k∨x.m3.ownBlock=some k∨x.m5.ownBlock=some k
def WN (P:MP) (x:MS) (w:World) (k:Nat):Prop:=(P.W.heap.size≤k∧k<w.heap.size)∧k≠P.M∧k≠P.T∧¬ own3 x k
def Ui (x:MS):Array Value:=#[x.m0,x.m1,x.m2,x.m3,x.m4,x.m5,x.m6,.slice none 0 0]
structure Mk (P:MP) (w:World) (x:MS):Prop where
 bel:Below P.W.heap.size P.W w
 hM:w.heap[P.M]?=some (.cells (Ui x) 33 (0,0))
 hT:w.heap[P.T]?=some (.cells #[P.tv,.int .i64 (x.at_:Int)] 49 (0,0))
 le:x.at_≤P.tl.length
 tape:Wg (fun k=>k<P.W.heap.size) P.W P.tv P.tl
 new:P.W.heap.size≤P.M∧P.W.heap.size≤P.T∧P.M≠P.T
 fo:w.ownsRow 0 62 3 x.m2 x.fs.length (Vw x.fs)
 mo:w.ownsRow 0 55 2 x.m3 x.ms.length (flatMm x.ms)
 eo:w.ownsRow 0 59 3 x.m5 x.es.length (Uk x.es)
 fp:∀ g,x.m2.ownBlock=some g→P.W.heap.size≤g∧g≠P.M∧g≠P.T∧x.m3.ownBlock≠some g∧x.m5.ownBlock≠some g
 mp:∀ g,x.m3.ownBlock=some g→P.W.heap.size≤g∧g≠P.M∧g≠P.T∧x.m5.ownBlock≠some g
 ep:∀ g,x.m5.ownBlock=some g→P.W.heap.size≤g∧g≠P.M∧g≠P.T
structure Vd (P:MP) (w:World) (x:MS) (w':World) (x':MS):Prop where
 keeps:Wf (WN P x w) w w'
 mono:∀ k,WN P x w k→WN P x' w' k
theorem Vd.refl (P:MP) (w:World) (x:MS):Vd P w x w x:=⟨.refl _ _,fun _ h=>h⟩
theorem Vd.trans {P:MP} {a b c:World} {x y z:MS} (h:Vd P a x b y) (k:Vd P b y c z):Vd P a x c z :=
 ⟨h.keeps.trans (k.keeps.mono h.mono),fun i hi=>k.mono i (h.mono i hi)⟩
theorem Vd.ints {P:MP} {w w':World} {x x':MS} (h:Vd P w x w' x') {v:Value} {l:List Int} (hv:Wg (WN P x w) w v l):Wg (WN P x' w') w' v l:=hv.keep h.keeps h.mono
theorem Vd.types {P:MP} {w w':World} {x x':MS} (h:Vd P w x w' x') {v:Value} {l:List (List Int×List Int)} (hv:Vo (WN P x w) w v l):Vo (WN P x' w') w' v l:=hv.keep h.keeps h.mono
theorem Mk.lts {P:MP} {w:World} {x:MS} (h:Mk P w x):P.M<w.heap.size∧P.T<w.heap.size∧(∀ g,own3 x g→g<w.heap.size):=by
 refine⟨(Array.getElem?_eq_some_iff.1 h.hM).1,(Array.getElem?_eq_some_iff.1 h.hT).1,fun g hg=>?_⟩;rcases hg with e|e|e
 ·exact(h.fo.lt g e).2
 ·exact(h.mo.lt g e).2
 ·exact(h.eo.lt g e).2
theorem Mk.later {P:MP} {w w':World} {x:MS} (h:Mk P w x) (hk:Wf (fun k=>k<w.heap.size∧k≠P.T) w w') (a:Nat) (ha:a≤P.tl.length) (hT:w'.heap[P.T]?=some (.cells #[P.tv,.int .i64 (a:Int)] 49 (0,0))) :
 Mk P w' { x with at_:=a }∧Vd P w x w' { x with at_:=a }:=by
 obtain⟨l1,l2,l3⟩:=h.lts;have hb:Below P.W.heap.size P.W w':=⟨hk.os.trans h.bel.os,hk.tape.trans h.bel.tape,hk.output.trans h.bel.output,Nat.le_trans h.bel.size hk.size,fun k hk'=>(hk.block k ⟨WW hk' h.bel.size,fun e=>by have:=h.new.2.1;omega⟩).trans (h.bel.block k hk')⟩;exact⟨⟨hb,(hk.block _ ⟨l1,h.new.2.2⟩).trans h.hM,hT,ha,h.tape,h.new,Wt h.fo hk fun g hg=>⟨l3 g (.inl hg),(h.fp g hg).2.2.1⟩,Wt h.mo hk fun g hg=>⟨l3 g (.inr (.inl hg)),(h.mp g hg).2.2.1⟩,Wt h.eo hk fun g hg=>⟨l3 g (.inr (.inr hg)),(h.ep g hg).2.2⟩,h.fp,h.mp,h.ep⟩,
  hk.mono fun k hk'=>⟨hk'.1.2,hk'.2.2.1⟩,fun k hk'=>⟨⟨hk'.1.1,WW hk'.1.2 hk.size⟩,hk'.2⟩⟩
theorem Mk.below {P:MP} {w w':World} {x:MS} (h:Mk P w x) (hb:Below w.heap.size w w'):Mk P w' x∧Vd P w x w' x :=
 h.later (Wf.below hb fun _ h=>h.1) x.at_ h.le ((hb.block _ h.lts.2.1).trans h.hT)
theorem Mk.store {P:MP} {w w1:World} {x x':MS} (h:Mk P w x) (r:Option Nat) (hr:∀ k,r=some k→own3 x k) (hk:Wf (fun k=>k<w.heap.size∧r≠some k) w w1) (o:Nat) (u:Value) (hc:(Ui x).setIfInBounds o u=Ui x') (ha:x'.at_=x.at_)
 (fo:w1.ownsRow 0 62 3 x'.m2 x'.fs.length (Vw x'.fs)) (mo:w1.ownsRow 0 55 2 x'.m3 x'.ms.length (flatMm x'.ms)) (eo:w1.ownsRow 0 59 3 x'.m5 x'.es.length (Uk x'.es))
 (fp:∀ g,x'.m2.ownBlock=some g→P.W.heap.size≤g∧g≠P.M∧g≠P.T∧x'.m3.ownBlock≠some g∧x'.m5.ownBlock≠some g) (mp:∀ g,x'.m3.ownBlock=some g→P.W.heap.size≤g∧g≠P.M∧g≠P.T∧x'.m5.ownBlock≠some g) (ep:∀ g,x'.m5.ownBlock=some g→P.W.heap.size≤g∧g≠P.M∧g≠P.T)
 (hn:∀ k,own3 x' k→own3 x k∨w.heap.size≤k):Mk P (w1.setCell ⟨P.M,o,none⟩ u) x'∧Vd P w x (w1.setCell ⟨P.M,o,none⟩ u) x':=by
 obtain⟨l1,l2,l3⟩:=h.lts;have hrM:r≠some P.M:=fun e=>by
  exact Zb0
 have hrT:r≠some P.T:=fun e=>by
  rcases hr _ e with e|e|e
  ·exact(h.fp _ e).2.2.1 rfl
  ·exact(h.mp _ e).2.2.1 rfl
  ·exact(h.ep _ e).2.2 rfl
 have hrW:∀ k,r=some k→P.W.heap.size≤k:=fun k e=>by
  rcases hr _ e with e|e|e
  ·exact(h.fp _ e).1
  ·exact(h.mp _ e).1
  ·exact(h.ep _ e).1
 have hsz:(w1.setCell ⟨P.M,o,none⟩ u).heap.size=w1.heap.size:=by simp[World.setCell]
 have hk0:Wf (fun b=>b≠P.M) w1 (w1.setCell ⟨P.M,o,none⟩ u):=.setCell w1 (fun e=>e rfl) u;have hM:w1.heap[P.M]?=some (.cells (Ui x) 33 (0,0)):=(hk.block _ ⟨l1,hrM⟩).trans h.hM;have hb1:Below P.W.heap.size P.W w1:=⟨hk.os.trans h.bel.os,hk.tape.trans h.bel.tape,hk.output.trans h.bel.output,Nat.le_trans h.bel.size hk.size,fun k hk'=>(hk.block k ⟨WW hk' h.bel.size,fun e=>by have:=hrW k e;omega⟩).trans (h.bel.block k hk')⟩;refine⟨⟨hb1.setCell (by exact h.new.1) u,by rw[Wh w1 P.M o _ _ u hM,hc],(hk0.block _ (fun e=>h.new.2.2 e.symm)).trans (by rw[ha];exact(hk.block _ ⟨l2,hrT⟩).trans h.hT),by rw[ha];exact h.le,h.tape,h.new,
  Wt fo hk0 fun g hg=>(fp g hg).2.1,Wt mo hk0 fun g hg=>(mp g hg).2.1,Wt eo hk0 fun g hg=>(ep g hg).2.1,fp,mp,ep⟩,?_,?_⟩
 ·exact(hk.mono fun k hk'=>⟨hk'.1.2,fun e=>hk'.2.2.2 (hr k e)⟩).trans (hk0.mono fun k hk'=>hk'.2.1)
 ·intro k hk';refine⟨⟨hk'.1.1,by rw[hsz];exact WW hk'.1.2 hk.size⟩,hk'.2.1,hk'.2.2.1,fun e=>?_⟩;rcases hn k e with e|e
  ·exact hk'.2.2.2 e
  ·have:=hk'.1.2;omega
theorem new_at {v v':Value} {N:Nat} (hat:v'.ownBlock=v.ownBlock∨v'.ownBlock=some N) {g:Nat} (hg:v'.ownBlock=some g):v.ownBlock=some g∨g=N:=by
 rcases hat with h|h
 ·exact .inl (h ▸ hg)
 ·have:=h.symm.trans hg;simp only[Option.some.injEq]at this;exact .inr this.symm
theorem Uz {w w1:World} {o:Obj} {r:Option Nat} (hg:(w.alloc o).grownBy w1 r):Wf (fun k=>k<w.heap.size∧r≠some k) w w1 :=
 ((Wf.alloc w (fun _ h=>h) o).mono fun _ h=>h.1).trans (.grown hg (fun k hk=>by simp;omega) (fun k e hk=>hk.2 e))
theorem Mk.pushM {P:MP} {w w1:World} {x:MS} (h:Mk P w x) (o:Obj) (m:Int×Int) {v:Value} {n:Nat} {xs:List Value} (ho:w1.ownsRow 0 55 2 v n xs) (hn:n=x.ms.length+1) (hx:xs=flatMm x.ms++mmCells m) (hg:(w.alloc o).grownBy w1 x.m3.ownBlock) (hat:v.ownBlock=x.m3.ownBlock∨v.ownBlock=some (w.alloc o).heap.size) :
 Mk P (w1.setCell ⟨P.M,3,none⟩ v) { x with m3:=v,ms:=x.ms++[m] }∧Vd P w x (w1.setCell ⟨P.M,3,none⟩ v) { x with m3:=v,ms:=x.ms++[m] }:=by
 subst hn hx;obtain⟨l1,l2,l3⟩:=h.lts;have hs:(w.alloc o).heap.size=w.heap.size+1:=by simp
 have hk:=Uz hg;have hW:=h.bel.size;refine h.store x.m3.ownBlock (fun k e=>.inr (.inl e)) hk 3 v rfl rfl (Wt h.fo hk fun g hg=>⟨l3 g (.inl hg),fun e=>(h.fp g hg).2.2.2.1 e⟩) (by rw[List.length_append,flatMm_snoc];exact ho) (Wt h.eo hk fun g hg=>⟨l3 g (.inr (.inr hg)),fun e=>(h.mp g e).2.2.2 hg⟩) (fun g hg=>?_) (fun g hg=>?_) h.ep (fun k e=>?_)
 ·obtain⟨a,b,c,d,e⟩:=h.fp g hg;refine⟨a,b,c,fun e2=>?_,e⟩;rcases new_at hat e2 with e3|e3
  ·exact d e3
  ·have:=l3 g (.inl hg);omega
 ·rcases new_at hat hg with e3|e3
  ·exact h.mp g e3
  ·exact⟨by omega,by omega,by omega,fun e=>by have:=l3 g (.inr (.inr e));omega⟩
 ·rcases e with e|e|e
  ·exact .inl (.inl e)
  ·rcases new_at hat e with e3|e3
   ·exact .inl (.inr (.inl e3))
   ·exact .inr (by omega)
  ·exact .inl (.inr (.inr e))
theorem Mk.pushE {P:MP} {w w1:World} {x:MS} (h:Mk P w x) (o:Obj) (m:ByteArray×Int×Int) {v:Value} {n:Nat} {xs:List Value} (ho:w1.ownsRow 0 59 3 v n xs) (hn:n=x.es.length+1) (hx:xs=Uk x.es++Uv m) (hg:(w.alloc o).grownBy w1 x.m5.ownBlock) (hat:v.ownBlock=x.m5.ownBlock∨v.ownBlock=some (w.alloc o).heap.size) :
 Mk P (w1.setCell ⟨P.M,5,none⟩ v) { x with m5:=v,es:=x.es++[m] }∧Vd P w x (w1.setCell ⟨P.M,5,none⟩ v) { x with m5:=v,es:=x.es++[m] }:=by
 subst hn hx;obtain⟨l1,l2,l3⟩:=h.lts;have hs:(w.alloc o).heap.size=w.heap.size+1:=by simp
 have hk:=Uz hg;have hW:=h.bel.size;refine h.store x.m5.ownBlock (fun k e=>.inr (.inr e)) hk 5 v rfl rfl (Wt h.fo hk fun g hg=>⟨l3 g (.inl hg),fun e=>(h.fp g hg).2.2.2.2 e⟩) (Wt h.mo hk fun g hg=>⟨l3 g (.inr (.inl hg)),fun e=>(h.mp g hg).2.2.2 e⟩) (by rw[List.length_append,flatEx_snoc];exact ho) (fun g hg=>?_) (fun g hg=>?_) (fun g hg=>?_) (fun k e=>?_)
 ·obtain⟨a,b,c,d,e⟩:=h.fp g hg;refine⟨a,b,c,d,fun e2=>?_⟩;rcases new_at hat e2 with e3|e3
  ·exact e e3
  ·have:=l3 g (.inl hg);omega
 ·obtain⟨a,b,c,d⟩:=h.mp g hg;refine⟨a,b,c,fun e2=>?_⟩;rcases new_at hat e2 with e3|e3
  ·exact d e3
  ·have:=l3 g (.inr (.inl hg));omega
 ·rcases new_at hat hg with e3|e3
  ·exact h.ep g e3
  ·exact⟨by omega,by omega,by omega⟩
 ·rcases e with e|e|e
  ·exact .inl (.inl e)
  ·exact .inl (.inr (.inl e))
  ·rcases new_at hat e with e3|e3
   ·exact .inl (.inr (.inr e3))
   ·exact .inr (by omega)
theorem Mk.pushF {P:MP} {w w1:World} {x:MS} (h:Mk P w x) (o:Obj) (m:Int×Value×Value) {v:Value} {n:Nat} {xs:List Value} (ho:w1.ownsRow 0 62 3 v n xs) (hn:n=x.fs.length+1) (hx:xs=Vw x.fs++Uw m) (hg:(w.alloc o).grownBy w1 x.m2.ownBlock) (hat:v.ownBlock=x.m2.ownBlock∨v.ownBlock=some (w.alloc o).heap.size) :
 Mk P (w1.setCell ⟨P.M,2,none⟩ v) { x with m2:=v,fs:=x.fs++[m] }∧Vd P w x (w1.setCell ⟨P.M,2,none⟩ v) { x with m2:=v,fs:=x.fs++[m] }:=by
 subst hn hx;obtain⟨l1,l2,l3⟩:=h.lts;have hs:(w.alloc o).heap.size=w.heap.size+1:=by simp
 have hk:=Uz hg;have hW:=h.bel.size;refine h.store x.m2.ownBlock (fun k e=>.inl e) hk 2 v rfl rfl (by rw[List.length_append,flatFn_snoc];exact ho) (Wt h.mo hk fun g hg=>⟨l3 g (.inr (.inl hg)),fun e=>(h.fp g e).2.2.2.1 hg⟩) (Wt h.eo hk fun g hg=>⟨l3 g (.inr (.inr hg)),fun e=>(h.fp g e).2.2.2.2 hg⟩) (fun g hg=>?_) h.mp h.ep (fun k e=>?_)
 ·rcases new_at hat hg with e3|e3
  ·exact h.fp g e3
  ·exact⟨by omega,by omega,by omega,fun e=>by have:=l3 g (.inr (.inl e));omega,fun e=>by have:=l3 g (.inr (.inr e));omega⟩
 ·rcases e with e|e|e
  ·rcases new_at hat e with e3|e3
   ·exact .inl (.inl e3)
   ·exact .inr (by omega)
  ·exact .inl (.inr (.inl e))
  ·exact .inl (.inr (.inr e))
theorem Mk.set1 {P:MP} {w:World} {x:MS} (h:Mk P w x) (u:Value):Mk P (w.setCell ⟨P.M,1,none⟩ u) { x with m1:=u }∧Vd P w x (w.setCell ⟨P.M,1,none⟩ u) { x with m1:=u } :=
 h.store none (fun _ e=>by cases e) (.refl _ _) 1 u rfl rfl h.fo h.mo h.eo h.fp h.mp h.ep fun _ e=>.inl e
theorem Mk.set4 {P:MP} {w:World} {x:MS} (h:Mk P w x) (u:Value):Mk P (w.setCell ⟨P.M,4,none⟩ u) { x with m4:=u }∧Vd P w x (w.setCell ⟨P.M,4,none⟩ u) { x with m4:=u } :=
 h.store none (fun _ e=>by cases e) (.refl _ _) 4 u rfl rfl h.fo h.mo h.eo h.fp h.mp h.ep fun _ e=>.inl e
theorem Mk.set6 {P:MP} {w:World} {x:MS} (h:Mk P w x) (u:Value):Mk P (w.setCell ⟨P.M,6,none⟩ u) { x with m6:=u }∧Vd P w x (w.setCell ⟨P.M,6,none⟩ u) { x with m6:=u } :=
 h.store none (fun _ e=>by cases e) (.refl _ _) 6 u rfl rfl h.fo h.mo h.eo h.fp h.mp h.ep fun _ e=>.inl e
theorem Mk.code {P:MP} {w:World} {x:MS} (h:Mk P w x) {g c j:Nat} (hm:x.m2=.slice (some ⟨g,0,none⟩) x.fs.length c) {f:Int×Value×Value} (hf:x.fs[j]?=some f) (u:Value) :
 Mk P (w.setCell ⟨g,j * 3+2,none⟩ u) { x with fs:=x.fs.set j (f.1,f.2.1,u) }∧Vd P w x (w.setCell ⟨g,j * 3+2,none⟩ u) { x with fs:=x.fs.set j (f.1,f.2.1,u) }:=by
 obtain⟨l1,l2,l3⟩:=h.lts;have hg2:x.m2.ownBlock=some g:=by rw[hm];rfl
 obtain⟨p1,p2,p3,p4,p5⟩:=h.fp g hg2;have hfo:=h.fo;rw[hm]at hfo;have hst:=(hfo.stored (j * 3+2) u).1;have hk0:Wf (fun b=>b≠g) w (w.setCell ⟨g,j * 3+2,none⟩ u):=.setCell w (fun e=>e rfl) u;have hsz:(w.setCell ⟨g,j * 3+2,none⟩ u).heap.size=w.heap.size:=by simp[World.setCell]
 refine⟨⟨h.bel.setCell (by exact p1) u,(hk0.block _ (fun e=>p2 e.symm)).trans h.hM,(hk0.block _ (fun e=>p3 e.symm)).trans h.hT,h.le,h.tape,h.new,?_,Wt h.mo hk0 fun k hk e=>p4 (e ▸ hk),Wt h.eo hk0 fun k hk e=>p5 (e ▸ hk),h.fp,h.mp,h.ep⟩,hk0.mono fun k hk e=>hk.2.2.2 (.inl (e ▸ hg2)),fun k hk=>⟨⟨hk.1.1,by rw[hsz];exact hk.1.2⟩,hk.2⟩⟩;rw[hm,List.length_set,flatFn_set x.fs j f u hf];exact hst
end
section
open Go.RowKit
theorem UL {P:MP} {w:World} {x:MS} (h:Mk P w x) (n:Nat) (h0:0<n) (hn:n≤1073741824) :
 Calls Tryz.prog 9 #[.pointer (some ⟨P.T,0,none⟩),.int .i64 (n:Int)] w fun e w'=>∃ r:Nat,r<n∧e=.returned (.int .i64 (r:Int))∧∃ a,Mk P w' { x with at_:=a }∧Vd P w x w' { x with at_:=a } :=
 (next_any (fun k=>k<P.W.heap.size) P.T P.tv P.tl x.at_ n w h.hT (h.tape.keep (Wf.below h.bel fun _ h=>h) fun _ h=>h) (fun hk=>by have:=h.new.2.1;omega) h.le h0 hn).mono fun _ _ ⟨r,a,he,hr,hk,ht⟩ =>
  ⟨r,hr,he,a,h.later ⟨ht.os,ht.tape,ht.output,by rw[ht.size];exact nR _,fun k hk=>ht.block k hk.2⟩ a hk ht.at_⟩
theorem Mk.cell {P:MP} {w:World} {x:MS} (h:Mk P w x) (o:Nat):w.cell? ⟨P.M,o,none⟩=(Ui x)[o]?:=by simp[World.cell?,h.hM]
theorem Mk.frozen {P:MP} {w:World} {x:MS} (h:Mk P w x) (o:Nat):w.frozen? ⟨P.M,o,none⟩=false:=by simp[World.frozen?,h.hM]
theorem Mk.drew {P:MP} {w:World} {x:MS} (h:Mk P w x):Mk P w.drew x∧Vd P w x w.drew x:=h.below ((bR _ _).drew)
theorem Mk.pushf {P:MP} {w:World} {x:MS} (h:Mk P w x) (ob:Obj) (r:Option Nat) (hr:∀ k,r=some k→own3 x k) (o:Nat):(w.alloc ob).cell? ⟨P.M,o,none⟩=(Ui x)[o]?∧∀ w2,(w.alloc ob).grownBy w2 r→w2.cell? ⟨P.M,o,none⟩=(Ui x)[o]?∧w2.frozen? ⟨P.M,o,none⟩=false:=by
 obtain⟨l1,_,_⟩:=h.lts;have hrM:r≠some P.M:=fun e=>by
  exact Zb0
 refine⟨by rw[World.cell?_alloc_lt _ _ _ (by exact l1)];exact h.cell o,fun w2 hgr=>?_⟩;have hb:=(Uz hgr).block P.M ⟨l1,hrM⟩;exact⟨(World.cell?_of_block (w:=w) (a:=⟨P.M,o,none⟩) hb).trans (h.cell o),(World.frozen?_of_block (w:=w) (a:=⟨P.M,o,none⟩) hb).trans (h.frozen o)⟩
def Ww:Array Value:=#[.slice none 0 0,.slice none 0 0,.slice none 0 0,.slice none 0 0,.slice none 0 0,.slice none 0 0,.slice none 0 0,.slice none 0 0]
theorem mk_start (w:World) (tv:Value) (tl:List Int) (htl:Wg (fun k=>k<w.heap.size) w tv tl) (W1 W2:World) (hW1:W1=(w.alloc (.cells Ww 33)).alloc (.cells #[tv,.int .i64 0] 49)) (hW2:W2=(tyObjs W1.heap.size).foldl World.alloc W1) (x:MS)
 (hx:x=⟨.slice (some ⟨W1.heap.size+14,0,none⟩) 9 9,.slice none 0 0,.slice none 0 0,.slice none 0 0,.slice none 0 0,.slice none 0 0,.slice none 0 0,0,[],[],[]⟩) (P:MP) (hP:P=⟨w.alloc (.cells Ww 33),W2.heap.size,w.heap.size+1,tv,tl⟩) :
 Mk P (W2.alloc (.cells (Ui x) 33)) x∧Vo (WN P x (W2.alloc (.cells (Ui x) 33))) (W2.alloc (.cells (Ui x) 33)) x.m0 Us:=by
 have s0:(w.alloc (.cells Ww 33)).heap.size=w.heap.size+1:=by simp
 have s1:W1.heap.size=w.heap.size+2:=by rw[hW1];simp
 obtain⟨_,hb2,s2⟩:=WK (tyObjs W1.heap.size) W1 0 _ rfl;rw[← hW2]at hb2 s2;have s2':W2.heap.size=w.heap.size+17:=by rw[s2,s1];rfl
 have hb1:Below (w.alloc (.cells Ww 33)).heap.size (w.alloc (.cells Ww 33)) W1:=by rw[hW1];exact(bR _ _).alloc (nR _) _
 have hb3:Below W2.heap.size W2 (W2.alloc (.cells (Ui x) 33)):=(bR _ _).alloc (nR _) _;have hb13:Below W1.heap.size W1 (W2.alloc (.cells (Ui x) 33)):=hb2.trans (hb3.mono (by omega));have s3:(W2.alloc (.cells (Ui x) 33)).heap.size=w.heap.size+18:=by simp[s2']
 have hT:W1.heap[w.heap.size+1]?=some (.cells #[tv,.int .i64 0] 49 (0,0)):=by
  have:=heap_alloc_new (w.alloc (.cells Ww 33)) (.cells #[tv,.int .i64 0] 49);rw[s0]at this;rw[hW1];exact this
 have hn:∀ k,¬ own3 x k:=fun k=>by rw[hx];rintro(e|e|e) <;> cases e
 have htl':Wg (fun k=>k<(w.alloc (.cells Ww 33)).heap.size) (w.alloc (.cells Ww 33)) tv tl:=htl.keep (Wf.alloc w (fun _ h=>h) _) fun k hk=>by rw[s0];omega
 subst hP;refine⟨⟨hb1.trans (hb13.mono (by rw[s0];omega)),heap_alloc_new W2 _,(hb13.block (w.heap.size+1) (by omega)).trans (by rw[hx];exact hT),by rw[hx];exact nZ _,htl',⟨by show _≤W2.heap.size;rw[s0];omega,by show _≤w.heap.size+1;rw[s0];exact nR _,by show W2.heap.size≠w.heap.size+1;omega⟩,
  by rw[hx];exact World.ownsRow_nil _ _ _ _,by rw[hx];exact World.ownsRow_nil _ _ _ _,by rw[hx];exact World.ownsRow_nil _ _ _ _,fun g hg=>absurd (Or.inl hg) (hn g),fun g hg=>absurd (Or.inr (Or.inl hg)) (hn g),fun g hg=>absurd (Or.inr (Or.inr hg)) (hn g)⟩,?_⟩
 have ht:=nine_read W1;rw[← hW2]at ht;rw[show x.m0=.slice (some ⟨W1.heap.size+14,0,none⟩) 9 9 by rw[hx]];exact ht.keep (Wf.below hb3 fun k hk=>hk.2) fun k hk=>⟨⟨by show(w.alloc _).heap.size≤k;rw[s0];omega,by omega⟩,by show k≠W2.heap.size;omega,by show k≠w.heap.size+1;omega,hn _⟩
theorem Mk.beside {P:MP} {w w':World} {x:MS} (h:Mk P w x) (J:Nat→Prop) (hJ:∀ k,J k→WN P x w k) (hk:Wf (fun k=>k<w.heap.size∧¬ J k) w w'):Mk P w' x:=by
 obtain⟨l1,l2,l3⟩:=h.lts;have hb:Below P.W.heap.size P.W w':=⟨hk.os.trans h.bel.os,hk.tape.trans h.bel.tape,hk.output.trans h.bel.output,Nat.le_trans h.bel.size hk.size,fun k hk'=>(hk.block k ⟨WW hk' h.bel.size,fun e=>by have:=(hJ k e).1.1;omega⟩).trans (h.bel.block k hk')⟩;have hrow:∀ g,own3 x g→g<w.heap.size∧¬ J g:=fun g hg=>⟨l3 g hg,fun e=>(hJ g e).2.2.2 hg⟩;exact⟨hb,(hk.block _ ⟨l1,fun e=>(hJ _ e).2.1 rfl⟩).trans h.hM,(hk.block _ ⟨l2,fun e=>(hJ _ e).2.2.1 rfl⟩).trans h.hT,h.le,h.tape,h.new,Wt h.fo hk fun g hg=>hrow g (.inl hg),Wt h.mo hk fun g hg=>hrow g (.inr (.inl hg)),Wt h.eo hk fun g hg=>hrow g (.inr (.inr hg)),h.fp,h.mp,h.ep⟩
structure Inn (P:MP) (W:World) (z:MS) (ty:Int) (w:World) (a:Nat) (lv:Value) (ll:List Int):Prop where
 md:Mk P w { z with at_:=a }
 st:Vd P W z w { z with at_:=a }
 f9:w.heap[W.heap.size]?=some (.cells #[.int .i64 ty,lv,.slice none 0 0] 62 (0,0))
 ow:w.ownsRow 0 3 1 lv ll.length (ll.map (Value.int .i64))
 lp:∀ g,lv.ownBlock=some g→W.heap.size<g
 base:(∀ k,own3 z k→k<W.heap.size)∧P.M<W.heap.size∧P.T<W.heap.size∧P.W.heap.size≤W.heap.size
theorem Inn.stl {P:MP} {W w:World} {z:MS} {ty:Int} {a:Nat} {lv:Value} {ll:List Int} (h:Inn P W z ty w a lv ll) {k:Nat} (h1:W.heap.size≤k) (h2:k<w.heap.size) (a':Nat):WN P { z with at_:=a' } w k:=by
 obtain⟨b1,b2,b3,b4⟩:=h.base;exact⟨⟨by omega,h2⟩,by omega,by omega,fun e=>by have:=b1 k e;omega⟩
theorem Inn.f9lt {P:MP} {W w:World} {z:MS} {ty:Int} {a:Nat} {lv:Value} {ll:List Int} (h:Inn P W z ty w a lv ll):W.heap.size<w.heap.size:=(Array.getElem?_eq_some_iff.1 h.f9).1
theorem Inn.next {P:MP} {W w w':World} {z:MS} {ty:Int} {a a':Nat} {lv:Value} {ll:List Int} (h:Inn P W z ty w a lv ll) (hm:Mk P w' { z with at_:=a' }) (hs:Vd P w { z with at_:=a } w' { z with at_:=a' }):Inn P W z ty w' a' lv ll :=
 ⟨hm,h.st.trans hs,(hs.keeps.block _ (h.stl (nR _) h.f9lt a)).trans h.f9,Wt h.ow hs.keeps fun g hg=>h.stl (Nat.le_of_lt (h.lp g hg)) (h.ow.lt g hg).2 a,h.lp,h.base⟩
theorem Inn.below {P:MP} {W w w':World} {z:MS} {ty:Int} {a:Nat} {lv:Value} {ll:List Int} (h:Inn P W z ty w a lv ll) (hb:Below w.heap.size w w'):Inn P W z ty w' a lv ll:=by
 obtain⟨h1,h2⟩:=h.md.below hb;exact h.next h1 h2
theorem Inn.cell1 {P:MP} {W w:World} {z:MS} {ty:Int} {a:Nat} {lv:Value} {ll:List Int} (h:Inn P W z ty w a lv ll):w.cell? ⟨W.heap.size,1,none⟩=some lv∧w.frozen? ⟨W.heap.size,1,none⟩=false:=by simp[World.cell?,World.frozen?,h.f9]
theorem Inn.pushf {P:MP} {W w:World} {z:MS} {ty:Int} {a:Nat} {lv:Value} {ll:List Int} (h:Inn P W z ty w a lv ll) {w0 w1:World} (hb0:Below w.heap.size w w0) {ob:Obj} (hg:(w0.alloc ob).grownBy w1 lv.ownBlock):w1.cell? ⟨W.heap.size,1,none⟩=some lv∧w1.frozen? ⟨W.heap.size,1,none⟩=false:=by
 have hb:=(Uz hg).block W.heap.size ⟨WW h.f9lt hb0.size,fun e=>by have:=h.lp _ e;omega⟩;have h9:=(h.below hb0).cell1;exact⟨(World.cell?_of_block (w:=w0) (a:=⟨W.heap.size,1,none⟩) hb).trans h9.1,(World.frozen?_of_block (w:=w0) (a:=⟨W.heap.size,1,none⟩) hb).trans h9.2⟩
theorem Inn.push {P:MP} {W w w1:World} {z:MS} {ty:Int} {a:Nat} {lv:Value} {ll:List Int} (h:Inn P W z ty w a lv ll) {w0:World} (hb0:Below w.heap.size w w0) (ob:Obj) (t:Int) {v:Value} {n:Nat} {xs:List Value} (ho:w1.ownsRow 0 3 1 v n xs) (hn:n=ll.length+1) (hx:xs=ll.map (Value.int .i64)++[.int .i64 t]) (hg:(w0.alloc ob).grownBy w1 lv.ownBlock)
 (hat:v.ownBlock=lv.ownBlock∨v.ownBlock=some (w0.alloc ob).heap.size):Inn P W z ty (w1.setCell ⟨W.heap.size,1,none⟩ v) a v (ll++[t]):=by
 subst hn hx;have h9:=h.f9lt;have hsa:(w0.alloc ob).heap.size=w0.heap.size+1:=by simp
 have hs0:=hb0.size;have hkg:=Uz hg;have hk1:Wf (fun k=>k<w.heap.size∧lv.ownBlock≠some k) w w1:=((Wf.below hb0 fun _ h=>h):Wf (fun k=>k<w.heap.size) w w0).mono (fun _ h=>h.1) |>.trans (hkg.mono fun k hk=>⟨WW hk.1 hs0,hk.2⟩);have hk0:Wf (fun b=>b≠W.heap.size) w1 (w1.setCell ⟨W.heap.size,1,none⟩ v):=.setCell w1 (fun e=>e rfl) v;have hf1:w1.heap[W.heap.size]?=some (.cells #[.int .i64 ty,lv,.slice none 0 0] 62 (0,0)):=(hk1.block _ ⟨h9,fun e=>by have:=h.lp _ e;omega⟩).trans h.f9;have hvn:∀ g,v.ownBlock=some g→W.heap.size<g:=fun g hg'=>by
  rcases new_at hat hg' with e|e
  ·exact h.lp g e
  ·omega
 have hkj:Wf (fun k=>k<w.heap.size∧¬ (k=W.heap.size∨lv.ownBlock=some k)) w (w1.setCell ⟨W.heap.size,1,none⟩ v):=(hk1.mono fun k hk=>⟨hk.1,fun e=>hk.2 (.inr e)⟩).trans (hk0.mono fun k hk e=>hk.2 (.inl e));have hmd:=h.md.beside (fun k=>k=W.heap.size∨lv.ownBlock=some k) (fun k hk=>by
  rcases hk with rfl|hk
  ·exact h.stl (nR _) h9 a
  ·exact h.stl (Nat.le_of_lt (h.lp k hk)) (h.ow.lt k hk).2 a) hkj
 refine⟨hmd,⟨h.st.keeps.trans (hkj.mono fun k hk=>⟨(h.st.mono k hk).1.2,?_⟩),fun k hk=>⟨⟨hk.1.1,WW (h.st.mono k hk).1.2 hkj.size⟩,(h.st.mono k hk).2⟩⟩,?_,?_,hvn,h.base⟩
 ·rintro(e|e)
  ·have:=hk.1.2;omega
  ·have h1:=h.lp k e;have:=hk.1.2;omega
 ·rw[Wh w1 W.heap.size 1 _ _ v hf1];rfl
 ·rw[List.length_append,List.map_append];exact Wt ho hk0 fun g hg'=>by have:=hvn g hg';omega
end
section
open Go.RowKit
theorem len_owned {w:World} {base size:Nat} {e:TypeId} {v:Value} {n:Nat} {xs:List Value} (h:w.ownsRow base e size v n xs):LenK v n:=by
 rcases h.2 with ⟨rfl,h0⟩|⟨g,cap,cur,rfl,_,_,h1,h2,_⟩
 ·exact⟨none,0,by rw[h0],by omega,nZ _⟩
 ·exact⟨_,cap,rfl,h1,h2⟩
theorem Mk.types_of {P:MP} {w:World} {x:MS} (h:Mk P w x) (K:Nat→Prop) (hK:∀ g,x.m2.ownBlock=some g→K g):VW K w x.m2 3 0 (x.fs.map (·.1)):=by
 rcases h.fo.2 with ⟨h1,h0⟩|⟨g,cap,cur,h1,_,_,h2,h3,_⟩
 ·exact⟨none,0,by rw[h1,List.length_map,h0],by rw[List.length_map,h0];exact nR _,nZ _,fun _=>rfl,fun hl=>by rw[List.length_map]at hl;omega⟩
 ·have hfo:=h.fo;rw[h1]at hfo;refine⟨_,cap,by rw[h1,List.length_map],by rw[List.length_map];exact h2,h3,(fun h=>by cases h),fun _=>⟨g,0,rfl,hK g (by rw[h1];rfl),fun j i hj hi=>?_⟩⟩;rw[List.length_map]at hj;obtain⟨f0,f1,f2⟩:=flatFn_at x.fs j x.fs[j] (List.getElem?_eq_getElem hj);rw[Nat.zero_add];rcases(show i=0∨i=1∨i=2 by omega) with rfl|rfl|rfl
  ·refine⟨_,by rw[hfo.cellAt _ (by omega),Nat.add_zero];exact f0,fun _=>?_⟩;rw[List.getD_eq_getElem?_getD,List.getElem?_map,List.getElem?_eq_getElem hj];rfl
  ·exact⟨_,by rw[hfo.cellAt _ (by omega)];exact f1,fun h=>by omega⟩
  ·exact⟨_,by rw[hfo.cellAt _ (by omega)];exact f2,fun h=>by omega⟩
def fxOf (P:MP) (x:MS) (G:Nat) (lov:Value) (lo:List Int) (pv rv:Value) (ro:List Int) (nd:Nat):Fx :=
 ⟨G,P.T,P.tv,P.tl,x.m0,x.m1,x.m2,x.m3,x.m4,x.m5,x.m6,.slice none 0 0,lov,lo,pv,rv,ro,Us,[1,7],x.fs.map (·.1),[127,126,124,127],x.ms.length,nd,some [],fun _=>False⟩
def stOf (lv:Value) (a:Nat):St:=⟨.slice none 0 0,lv,.slice none 0 0,a,[],1,[],40⟩
theorem gen_start {P:MP} {w4:World} {x:MS} (h:Mk P w4 x) (G:Nat) (lov:Value) (lo:List Int) (pv rv:Value) (ro:List Int) (nd:Nat) (lv:Value)
 (hG:w4.heap[G]?=some (.cells (gcells (fxOf P x G lov lo pv rv ro nd) (stOf lv x.at_)) 69 (0,0))) (hGn:G≠P.M∧G≠P.T∧¬ own3 x G∧P.W.heap.size≤G)
 (hlo:Wg (fun k=>k<w4.heap.size∧k≠G∧k≠P.T) w4 lov lo) (hlo1:lo.length≤100) (hro:Wg (fun k=>k<w4.heap.size∧k≠G∧k≠P.T) w4 rv ro) (hro1:ro.length≤3)
 (hts:Vo (fun k=>k<w4.heap.size∧k≠G∧k≠P.T) w4 x.m0 Us) (his:VW (fun k=>k<w4.heap.size∧k≠G∧k≠P.T) w4 x.m1 3 2 [1,7]) (hgs:VW (fun k=>k<w4.heap.size∧k≠G∧k≠P.T) w4 x.m4 3 0 [127,126,124,127])
 (hfs:0<x.fs.length∧x.fs.length≤4∧∀ f ∈ x.fs,0≤f.1∧f.1<9) (hms:x.ms.length≤3) (hds:LenK x.m6 nd∧nd≤2∧(0<x.ms.length→nd=2))
 (hlab:LabsK (fun k=>k<w4.heap.size∧k≠G∧k≠P.T) w4 lv 1) :
 WD (fxOf P x G lov lo pv rv ro nd) w4 (stOf lv x.at_):=by
 have hnp:∀ k,priv (fxOf P x G lov lo pv rv ro nd) (stOf lv x.at_) k→k=G∨k=P.T:=fun k hk=>by
  rcases hk with e|e|e|e
  ·exact .inl e
  ·exact .inr e
  ·cases e
  ·cases e
 have hrf:∀ k,k<w4.heap.size→k≠G→k≠P.T→W9 (fxOf P x G lov lo pv rv ro nd) w4 (stOf lv x.at_) k:=fun k h1 h2 h3=>⟨⟨h1,fun e=>(hnp k e).elim h2 h3⟩,fun e=>e⟩;have hst:∀ k,(k<w4.heap.size∧k≠G∧k≠P.T)→W9 (fxOf P x G lov lo pv rv ro nd) w4 (stOf lv x.at_) k:=fun k hk=>hrf k hk.1 hk.2.1 hk.2.2;refine⟨hG,h.hT,hGn.2.1,World.ownsRow_nil _ _ _ _,(fun g e=>by cases e),World.ownsRow_nil _ _ _ _,(fun g e=>by cases e),h.le,?_⟩;refine⟨?_,⟨hlo.keep (.refl _ _) hst,hlo1⟩,⟨hro.keep (.refl _ _) hst,hro1⟩,⟨hts.keep (.refl _ _) hst,rfl,(by decide:∀ t ∈ Us,t.1.length≤3∧t.2.length≤3)⟩,⟨his.keep (.refl _ _) hst,rfl,(by decide:∀ t ∈ ([1,7]:List Int),0≤t∧t<9)⟩,⟨?_,⟨?_,?_⟩,?_⟩,⟨?_,hms⟩,⟨hgs.keep (.refl _ _) hst,rfl⟩,hds.1 |> fun h=>⟨h,hds.2⟩,hlab.keep (.refl _ _) (fun k hk=>hrf k hk.1 hk.2.1 hk.2.2),(fun iv hiv=>by cases hiv),fun q hq=>?_⟩
 ·exact h.tape.keep (Wf.below h.bel fun _ h=>h) fun k hk=>hrf k (WW hk h.bel.size) (fun e=>by have:=hGn.2.2.2;omega) (fun e=>by have:=h.new.2.1;omega)
 ·exact h.types_of _ fun g hg=>hrf g (h.fo.lt g hg).2 (fun e=>hGn.2.2.1 (.inl (e ▸ hg))) (h.fp g hg).2.2.1
 ·show 0<(x.fs.map (·.1)).length;rw[List.length_map];exact hfs.1
 ·show(x.fs.map (·.1)).length≤4;rw[List.length_map];exact hfs.2.1
 ·intro t ht;obtain⟨f,hf,rfl⟩:=List.mem_map.1 ht;exact hfs.2.2 f hf
 ·exact len_owned h.mo
 ·obtain rfl:=Option.some.inj hq;rfl
end
end Go.Proofs.YtepgopnnaeoolaaGreatDoor
