/- A part of the proof. -/
import Derived.Test.YtepgopnnaeoolaaGreatDoorJ19
namespace Go.Proofs.YtepgopnnaeoolaaGreatDoor
open Go.RowKit
set_option maxHeartbeats 4000000
set_option maxRecDepth 100000
theorem Tryz.infoMem:(Tryz.prog.info? 55).map (fun i=>(i.zero,i.size,i.bytes))=some (some (.agg #[.int .i64 0,.int .i64 0]),2,16):=by kernel_rfl
theorem Tryz.infoExport:(Tryz.prog.info? 59).map (fun i=>(i.zero,i.size,i.bytes))=some (some (.agg #[.string ⟨#[]⟩,.int .i64 0,.int .i64 0]),3,32):=by kernel_rfl
theorem Tryz.infoFunc:(Tryz.prog.info? 62).map (fun i=>(i.zero,i.size,i.bytes))=some (some (.agg #[.int .i64 0,.slice none 0 0,.slice none 0 0]),3,56):=by kernel_rfl
structure First (P:MP) (W0:World) (X0:MS) (w:World) (x:MS):Prop where
 md:Mk P w x
 st:Vd P W0 X0 w x
 m0:x.m0=X0.m0
 m1:x.m1=X0.m1
 m4:x.m4=X0.m4
 m6:x.m6=X0.m6
 fs:x.fs=X0.fs∧x.m2=X0.m2
 es:x.es=X0.es∧x.m5=X0.m5
theorem First.refl {P:MP} {w:World} {x:MS} (h:Mk P w x):First P w x w x:=⟨h,.refl _ _ _,rfl,rfl,rfl,rfl,⟨rfl,rfl⟩,⟨rfl,rfl⟩⟩
def goodM (m:Int×Int):Prop:=1≤m.1∧m.1≤2∧2≤m.2∧m.2≤4
structure Row3 (P:MP) (y:MS) (v:Value) (k:Nat):Prop where
 cell:∀ wz a,Mk P wz { y with at_:=a }→wz.cell? ⟨P.M,3,none⟩=some v
 own:∀ wz a,Mk P wz { y with at_:=a }→wz.ownsRow 0 55 2 v k (flatMm y.ms)
 push:∀ wz a ob,Mk P wz { y with at_:=a }→(wz.alloc ob).cell? ⟨P.M,3,none⟩=some v∧∀ w2,(wz.alloc ob).grownBy w2 v.ownBlock→w2.cell? ⟨P.M,3,none⟩=some v∧w2.frozen? ⟨P.M,3,none⟩=false
 more:∀ wz a ob (m:Int×Int) w2 v' n xs,Mk P wz { y with at_:=a }→w2.ownsRow 0 55 2 v' n xs→n=k+1→xs=flatMm y.ms++mmCells m→(wz.alloc ob).grownBy w2 v.ownBlock→(v'.ownBlock=v.ownBlock∨v'.ownBlock=some (wz.alloc ob).heap.size) →
  Mk P (w2.setCell ⟨P.M,3,none⟩ v') { y with at_:=a,m3:=v',ms:=y.ms++[m] }∧Vd P wz { y with at_:=a } (w2.setCell ⟨P.M,3,none⟩ v') { y with at_:=a,m3:=v',ms:=y.ms++[m] }
theorem row3 {P:MP} {y:MS} {v:Value} {k:Nat} (hv:y.m3=v) (hk:y.ms.length=k):Row3 P y v k:=by
 subst hv hk;exact⟨fun wz a h=>h.cell 3,fun wz a h=>h.mo,fun wz a ob h=>h.pushf ob _ (fun k e=>.inr (.inl e)) 3,fun wz a ob m w2 v' n xs h ho hn hx hg hat=>h.pushM ob m ho hn hx hg hat⟩
structure Row5 (P:MP) (y:MS) (v:Value) (k:Nat):Prop where
 cell:∀ wz a,Mk P wz { y with at_:=a }→wz.cell? ⟨P.M,5,none⟩=some v
 own:∀ wz a,Mk P wz { y with at_:=a }→wz.ownsRow 0 59 3 v k (Uk y.es)
 push:∀ wz a ob,Mk P wz { y with at_:=a }→(wz.alloc ob).cell? ⟨P.M,5,none⟩=some v∧∀ w2,(wz.alloc ob).grownBy w2 v.ownBlock→w2.cell? ⟨P.M,5,none⟩=some v∧w2.frozen? ⟨P.M,5,none⟩=false
 more:∀ wz a ob (m:ByteArray×Int×Int) w2 v' n xs,Mk P wz { y with at_:=a }→w2.ownsRow 0 59 3 v' n xs→n=k+1→xs=Uk y.es++Uv m→(wz.alloc ob).grownBy w2 v.ownBlock→(v'.ownBlock=v.ownBlock∨v'.ownBlock=some (wz.alloc ob).heap.size) →
  Mk P (w2.setCell ⟨P.M,5,none⟩ v') { y with at_:=a,m5:=v',es:=y.es++[m] }∧Vd P wz { y with at_:=a } (w2.setCell ⟨P.M,5,none⟩ v') { y with at_:=a,m5:=v',es:=y.es++[m] }
theorem row5 {P:MP} {y:MS} {v:Value} {k:Nat} (hv:y.m5=v) (hk:y.es.length=k):Row5 P y v k:=by
 subst hv hk;exact⟨fun wz a h=>h.cell 5,fun wz a h=>h.eo,fun wz a ob h=>h.pushf ob _ (fun k e=>.inr (.inr e)) 5,fun wz a ob m w2 v' n xs h ho hn hx hg hat=>h.pushE ob m ho hn hx hg hat⟩
structure Row2 (P:MP) (y:MS) (v:Value) (k:Nat):Prop where
 cell:∀ wz a,Mk P wz { y with at_:=a }→wz.cell? ⟨P.M,2,none⟩=some v
 own:∀ wz a,Mk P wz { y with at_:=a }→wz.ownsRow 0 62 3 v k (Vw y.fs)
 push:∀ wz a ob,Mk P wz { y with at_:=a }→(wz.alloc ob).cell? ⟨P.M,2,none⟩=some v∧∀ w2,(wz.alloc ob).grownBy w2 v.ownBlock→w2.cell? ⟨P.M,2,none⟩=some v∧w2.frozen? ⟨P.M,2,none⟩=false
 more:∀ wz a ob (m:Int×Value×Value) w2 v' n xs,Mk P wz { y with at_:=a }→w2.ownsRow 0 62 3 v' n xs→n=k+1→xs=Vw y.fs++Uw m→(wz.alloc ob).grownBy w2 v.ownBlock→(v'.ownBlock=v.ownBlock∨v'.ownBlock=some (wz.alloc ob).heap.size) →
  Mk P (w2.setCell ⟨P.M,2,none⟩ v') { y with at_:=a,m2:=v',fs:=y.fs++[m] }∧Vd P wz { y with at_:=a } (w2.setCell ⟨P.M,2,none⟩ v') { y with at_:=a,m2:=v',fs:=y.fs++[m] }
theorem row2 {P:MP} {y:MS} {v:Value} {k:Nat} (hv:y.m2=v) (hk:y.fs.length=k):Row2 P y v k:=by
 subst hv hk;exact⟨fun wz a h=>h.cell 2,fun wz a h=>h.fo,fun wz a ob h=>h.pushf ob _ (fun k e=>.inl e) 2,fun wz a ob m w2 v' n xs h ho hn hx hg hat=>h.pushF ob m ho hn hx hg hat⟩
def mbyt (x:Nat):Value:=.int .u8 (x:Int)
def Vz (w:World) (l:List Nat):World:=(w.alloc (.cells (l.map mbyt).toArray 5)).freeze ⟨w.heap.size,l.length,none⟩ 1
theorem conv_made (w:World) (l:List Nat) (n c:Nat):(convert 39 39 (.slice (some ⟨w.heap.size,0,none⟩) n c)).run Tryz.prog (w.alloc (.cells (l.map mbyt).toArray 5))=.ok (.slice (some ⟨w.heap.size,0,none⟩) n c) (Vz w l):=by
 have hsh:(w.alloc (.cells (l.map mbyt).toArray 5)).shape? w.heap.size=some (5,l.length):=by
  simp[World.shape?,World.alloc,-World.alloc_eq]
 simp[convert,run_underlying Tryz.underlying39,run_underlying Tryz.underlying5,markStringish,Vz,hsh,Result.andThen]
theorem below_mmark (w:World) (l:List Nat):Below w.heap.size w (Vz w l):=by
 unfold Vz;exact Lib.below_freeze ((bR _ _).alloc (nR _) _) (p:=⟨w.heap.size,_,none⟩) (nR _) 1
theorem conv_active (w:World):(convert 39 39 (.slice (some ⟨w.heap.size,0,none⟩) 6 6)).run Tryz.prog (w.alloc (.cells #[.int .u8 97,.int .u8 99,.int .u8 116,.int .u8 105,.int .u8 118,.int .u8 101] 5))=.ok (.slice (some ⟨w.heap.size,0,none⟩) 6 6) (Vz w [97,99,116,105,118,101]):=conv_made w [97,99,116,105,118,101] 6 6
theorem conv_passive (w:World):(convert 39 39 (.slice (some ⟨w.heap.size,0,none⟩) 7 7)).run Tryz.prog (w.alloc (.cells #[.int .u8 112,.int .u8 97,.int .u8 115,.int .u8 115,.int .u8 105,.int .u8 118,.int .u8 101] 5))=.ok (.slice (some ⟨w.heap.size,0,none⟩) 7 7) (Vz w [112,97,115,115,105,118,101]):=conv_made w [112,97,115,115,105,118,101] 7 7
def dataW (w:World) (a b:Int):World:=(Vz (Vz w [97,99,116,105,118,101]) [112,97,115,115,105,118,101]).alloc (.cells #[.bool true,.int .i64 a,.int .i64 b,.slice (some ⟨w.heap.size,0,none⟩) 6 6,.bool false,.int .i64 0,.int .i64 0,.slice (some ⟨(Vz w [97,99,116,105,118,101]).heap.size,0,none⟩) 7 7] 57)
theorem below_dataW (w:World) (a b:Int):Below w.heap.size w (dataW w a b):=Wi (Wa (below_mmark w _) (below_mmark _ _)) _
theorem mmark_at (w:World) (l:List Nat):(Vz w l).heap[w.heap.size]?=some (.cells (l.map mbyt).toArray 5 (l.length,l.length+1)):=by
 simp[Vz,World.freeze,World.alloc,-World.alloc_eq,Array.getElem_modify]
theorem mmark_size (w:World) (l:List Nat):(Vz w l).heap.size=w.heap.size+1:=by
 simp[Vz,World.freeze,World.alloc,-World.alloc_eq]
theorem datasK_nil (K:Nat→Prop) (w:World):Vp K w (.slice none 0 0) []:=⟨none,0,rfl,nR _,nZ _,fun _=>rfl,fun h=>absurd h (Nat.lt_irrefl 0)⟩
theorem dataW_read {P:MP} {w:World} {x:MS} (h:Mk P w x) (a b:Nat):Vp (WN P x (dataW w a b)) (dataW w a b) (.slice (some ⟨(Vz (Vz w [97,99,116,105,118,101]) [112,97,115,115,105,118,101]).heap.size,0,none⟩) 2 2) [⟨true,(a:Int),(b:Int),actB⟩,⟨false,0,0,pasB⟩]:=by
 obtain⟨l1,l2,l3⟩:=h.lts;have hw:=h.bel.size;have e1:=mmark_size w [97,99,116,105,118,101];have e2:=mmark_size (Vz w [97,99,116,105,118,101]) [112,97,115,115,105,118,101];have e3:(dataW w a b).heap.size=w.heap.size+3:=by unfold dataW;simp[e1,e2]
 have hst:∀ k,w.heap.size≤k→k<w.heap.size+3→WN P x (dataW w a b) k:=fun k h1 h2=>⟨⟨by omega,by omega⟩,by omega,by omega,fun e=>by have:=l3 k e;omega⟩;have b1:(dataW w a b).heap[w.heap.size]?=some (.cells (([97,99,116,105,118,101]:List Nat).map mbyt).toArray 5 (6,7)):=by
  unfold dataW;rw[Below.heap_alloc _ _ _ (by omega),(below_mmark (Vz w [97,99,116,105,118,101]) [112,97,115,115,105,118,101]).block _ (by omega)];exact mmark_at w _
 have b2:(dataW w a b).heap[w.heap.size+1]?=some (.cells (([112,97,115,115,105,118,101]:List Nat).map mbyt).toArray 5 (7,8)):=by
  unfold dataW;rw[Below.heap_alloc _ _ _ (by omega),← e1];exact mmark_at (Vz w [97,99,116,105,118,101]) _
 have b3:(dataW w a b).heap[w.heap.size+2]?=some (.cells #[.bool true,.int .i64 (a:Int),.int .i64 (b:Int),.slice (some ⟨w.heap.size,0,none⟩) 6 6,.bool false,.int .i64 0,.int .i64 0,.slice (some ⟨w.heap.size+1,0,none⟩) 7 7] 57 (0,0)):=by
  have h9:=heap_alloc_new (Vz (Vz w [97,99,116,105,118,101]) [112,97,115,115,105,118,101]) (.cells #[.bool true,.int .i64 (a:Int),.int .i64 (b:Int),.slice (some ⟨w.heap.size,0,none⟩) 6 6,.bool false,.int .i64 0,.int .i64 0,.slice (some ⟨(Vz w [97,99,116,105,118,101]).heap.size,0,none⟩) 7 7] 57);rw[e2,e1]at h9;unfold dataW;rw[e1];exact h9
 rw[e2,e1];generalize dataW w a b=W at *;have c1:UJ (WN P x W) W (.slice (some ⟨w.heap.size,0,none⟩) 6 6) actB:=⟨_,6,rfl,by decide,by decide,(fun h=>by cases h),fun _=>⟨w.heap.size,0,rfl,hst _ (by omega) (by omega),fun j hj=>by
  simp only[World.cell?,b1];have hj6:j<6:=hj;rcases(show j=0∨j=1∨j=2∨j=3∨j=4∨j=5 by omega) with rfl|rfl|rfl|rfl|rfl|rfl <;> rfl⟩,by decide⟩
 have c2:UJ (WN P x W) W (.slice (some ⟨w.heap.size+1,0,none⟩) 7 7) pasB:=⟨_,7,rfl,by decide,by decide,(fun h=>by cases h),fun _=>⟨w.heap.size+1,0,rfl,hst _ (by omega) (by omega),fun j hj=>by
  simp only[World.cell?,b2];have hj7:j<7:=hj;rcases(show j=0∨j=1∨j=2∨j=3∨j=4∨j=5∨j=6 by omega) with rfl|rfl|rfl|rfl|rfl|rfl|rfl <;> rfl⟩,by decide⟩
 refine⟨_,2,rfl,nR _,by unfold maxLen;omega,(fun h=>by cases h),fun _=>⟨w.heap.size+2,0,rfl,hst _ (by omega) (by omega),fun j i hj hi=>?_⟩⟩;have hj2:j<2:=hj;rcases(show j=0∨j=1 by omega) with rfl|rfl <;> rcases(show i=0∨i=1∨i=2∨i=3 by omega) with rfl|rfl|rfl|rfl <;> refine⟨_,by simp only[World.cell?,b3];rfl,?_⟩ <;> first|exact c1|exact c2|rfl
theorem ds_step {P:MP} {w w':World} {x x':MS} {nm:Nat} (hs:Vd P w x w' x') (h6:x'.m6=x.m6) (h:∃ ds,Vp (WN P x w) w x.m6 ds∧datsOk nm ds):∃ ds,Vp (WN P x' w') w' x'.m6 ds∧datsOk nm ds:=by
 obtain⟨ds,h1,h2⟩:=h;exact⟨ds,by rw[h6];exact Vp.keep h1 hs.keeps hs.mono,h2⟩
structure Second (P:MP) (W0:World) (X0:MS) (nm:Nat) (w:World) (x:MS):Prop where
 md:Mk P w x
 st:Vd P W0 X0 w x
 m0:x.m0=X0.m0
 m1:x.m1=X0.m1
 m4:x.m4=X0.m4
 fs:x.fs=X0.fs∧x.m2=X0.m2
 ms:x.ms.length=nm∧∀ m ∈ x.ms,goodM m
 ds:∃ ds,Vp (WN P x w) w x.m6 ds∧datsOk nm ds
 es:x.es=mexp nm
def FnOk (K:Nat→Prop) (w:World) (f:Int×Value×Value):Prop:=0≤f.1∧f.1<9∧f.2.2=.slice none 0 0∧∃ ll:List Int,ll.length≤3∧Wg K w f.2.1 ll∧∀ t ∈ ll,kind3 t
theorem FnOk.step {P:MP} {w w':World} {x x':MS} {f:Int×Value×Value} (h:FnOk (WN P x w) w f) (hs:Vd P w x w' x'):FnOk (WN P x' w') w' f:=by
 obtain⟨h1,h2,h3,ll,h4,h5,h6⟩:=h;exact⟨h1,h2,h3,ll,h4,hs.ints h5,h6⟩
theorem Inn.ints {P:MP} {W w:World} {z:MS} {ty:Int} {a:Nat} {lv:Value} {ll:List Int} (h:Inn P W z ty w a lv ll) (hl:ll.length≤1000000):Wg (WN P { z with at_:=a } w) w lv ll :=
 owns_ints_at h.ow hl fun g hg hlt=>h.stl (Nat.le_of_lt (h.lp g hg)) hlt a
structure Third (P:MP) (W0:World) (X0:MS) (nm n:Nat) (E:List (ByteArray×Int×Int)) (w:World) (x:MS):Prop where
 md:Mk P w x
 st:Vd P W0 X0 w x
 m0:x.m0=X0.m0
 m1:x.m1=X0.m1
 m4:x.m4=X0.m4
 fs:x.fs.length=n∧∀ f ∈ x.fs,FnOk (WN P x w) w f
 ms:x.ms.length=nm∧∀ m ∈ x.ms,goodM m
 ds:∃ ds,Vp (WN P x w) w x.m6 ds∧datsOk nm ds
 es:x.es=E
theorem lit3k (r:Nat) (hr:r<3):∃ v:Int,kind3 v∧#[Value.int .i64 127,.int .i64 126,.int .i64 124][r]?=some (.int .i64 v):=by
 match r with
 | 0=>exact⟨_,.inl rfl,rfl⟩
 | 1=>exact⟨_,.inr (.inl rfl),rfl⟩
 | 2=>exact⟨_,.inr (.inr rfl),rfl⟩
theorem Third.fourth {P:MP} {W0:World} {X0:MS} {nm n r:Nat} {w:World} {x:MS} (h:Third P W0 X0 nm n (mexp nm++fexp n++[(globName,3,(r:Int))]) w x) (hm:nm≤3):VB P W0 X0 nm n 0 r w x :=
 ⟨h.md,h.st,h.m0,h.m1,h.m4,⟨h.fs.1,fun j f hf=>by
  obtain⟨h1,h2,h3,ll,h4,h5,h6⟩:=h.fs.2 f (List.mem_of_getElem? hf);exact⟨⟨h1,h2⟩,⟨ll,h4,h5,h6⟩,[],nZ _,⟨none,0,h3,nR _,nZ _,fun _=>rfl,fun h=>absurd h (Nat.lt_irrefl 0)⟩,fun iv hiv=>by simp at hiv,fun h=>absurd h (Nat.not_lt_zero _)⟩⟩,⟨h.ms.1,hm,h.ms.2⟩,h.ds,h.es⟩
theorem box_pre {w:World} {G:Nat} {cs:Array Value} {t:TypeId} (h:w.heap[G]?=some (.cells cs t (0,0))) (p r:Value) (ob:Obj) :
 (((w.setCell ⟨G,10,none⟩ p).setCell ⟨G,11,none⟩ r).alloc ob).heap[G]?=some (.cells ((cs.setIfInBounds 10 p).setIfInBounds 11 r) t (0,0)):=by
 have h1:=Wh w G 10 cs t p h;have h2:=Wh _ G 11 _ t r h1;exact(Below.heap_alloc _ ob _ (Array.getElem?_eq_some_iff.1 h2).1).trans h2
def ModPost (w:World) (e:Ending) (w':World):Prop:=∃ v m,e=.returned (.agg v.cells)∧MadeM m∧WQ (fun k=>k<w'.heap.size) w' v m∧Below w.heap.size w w'
theorem module_any (w:World) (tv:Value) (tl:List Int) (htl:Wg (fun k=>k<w.heap.size) w tv tl) :
 Calls Tryz.prog 4 #[tv] w (ModPost w):=by
 obtain⟨At,ct,htv,_,_⟩:=htl.form;have HTL:=hD htl;clear htl;rw[htv]at HTL ⊢;clear htv;generalize tl.length=ntl at *;go_enter Tryz.func4,Tryz.ntmps4;go_wp2_with fail
 go_at_call 8;refine(types_any _).mono ?_;rintro e W2 ⟨rfl,hW2⟩;obtain⟨W1,hW1⟩:∃ W1,W1=(w.alloc (.cells Ww 33)).alloc (.cells #[.slice At ntl ct,.int .i64 0] 49):=⟨_,rfl⟩;have hW2':W2=(tyObjs W1.heap.size).foldl World.alloc W1:=by rw[hW1];exact hW2
 have hs1:W1.heap.size=w.heap.size+2:=by rw[hW1];simp
 obtain⟨X0,hX0⟩:∃ X0:MS,X0=⟨.slice (some ⟨W1.heap.size+14,0,none⟩) 9 9,.slice none 0 0,.slice none 0 0,.slice none 0 0,.slice none 0 0,.slice none 0 0,.slice none 0 0,0,[],[],[]⟩:=⟨_,rfl⟩;obtain⟨P,hP⟩:∃ P:MP,P=⟨w.alloc (.cells Ww 33),W2.heap.size,w.heap.size+1,.slice At ntl ct,tl⟩:=⟨_,rfl⟩;obtain⟨hk0,hty⟩:=mk_start w _ tl HTL.out W1 W2 hW1 hW2' X0 hX0 P hP;have hW1':(w.alloc (.cells #[.slice none 0 0,.slice none 0 0,.slice none 0 0,.slice none 0 0,.slice none 0 0,.slice none 0 0,.slice none 0 0,.slice none 0 0] 33)).alloc (.cells #[.slice At ntl ct,.int .i64 0] 49)=W1:=hW1.symm;rw[hW1'];have hPM:P.M=W2.heap.size:=by rw[hP]
 have hPT:P.T=w.heap.size+1:=by rw[hP]
 have HPW:Hid (P.W=w.alloc (.cells Ww 33)):=by rw[Hid,hP]
 have HTY:=hD hty;have HK0:=hD hk0;have HPM:=hD hPM;have HPT:=hD hPT;have HX0:=hD hX0;clear hs1 hk0 hty hW1 hW1' hW2 hW2' hP hX0 hPM hPT
 go_upto_region 3 with (fail)
 have hW3:W2.alloc (.cells #[.slice (some ⟨W1.heap.size+14,0,none⟩) 9 9,.slice none 0 0,.slice none 0 0,.slice none 0 0,.slice none 0 0,.slice none 0 0,.slice none 0 0,.slice none 0 0] 33)=W2.alloc (.cells (Ui X0) 33):=by rw[HX0.out];rfl
 rw[hW3];clear hW3;generalize W2.alloc (.cells (Ui X0) 33)=w3 at HTY HK0 ⊢;rw[← HPM.out,← HPT.out];obtain⟨ha3,hs3⟩:=HK0.out.below ((bR _ _).alloc (nR _) (.cells impL 52));have hi3:=cells_lit HK0.out impL 52 2 3 (fun j i u=>impCell (twoImps.getD j (ByteArray.empty,ByteArray.empty,0)) i u) (by omega) (by omega) (fun j i hj hi=>imp_cells j i hj hi);obtain⟨hb3,ht3⟩:=ha3.set1 (.slice (some ⟨w3.heap.size,0,none⟩) 2 2);have f3:(w3.alloc (.cells #[.string ⟨#[104,111,115,116]⟩,.string ⟨#[111,110,101]⟩,.int .i64 1,.string ⟨#[104,111,115,116]⟩,.string ⟨#[116,119,111]⟩,.int .i64 7] 52)).frozen? ⟨P.M,1,none⟩=false:=ha3.frozen 1;have g3:(w3.alloc (.cells #[.string ⟨#[104,111,115,116]⟩,.string ⟨#[111,110,101]⟩,.int .i64 1,.string ⟨#[104,111,115,116]⟩,.string ⟨#[116,119,111]⟩,.int .i64 7] 52)).cell? ⟨P.M,1,none⟩=some X0.m1:=ha3.cell 1;have HI3:=hD (ht3.cells hi3);have HB3:=hD hb3;have HS3:=hD (hs3.trans ht3);clear ha3 hs3 hi3 hb3 ht3
 go_upto_region 4 with (fail)
 clear f3 g3;have hw4:(w3.alloc (.cells #[.string ⟨#[104,111,115,116]⟩,.string ⟨#[111,110,101]⟩,.int .i64 1,.string ⟨#[104,111,115,116]⟩,.string ⟨#[116,119,111]⟩,.int .i64 7] 52)).setCell ⟨P.M,1,none⟩ (.slice (some ⟨w3.heap.size,0,none⟩) 2 2)=(w3.alloc (.cells impL 52)).setCell ⟨P.M,1,none⟩ (.slice (some ⟨w3.heap.size,0,none⟩) 2 2):=rfl;rw[hw4];clear hw4;generalize (w3.alloc (.cells impL 52)).setCell ⟨P.M,1,none⟩ (.slice (some ⟨w3.heap.size,0,none⟩) 2 2)=w4 at HI3 HB3 HS3 ⊢;obtain⟨X4,hX4⟩:∃ X4:MS,X4={ X0 with m1:=.slice (some ⟨w3.heap.size,0,none⟩) 2 2 }:=⟨_,rfl⟩;rw[← hX4]at HI3 HB3 HS3;obtain⟨ha4,hs4⟩:=HB3.out.below ((bR _ _).alloc (nR _) (.cells globL 44));have hi4:=cells_lit HB3.out globL 44 4 3 (fun j i u=>VX (UC.getD j (0,false,0)) i u) (by omega) (by omega) (fun j i hj hi=>glob_cells j i hj hi);obtain⟨hb4,ht4⟩:=ha4.set4 (.slice (some ⟨w4.heap.size,0,none⟩) 4 4);have f4:(w4.alloc (.cells #[.int .i64 127,.bool true,.int .u64 5,.int .i64 126,.bool true,.int .u64 1099511627776,.int .i64 124,.bool true,.int .u64 4611686018427387904,.int .i64 127,.bool false,.int .u64 9] 44)).frozen? ⟨P.M,4,none⟩=false:=ha4.frozen 4;have g4:(w4.alloc (.cells #[.int .i64 127,.bool true,.int .u64 5,.int .i64 126,.bool true,.int .u64 1099511627776,.int .i64 124,.bool true,.int .u64 4611686018427387904,.int .i64 127,.bool false,.int .u64 9] 44)).cell? ⟨P.M,4,none⟩=some X4.m4:=ha4.cell 4;have HI4:=hD (ht4.cells hi4);have HJ4:=hD ((hs4.trans ht4).cells HI3.out);have HB4:=hD hb4;have HS4:=hD (HS3.out.trans (hs4.trans ht4));clear ha4 hs4 hi4 hb4 ht4 HI3 HB3 HS3
 go_upto_region 5 with (fail)
 clear f4 g4;have hw5:(w4.alloc (.cells #[.int .i64 127,.bool true,.int .u64 5,.int .i64 126,.bool true,.int .u64 1099511627776,.int .i64 124,.bool true,.int .u64 4611686018427387904,.int .i64 127,.bool false,.int .u64 9] 44)).setCell ⟨P.M,4,none⟩ (.slice (some ⟨w4.heap.size,0,none⟩) 4 4)=(w4.alloc (.cells globL 44)).setCell ⟨P.M,4,none⟩ (.slice (some ⟨w4.heap.size,0,none⟩) 4 4):=rfl;rw[hw5];clear hw5;generalize (w4.alloc (.cells globL 44)).setCell ⟨P.M,4,none⟩ (.slice (some ⟨w4.heap.size,0,none⟩) 4 4)=w5 at HI4 HJ4 HB4 HS4 ⊢;obtain⟨X5,hX5⟩:∃ X5:MS,X5={ X4 with m4:=.slice (some ⟨w4.heap.size,0,none⟩) 4 4 }:=⟨_,rfl⟩;rw[← hX5]at HI4 HJ4 HB4 HS4;have HE5:Hid (X5.m0=X0.m0∧X5.m1=.slice (some ⟨w3.heap.size,0,none⟩) 2 2∧X5.m4=.slice (some ⟨w4.heap.size,0,none⟩) 4 4∧X5.fs=[]∧X5.es=[]∧X5.ms=[]∧X5.m2=.slice none 0 0∧X5.m3=.slice none 0 0∧X5.m5=.slice none 0 0∧X5.m6=.slice none 0 0):=by rw[Hid,hX5,hX4,HX0.out];exact⟨rfl,rfl,rfl,rfl,rfl,rfl,rfl,rfl,rfl,rfl⟩
 have HM0:Hid (X5.m0=.slice (some ⟨W1.heap.size+14,0,none⟩) 9 9):=by rw[Hid,HE5.out.1,HX0.out]
 have HTY5:=hD (HS4.out.types HTY.out);clear hX4 hX5 HK0 HTY HX0 HPM HS4;go_wp2_with fail
 go_at_call 9;refine(UL HB4.out 4 (by omega) (by omega)).mono ?_;rintro e w6 ⟨nm,hnm,rfl,a6,hk6,hs6⟩;have H6:=hD hk6;have HS6:=hD hs6;clear hk6 hs6;go_wp2_with fail
 have HF6:Hid (First P w5 X5 w6 { X5 with at_:=a6 }):=hD ⟨H6.out,HS6.out,rfl,rfl,rfl,rfl,⟨rfl,rfl⟩,⟨rfl,rfl⟩⟩;have HM6:Hid (({ X5 with at_:=a6 }:MS).ms.length=0∧∀ m ∈ ({ X5 with at_:=a6 }:MS).ms,goodM m):=by rw[Hid,show({ X5 with at_:=a6 }:MS).ms=[] from HE5.out.2.2.2.2.2.1];exact⟨rfl,by simp⟩
 clear H6 HS6;go_loopw [6] (fun i wr=>∃ (k:Nat) (y:MS),k≤nm∧i=.int .i64 (k:Int)∧Hid (First P w5 X5 wr y)∧Hid (y.ms.length=k∧∀ m ∈ y.ms,goodM m)) (fun i _=>nm - (intOf i).toNat)
 case atStart=>exact⟨0,_,nZ _,rfl,HF6,HM6⟩
 case round =>
  clear HF6 HM6;obtain⟨k,y,hk,rfl,HF,HMM⟩:=hrel;by_cases hlt:k<nm
  ·have hd0:decide ((k:Int)<(nm:Int))=true:=by simp;omega
   obtain⟨A3,c3,hy3⟩:=Wc HF.out.md.mo;rw[HMM.out.1]at hy3;have HRW:=hD (row3 (P:=P) hy3 HMM.out.1);clear hy3;have d3:=HRW.out.cell _ _ HF.out.md;have hk1M:k+1≤1000000:=by omega
   go_wp2_with fail
   go_region_law (first
    | (refine Wb rfl (.tmp 36) (.tmp 44) 27 55 rfl _ 2 16 Tryz.underlying27 Tryz.infoMem rfl (by decide) (by decide) (.slice A3 k c3) k (flatMm y.ms) (by rfl) ((HRW.out.own _ _ hk8).alloc _) _ 1 (mmCells (1+(r7:Int),2+(r8:Int))) (by rfl) (by rfl) (WS w8 _ _ 1 1) (by simp[mmCells,Value.oneCell']) hk1M ?_;intro v9 w9 ho9 hg9 hat9;obtain⟨e9,f9⟩:=(HRW.out.push _ _ _ hk8).2 w9 hg9;obtain⟨B9,k9,rfl⟩:=Wc ho9)
    | (go_simp;go_at_call 9;refine(UL hk7 3 (by decide) (by decide)).mono ?_;rintro e w8 ⟨r8,hr8,rfl,a8,hk8,hs8⟩;have d8:=HRW.out.cell _ _ hk8;have d8b:=(HRW.out.push _ _ (.cells #[.int .i64 (1+(r7:Int)),.int .i64 (2+(r8:Int))] 55) hk8).1;have e8:IntKind.i64.wrap (2+(r8:Int))=2+(r8:Int):=IntWalk.i64_in _ (by clear e7;omega);go_wp2_with fail)
    | (go_simp;go_at_call 9;refine(UL HF.out.md.drew.1 2 (by omega) (by omega)).mono ?_;rintro e w7 ⟨r7,hr7,rfl,a7,hk7,hs7⟩;have d7:=HRW.out.cell _ _ hk7;have e7:IntKind.i64.wrap (1+(r7:Int))=1+(r7:Int):=IntWalk.i64_in _ (by omega);go_wp2_with fail))
   all_goals
    have hps:=HRW.out.more _ _ _ (1+(r7:Int),2+(r8:Int)) w9 _ _ _ hk8 ho9 rfl rfl hg9 hat9;have HPS:=hD hps;have HS9:=hD (HF.out.md.drew.2.trans (hs7.trans (hs8.trans hps.2)));clear hps ho9 hg9 hat9 e9 f9 e7 e8 hk7 hs7 hk8 hs8;go_wp2;go_roundw
    case rel =>
     refine⟨k+1,_,by omega,by go_num,hD ⟨HPS.out.1,HF.out.st.trans HS9.out,HF.out.m0,HF.out.m1,HF.out.m4,HF.out.m6,HF.out.fs,HF.out.es⟩,hD ⟨?_,fun m hm=>?_⟩⟩
     ·show(y.ms++[_]).length=k+1;rw[List.length_append,HMM.out.1];rfl
     ·rcases List.mem_append.1 hm with h|h
      ·exact HMM.out.2 m h
      ·obtain rfl:=List.mem_singleton.1 h;exact⟨by show 1≤1+(r7:Int);omega,by show 1+(r7:Int)≤2;omega,by show 2≤2+(r8:Int);omega,by show 2+(r8:Int)≤4;omega⟩
    case measure=>simp[intOf];omega
  ·obtain rfl:k=nm:=by omega
   have hd0:decide ((k:Int)<(k:Int))=false:=by simp
   obtain⟨w10,rfl⟩:∃ w10,w10=wr:=⟨_,rfl⟩;clear hlt hk;have HG:=HF;have HES0:Hid (y.es=[]∧y.m5=.slice none 0 0):=by rw[Hid,HF.out.es.1,HF.out.es.2];exact⟨HE5.out.2.2.2.2.1,HE5.out.2.2.2.2.2.2.2.2.1⟩
   have HM60:Hid (y.m6=.slice none 0 0):=by rw[Hid,HF.out.m6];exact HE5.out.2.2.2.2.2.2.2.2.2
   go_upto_if 48 with (fail)
   go_cut [] from 13 to 69 (fun wx=>∃ z:MS,Hid (Second P w5 X5 k wx z))
   case first =>
    by_cases h0:0<k
    case' neg =>
     have hd1:decide ((0:Int)<(k:Int))=false:=by simp;omega
     go_wp2
     go_meet
     exact⟨y,hD ⟨HF.out.md,HF.out.st,HF.out.m0,HF.out.m1,HF.out.m4,HF.out.fs,HMM.out,⟨[],by rw[HM60.out];exact datasK_nil _ _,.inl ⟨by omega,rfl⟩⟩,by rw[HES0.out.1,mexp,if_neg h0]⟩⟩
    have hd1:decide ((0:Int)<(k:Int))=true:=by simp;omega
    go_wp2_with fail
    go_at_call 9;refine(UL HF.out.md k h0 (by omega)).mono ?_;rintro e w11 ⟨r11,hr11,rfl,a11,hk11,hs11⟩;have H11:=hD hk11;have HS11:=hD hs11;clear hk11 hs11;go_wp2_with fail
    go_at_call 9;refine(UL H11.out 1000 (by omega) (by omega)).mono ?_;rintro e w12 ⟨r12,hr12,rfl,a12,hk12,hs12⟩;have hcv1:=conv_active w12;have hcv2:=conv_passive (Vz w12 [97,99,116,105,118,101]);obtain⟨hk13,hs13⟩:=hk12.below (below_dataW w12 (r11:Int) (r12:Int));have f13:=hk13.frozen 6;have g13:(dataW w12 (r11:Int) (r12:Int)).cell? ⟨P.M,6,none⟩=some y.m6:=hk13.cell 6;have hdt:=dataW_read hk12 r11 r12;obtain⟨hk14,hs14⟩:=hk13.set6 (.slice (some ⟨(Vz (Vz w12 [97,99,116,105,118,101]) [112,97,115,115,105,118,101]).heap.size,0,none⟩) 2 2);have HK14:=hD hk14;have HDT:=hD (Vp.keep hdt hs14.keeps hs14.mono);have HS14:=hD (HS11.out.trans (hs12.trans (hs13.trans hs14)));clear hk12 hs12 hk13 hs13 hk14 hs14 H11 HS11 hdt;have f13':=f13;have g13':=g13;unfold dataW at f13' g13';clear f13 g13
    go_upto_region 12 with (fail)
    clear f13' g13' hcv1 hcv2;change Code.wp _ _ _ _ ((dataW w12 (r11:Int) (r12:Int)).setCell ⟨P.M,6,none⟩ (.slice (some ⟨(Vz (Vz w12 [97,99,116,105,118,101]) [112,97,115,115,105,118,101]).heap.size,0,none⟩) 2 2));generalize (dataW w12 (r11:Int) (r12:Int)).setCell ⟨P.M,6,none⟩ (.slice (some ⟨(Vz (Vz w12 [97,99,116,105,118,101]) [112,97,115,115,105,118,101]).heap.size,0,none⟩) 2 2)=w14 at HK14 HS14 HDT ⊢;generalize (Vz (Vz w12 [97,99,116,105,118,101]) [112,97,115,115,105,118,101]).heap.size=B14 at HK14 HS14 HDT ⊢;obtain⟨Y,hY⟩:∃ Y:MS,Y={ y with at_:=a12,m6:=.slice (some ⟨B14,0,none⟩) 2 2 }:=⟨_,rfl⟩;have H14:Hid (Mk P w14 Y):=by rw[hY];exact HK14
    have HD14:Hid (Vp (WN P Y w14) w14 (.slice (some ⟨B14,0,none⟩) 2 2) [⟨true,(r11:Int),(r12:Int),actB⟩,⟨false,0,0,pasB⟩]):=by rw[hY];exact HDT
    have HT14:Hid (Vd P w10 y w14 Y):=by rw[hY];exact HS14
    have HY:Hid (Y.m0=y.m0∧Y.m1=y.m1∧Y.m4=y.m4∧(Y.fs=y.fs∧Y.m2=y.m2)∧Y.ms=y.ms∧Y.m6=.slice (some ⟨B14,0,none⟩) 2 2∧Y.es=[]∧Y.m5=.slice none 0 0):=by rw[Hid,hY];exact⟨rfl,rfl,rfl,⟨rfl,rfl⟩,rfl,rfl,HES0.out.1,HES0.out.2⟩
    clear hY HK14 HS14 HDT;have HRW:=hD (row5 (P:=P) (y:=Y) HY.out.2.2.2.2.2.2.2 (by rw[HY.out.2.2.2.2.2.2.1]));have d5:=HRW.out.cell _ _ H14.out;have d5b:=(HRW.out.push _ _ (.cells #[.string memName,.int .i64 2,.int .i64 ((k:Int) - 1)] 59) H14.out).1;unfold memName at d5b;go_wp2_with (at_builtin;refine Wl rfl (.tmp 63) (.tmp 67) 29 59 rfl _ 3 32 Tryz.underlying29 Tryz.infoExport rfl (by decide) (by decide) (.slice none 0 0) 0 (Uk Y.es) (by rfl) ((HRW.out.own _ _ H14.out).alloc _) _ 1 (Uv (memName,2,(k:Int) - 1)) (by rfl) (by rfl) (WS w14 _ _ 1 1) (by simp[Uv,Value.oneCell']) (by decide) ?_;intro v9 w9 ho9 hg9 hat9;obtain⟨e9,f9⟩:=(HRW.out.push _ _ _ H14.out).2 w9 hg9;obtain⟨B9,k9,rfl⟩:=Wc ho9)
    have hps:=HRW.out.more _ _ _ (memName,2,(k:Int) - 1) w9 _ _ _ H14.out ho9 rfl rfl hg9 hat9
    go_meet
    obtain⟨z0,z1,z4,zf,zm,z6,ze,z5⟩:=HY.out;exact⟨_,hD ⟨hps.1,HF.out.st.trans (HT14.out.trans hps.2),z0.trans HF.out.m0,z1.trans HF.out.m1,z4.trans HF.out.m4,⟨zf.1.trans HF.out.fs.1,zf.2.trans HF.out.fs.2⟩,by rw[show({ Y with at_:=Y.at_,m5:=Value.slice B9 (0+1) k9,es:=Y.es++[(memName,2,(k:Int) - 1)] }:MS).ms=y.ms from zm];exact HMM.out,⟨_,by have h9:=Vp.keep HD14.out hps.2.keeps hps.2.mono;rw[← z6]at h9;exact h9,.inr ⟨h0,r11,r12,hr11,hr12,rfl⟩⟩,by show Y.es++[_]=mexp k;rw[ze,mexp,if_pos h0];rfl⟩⟩
   case rest =>
    obtain⟨x15,HS15⟩:=hcut;obtain⟨w15,rfl⟩:∃ w15,w15=wc:=⟨_,rfl⟩;clear HF HG HMM HES0 HM60 hd0;go_wp2_with fail
    go_at_call 9;refine(UL HS15.out.md 4 (by omega) (by omega)).mono ?_;rintro e w16 ⟨r16,hr16,rfl,a16,hk16,hs16⟩;obtain⟨nf,hnf⟩:∃ nf:Nat,nf=1+r16:=⟨_,rfl⟩;have e16:IntKind.i64.wrap (1+(r16:Int))=(nf:Int):=by rw[show(1:Int)+(r16:Int)=(nf:Int) by omega];exact IntWalk.i64_in _ (by omega)
    have hnf4:0<nf∧nf≤4:=by omega
    have HS16:Hid (Second P w5 X5 k w16 { x15 with at_:=a16 }):=hD ⟨hk16,HS15.out.st.trans hs16,HS15.out.m0,HS15.out.m1,HS15.out.m4,HS15.out.fs,HS15.out.ms,ds_step hs16 rfl HS15.out.ds,HS15.out.es⟩;obtain⟨X16,hX16⟩:∃ X16:MS,X16={ x15 with at_:=a16 }:=⟨_,rfl⟩;rw[← hX16]at HS16;clear hX16 hk16 hs16 HS15 hnf hr16;go_wp2_with fail
    clear e16;have HT0:Hid (Third P w5 X5 k 0 (mexp k++fexp 0) w16 X16):=hD ⟨HS16.out.md,HS16.out.st,HS16.out.m0,HS16.out.m1,HS16.out.m4,by rw[HS16.out.fs.1,HE5.out.2.2.2.1];exact⟨rfl,by simp⟩,HS16.out.ms,HS16.out.ds,by rw[HS16.out.es];simp[fexp]⟩;clear HS16;go_loopw [8] (fun i wr=>∃ (n:Nat) (z:MS),n≤nf∧i=.int .i64 (n:Int)∧Hid (Third P w5 X5 k n (mexp k++fexp n) wr z)) (fun i _=>nf - (intOf i).toNat)
    case atStart=>exact⟨0,_,nZ _,rfl,HT0⟩
    case round =>
     clear HT0;obtain⟨n,z,hn,rfl,HZ⟩:=hrel;obtain⟨w20,rfl⟩:∃ w20,w20=wr:=⟨_,rfl⟩;by_cases hlt:n<nf
     ·have hd0:decide ((n:Int)<(nf:Int))=true:=by simp;omega
      have c0:w20.cell? ⟨P.M,0,none⟩=some (.slice (some ⟨W1.heap.size+14,0,none⟩) 9 9):=by rw[← HM0.out,← HZ.out.m0];exact HZ.out.md.cell 0
      go_wp2_with fail
      go_at_call 9;refine(UL HZ.out.md 9 (by omega) (by omega)).mono ?_;rintro e w21 ⟨r21,hr21,rfl,a21,hk21,hs21⟩;obtain⟨Z,hZ⟩:∃ Z:MS,Z={ z with at_:=a21 }:=⟨_,rfl⟩;rw[← hZ]at hk21 hs21;have HZE:Hid (Z.m0=z.m0∧Z.m1=z.m1∧Z.m4=z.m4∧Z.fs=z.fs∧Z.ms=z.ms∧Z.m6=z.m6∧Z.es=z.es∧Z.at_=a21):=by rw[Hid,hZ];exact⟨rfl,rfl,rfl,rfl,rfl,rfl,rfl,rfl⟩
      clear hZ;obtain⟨l1,l2,l3⟩:=hk21.lts;obtain⟨hka,hsa⟩:=hk21.below ((bR _ _).alloc (nR _) (.cells #[.int .i64 (r21:Int),.slice none 0 0,.slice none 0 0] 62));have HI0:Hid (Inn P w21 Z (r21:Int) (w21.alloc (.cells #[.int .i64 (r21:Int),.slice none 0 0,.slice none 0 0] 62)) Z.at_ (.slice none 0 0) []):=hD ⟨hka,hsa,heap_alloc_new w21 _,World.ownsRow_nil _ _ _ _,(fun g h=>by cases h),⟨l3,l1,l2,hk21.bel.size⟩⟩;have HK21:=hD hk21;have HS21:=hD (HZ.out.st.trans hs21);have HMS:=hD hs21;clear hk21 hs21 hka hsa l1 l2 l3 c0;go_wp2_with fail
      go_at_call 9;refine(UL HI0.out.md 4 (by omega) (by omega)).mono ?_;rintro e w22 ⟨r22,hr22,rfl,a22,hk22,hs22⟩;have HI1:Hid (Inn P w21 Z (r21:Int) w22 a22 (.slice none 0 0) []):=hD (HI0.out.next hk22 hs22);clear hk22 hs22 HI0;go_wp2_with fail
      go_loopw [10] (fun s wr=>∃ (j a:Nat) (lv:Value) (ll:List Int),j≤3∧s=.int .i64 (j:Int)∧ll.length+j≤3∧Hid (Inn P w21 Z (r21:Int) wr a lv ll)∧Hid (∀ t ∈ ll,kind3 t)) (fun s _=>(intOf s).toNat)
      case atStart=>exact⟨r22,a22,_,[],by omega,rfl,by simp only[List.length_nil];omega,HI1,hD (by simp)⟩
      case round =>
       clear HI1;obtain⟨j,a,lv,ll,hj,rfl,hlj,HI,HKL⟩:=hrel;obtain⟨Al,cl,rfl⟩:=Wc HI.out.ow;obtain⟨m,hm⟩:∃ m,ll.length=m:=⟨_,rfl⟩;rw[hm]at HI hlj;have HM:=hD hm;clear hm;have HOW:Hid (∀ wz az,Inn P w21 Z (r21:Int) wz az (.slice Al m cl) ll→wz.ownsRow 0 3 1 (.slice Al m cl) m (ll.map (Value.int .i64))):=fun wz az h=>by have h9:=h.ow;rwa [HM.out]at h9
       by_cases h0:0<j
       ·have hd1:decide ((0:Int)<(j:Int))=true:=by simp;omega
        have hbL:Below wr.heap.size wr (wr.drew.alloc (.cells #[.int .i64 127,.int .i64 126,.int .i64 124] 3)):=Wi ((bR _ _).drew) _;have HID:=hD (HI.out.below ((bR _ _).drew));have HIL:=hD (HI.out.below hbL);have d0:=HI.out.cell1.1;have d0L:=HIL.out.cell1.1;have d0M:=(HI.out.below ((bR _ _).alloc (nR _) (.cells #[.int .i64 127,.int .i64 126,.int .i64 124] 3))).cell1.1;clear hbL;go_wp2_with fail
        go_region_law (first
         | (refine Wb rfl (.tmp 91) (.tmp 97) 22 3 rfl _ 1 8 Tryz.underlying22 Tryz.infoInt rfl (by decide) (by decide) (.slice Al m cl) m (ll.map (Value.int .i64)) (by rfl) (((HOW.out _ _ HI23.out).alloc _).alloc _) _ 1 [.int .i64 t] (by rfl) (by rfl) hnw (WP [t]) (by omega) ?_;intro v9 w9 ho9 hg9 hat9;obtain⟨e9,f9⟩:=HI23.out.pushf (Wi (bR _ _) _) hg9;have HIP:=hD (fun B9 k9 (hv:v9=.slice B9 (m+1) k9)=>HI23.out.push (Wi (bR _ _) _) _ t ho9 (by rw[HM.out]) rfl hg9 hat9);obtain⟨B9,k9,hv9⟩:=Wc ho9)
         | (refine Wb rfl (.tmp 91) (.tmp 97) 22 3 rfl _ 1 8 Tryz.underlying22 Tryz.infoInt rfl (by decide) (by decide) (.slice Al m cl) m (ll.map (Value.int .i64)) (by rfl) ((HOW.out _ _ HI24.out).alloc _) _ 1 [.int .i64 t] (by rfl) (by rfl) (WS _ _ _ 1 1) (WP [t]) (by omega) ?_;intro v9 w9 ho9 hg9 hat9;obtain⟨e9,f9⟩:=HI24.out.pushf (bR _ _) hg9;have HIP:=hD (fun B9 k9 (hv:v9=.slice B9 (m+1) k9)=>HI24.out.push (bR _ _) _ t ho9 (by rw[HM.out]) rfl hg9 hat9);obtain⟨B9,k9,hv9⟩:=Wc ho9)
         | (go_simp;go_at_call 9;refine(UL HID.out.md 3 (by decide) (by decide)).mono ?_;rintro e w23 ⟨r23,hr23,rfl,a23,hk23,hs23⟩;have HI23:=hD (HID.out.next hk23 hs23);obtain⟨t,hkt,ht⟩:=lit3k r23 hr23;have hr3:(r23:Int)<3:=(by omega);have hr0:(0:Int)≤(r23:Int):=(by omega);have d1:=HI23.out.cell1.1;have d2:=(HI23.out.below ((bR _ _).alloc (nR _) (.cells #[.int .i64 127,.int .i64 126,.int .i64 124] 3))).cell1.1;have d3:=(wN w23 #[.int .i64 127,.int .i64 126,.int .i64 124] 3 r23).trans ht;have d4:=((HI23.out.below ((bR _ _).alloc (nR _) (.cells #[.int .i64 127,.int .i64 126,.int .i64 124] 3))).below ((bR _ _).alloc (nR _) (.cells #[.int .i64 t] 3))).cell1.1;have hnw:VG ((w23.alloc (.cells #[.int .i64 127,.int .i64 126,.int .i64 124] 3)).alloc (.cells #[.int .i64 t] 3)) (.slice (some ⟨w23.heap.size+1,0,none⟩) 1 1) 1 [.int .i64 t]:=(by have h:=WS (w23.alloc (.cells #[.int .i64 127,.int .i64 126,.int .i64 124] 3)) #[.int .i64 t] 3 1 1;rw[show(w23.alloc (.cells #[.int .i64 127,.int .i64 126,.int .i64 124] 3)).heap.size=w23.heap.size+1 by simp]at h;exact h);clear hk23 hs23;go_wp2_with fail)
         | (go_simp;go_at_call 9;refine(UL HIL.out.md 3 (by decide) (by decide)).mono ?_;rintro e w24 ⟨r23,hr23,rfl,a23,hk23,hs23⟩;have HI24:=hD (HIL.out.next hk23 hs23);obtain⟨t,hkt,ht⟩:=lit3k r23 hr23;have hr3:(r23:Int)<3:=(by omega);have hr0:(0:Int)≤(r23:Int):=(by omega);have d1:=HI24.out.cell1.1;have d3:=(hs23.keeps.cell (p:=⟨wr.heap.size,r23,none⟩) (HIL.out.stl (Nat.le_of_lt HI.out.f9lt) (by simp) _)).trans ((wN wr.drew #[.int .i64 127,.int .i64 126,.int .i64 124] 3 r23).trans ht);have d4:=(HI24.out.below ((bR _ _).alloc (nR _) (.cells #[.int .i64 t] 3))).cell1.1;clear hk23 hs23;go_wp2_with fail))
        all_goals
         subst hv9;have hip:=HIP.out _ _ rfl;have HIQ:=hD hip;have HKT:=hD hkt;clear hip HIP ho9 hg9 hat9 e9 f9 hkt;go_wp2;go_roundw
         case rel =>
          refine⟨j - 1,_,_,ll++[t],by omega,by simp;omega,by rw[List.length_append,HM.out];simp only[List.length_singleton];omega,HIQ,hD fun u hu=>?_⟩;rcases List.mem_append.1 hu with h|h
          ·exact HKL.out u h
          ·obtain rfl:=List.mem_singleton.1 h;exact HKT.out
         case measure=>simp[intOf];omega
       ·obtain rfl:j=0:=by omega
        have hd1:decide ((0:Int)<((0:Nat):Int))=false:=rfl;obtain⟨w30,rfl⟩:∃ w30,w30=wr:=⟨_,rfl⟩;obtain⟨A2,c2,hz2⟩:=Wc HK21.out.fo;have hzl:Z.fs.length=n:=by rw[HZE.out.2.2.2.1];exact HZ.out.fs.1
        rw[hzl]at hz2;have HR2:=hD (row2 (P:=P) hz2 hzl);clear hz2 hzl;have d2:=HR2.out.cell _ _ HI.out.md;have g0:w30.cell? ⟨w21.heap.size,0,none⟩=some (.int .i64 (r21:Int)):=by simp[World.cell?,HI.out.f9]
        have g1:=HI.out.cell1.1;have g2:w30.cell? ⟨w21.heap.size,2,none⟩=some (.slice none 0 0):=by simp[World.cell?,HI.out.f9]
        have d2b:=(HR2.out.push _ _ (.cells #[.int .i64 (r21:Int),.slice Al m cl,.slice none 0 0] 62) HI.out.md).1
        go_upto_region 23 with (at_builtin;refine Wl rfl (.tmp 101) (.tmp 103) 26 62 rfl _ 3 56 Tryz.underlying26 Tryz.infoFunc rfl (by decide) (by decide) (.slice A2 n c2) n (Vw Z.fs) (by rfl) ((HR2.out.own _ _ HI.out.md).alloc _) _ 1 (Uw ((r21:Int),.slice Al m cl,.slice none 0 0)) (by rfl) (by rfl) (WS w30 _ _ 1 1) (by simp[Uw,Value.oneCell']) (by omega) ?_;intro v9 w9 ho9 hg9 hat9;obtain⟨e9,f9⟩:=(HR2.out.push _ _ _ HI.out.md).2 w9 hg9;obtain⟨B9,k9,rfl⟩:=Wc ho9)
        have hps:=HR2.out.more _ _ _ ((r21:Int),.slice Al m cl,.slice none 0 0) w9 _ _ _ HI.out.md ho9 rfl rfl hg9 hat9;clear ho9 hg9 hat9 e9 f9 d2 d2b g0 g1 g2;generalize w9.setCell ⟨P.M,2,none⟩ (.slice B9 (n+1) k9)=w31 at hps ⊢;obtain⟨Y,hY⟩:∃ Y:MS,Y={ Z with at_:=a,m2:=.slice B9 (n+1) k9,fs:=Z.fs++[((r21:Int),.slice Al m cl,.slice none 0 0)] }:=⟨_,rfl⟩;have H31:Hid (Mk P w31 Y):=by rw[hY];exact hps.1
        have HT31:Hid (Vd P w30 { Z with at_:=a } w31 Y):=by rw[hY];exact hps.2
        have HY:Hid (Y.m0=Z.m0∧Y.m1=Z.m1∧Y.m4=Z.m4∧Y.fs=Z.fs++[((r21:Int),.slice Al m cl,.slice none 0 0)]∧Y.ms=Z.ms∧Y.m6=Z.m6∧Y.es=Z.es):=by rw[Hid,hY];exact⟨rfl,rfl,rfl,rfl,rfl,rfl,rfl⟩
        clear hps hY;have HFN:Hid (∀ f ∈ Y.fs,FnOk (WN P Y w31) w31 f):=fun f hf=>by
         rw[HY.out.2.2.2.1]at hf;rcases List.mem_append.1 hf with h|h
         ·rw[HZE.out.2.2.2.1]at h;exact((HZ.out.fs.2 f h).step (HMS.out.trans HI.out.st)).step HT31.out
         ·obtain rfl:=List.mem_singleton.1 h;exact⟨by show(0:Int)≤(r21:Int);omega,by show(r21:Int)<9;omega,rfl,ll,by rw[HM.out];omega,HT31.out.ints (HI.out.ints (by rw[HM.out];omega)),HKL.out⟩
        have HSZ:=hD (HMS.out.trans (HI.out.st.trans HT31.out));have HST:=hD (HS21.out.trans (HI.out.st.trans HT31.out));have HZQ:Hid (Y.m0=z.m0∧Y.m1=z.m1∧Y.m4=z.m4∧Y.fs.length=n+1∧Y.ms=z.ms∧Y.m6=z.m6∧Y.es=z.es):=by
         obtain⟨y1,y2,y3,y4,y5,y6,y7⟩:=HY.out;obtain⟨q1,q2,q3,q4,q5,q6,q7,_⟩:=HZE.out;exact⟨y1.trans q1,y2.trans q2,y3.trans q3,by rw[y4,List.length_append,q4,HZ.out.fs.1];rfl,y5.trans q5,y6.trans q6,y7.trans q7⟩
        clear HI HKL HOW HM HR2 HT31 HMS HZE HK21 HS21 HY;obtain⟨ne,hne⟩:∃ ne,Y.es.length=ne:=⟨_,rfl⟩;have hne5:ne≤1+n:=by rw[← hne,HZQ.out.2.2.2.2.2.2,HZ.out.es,List.length_append,fexp_len];have:=mexp_le k;omega
        obtain⟨A5,c5,hy5⟩:=Wc H31.out.eo;rw[hne]at hy5;have HR5:=hD (row5 (P:=P) hy5 hne);clear hy5;have HNE:=hD hne;clear hne;have d5:=HR5.out.cell _ _ H31.out;have hn4:n<4:=by omega
        have rc1:=rune_int n hn4 w31;have rc2:=rune_str n hn4 w31;have hds:=digit_size n;obtain⟨nmv,hnmv⟩:∃ nmv:ByteArray,nmv=⟨#[102]⟩++digit n:=⟨_,rfl⟩;have d5b:=(HR5.out.push _ _ (.cells #[.string (⟨#[102]⟩++digit n),.int .i64 0,.int .i64 (2+(n:Int))] 59) H31.out).1;have hne6:ne+1≤1000000:=by omega
        clear hnmv;go_wp2_with (at_builtin;refine Wl rfl (.tmp 107) (.tmp 116) 29 59 rfl _ 3 32 Tryz.underlying29 Tryz.infoExport rfl (by decide) (by decide) (.slice A5 ne c5) ne (Uk Y.es) (by rfl) ((HR5.out.own _ _ H31.out).alloc _) _ 1 (Uv (⟨#[102]⟩++digit n,0,2+(n:Int))) (by rfl) (by rfl) (WS w31 _ _ 1 1) (by simp[Uv,Value.oneCell']) hne6 ?_;intro v9 w9 ho9 hg9 hat9;obtain⟨e9,f9⟩:=(HR5.out.push _ _ _ H31.out).2 w9 hg9;obtain⟨B9,k9,rfl⟩:=Wc ho9)
        have hps:=HR5.out.more _ _ _ (⟨#[102]⟩++digit n,0,2+(n:Int)) w9 _ _ _ H31.out ho9 rfl rfl hg9 hat9;have HPS:=hD hps;clear hps ho9 hg9 hat9 e9 f9 d5 d5b rc1 rc2 hds hne6;go_roundw
        case rel =>
         obtain⟨q1,q2,q3,q4,q5,q6,q7⟩:=HZQ.out;refine⟨n+1,_,by omega,by go_num,hD ⟨HPS.out.1,HST.out.trans HPS.out.2,q1.trans HZ.out.m0,q2.trans HZ.out.m1,q3.trans HZ.out.m4,⟨q4,fun f hf=>(HFN.out f hf).step HPS.out.2⟩,?_,?_,?_⟩⟩
         ·show Y.ms.length=k∧∀ m ∈ Y.ms,goodM m;rw[q5];exact HZ.out.ms
         ·exact ds_step (HSZ.out.trans HPS.out.2) q6 HZ.out.ds
         ·show Y.es++[_]=mexp k++fexp (n+1);rw[fexp_succ,q7,HZ.out.es,List.append_assoc]
        case measure=>simp[intOf];omega
     ·obtain rfl:n=nf:=by omega
      have hd0:decide ((n:Int)<(n:Int))=false:=by simp
      go_upto_region 24 with (fail)
      go_cut [] from 13 to 126 (fun wx=>∃ (y:MS) (r:Nat),r<4∧Hid (Third P w5 X5 k n (mexp k++fexp n++[(globName,3,(r:Int))]) wx y))
      case first =>
       obtain⟨ne,hne⟩:∃ ne,z.es.length=ne:=⟨_,rfl⟩;have hne5:ne≤1+n:=by rw[← hne,HZ.out.es,List.length_append,fexp_len];have:=mexp_le k;omega
       obtain⟨A5,c5,hy5⟩:=Wc HZ.out.md.eo;rw[hne]at hy5;have HR5:=hD (row5 (P:=P) hy5 hne);clear hy5;have HNE:=hD hne;clear hne;have d5:=HR5.out.cell _ _ HZ.out.md;have hne6:ne+1≤1000000:=by omega
       go_wp2_with fail
       go_region_law (first
        | (refine Wb rfl (.tmp 120) (.tmp 124) 29 59 rfl _ 3 32 Tryz.underlying29 Tryz.infoExport rfl (by decide) (by decide) (.slice A5 ne c5) ne (Uk z.es) (by rfl) ((HR5.out.own _ _ hk41).alloc _) _ 1 (Uv (globName,3,(r41:Int))) (by rfl) (by rfl) (WS w41 _ _ 1 1) (by simp[Uv,Value.oneCell']) hne6 ?_;intro v9 w9 ho9 hg9 hat9;obtain⟨e9,f9⟩:=(HR5.out.push _ _ _ hk41).2 w9 hg9;obtain⟨B9,k9,rfl⟩:=Wc ho9)
        | (go_simp;go_at_call 9;refine(UL HZ.out.md.drew.1 4 (by decide) (by decide)).mono ?_;rintro e w41 ⟨r41,hr41,rfl,a41,hk41,hs41⟩;have d41:=HR5.out.cell _ _ hk41;have d41b:=(HR5.out.push _ _ (.cells #[.string ⟨#[103,108,111,98,97,108]⟩,.int .i64 3,.int .i64 (r41:Int)] 59) hk41).1;go_wp2_with fail))
       all_goals
        have hps:=HR5.out.more _ _ _ (globName,3,(r41:Int)) w9 _ _ _ hk41 ho9 rfl rfl hg9 hat9;have HPS:=hD hps;have HS9:=hD (HZ.out.md.drew.2.trans (hs41.trans hps.2));clear hps ho9 hg9 hat9 e9 f9 hk41 hs41;go_wp2
        go_meet
        refine⟨_,r41,hr41,hD ⟨HPS.out.1,HZ.out.st.trans HS9.out,HZ.out.m0,HZ.out.m1,HZ.out.m4,⟨HZ.out.fs.1,fun f hf=>(HZ.out.fs.2 f hf).step HS9.out⟩,HZ.out.ms,ds_step HS9.out rfl HZ.out.ds,?_⟩⟩;show z.es++[_]=_;rw[HZ.out.es]
      case rest =>
       obtain⟨x50,r50,hr50,H50⟩:=hcut;obtain⟨w50,rfl⟩:∃ w50,w50=wc:=⟨_,rfl⟩;clear HZ hd0 hlt hn;have HCX:Hid (∀ (wz:World) (z:MS),Vd P w5 X5 wz z→z.m0=X5.m0→z.m1=X5.m1→z.m4=X5.m4→Vo (WN P z wz) wz z.m0 Us∧ImpsK (WN P z wz) wz z.m1 twoImps∧GlobsK (WN P z wz) wz z.m4 UC):=fun wz z hs e0 e1 e4=>by
        refine⟨?_,?_,?_⟩
        ·rw[e0,HE5.out.1];exact hs.types HTY5.out
        ·rw[e1,HE5.out.2.1];exact hs.cells HJ4.out
        ·rw[e4,HE5.out.2.2.1];exact hs.cells HI4.out
       have HF0:Hid (VB P w5 X5 k n 0 r50 w50 x50):=hD (H50.out.fourth (by omega));clear HTY5 HJ4 HI4 HE5 H50 HM0;go_wp2_with fail
       go_loopw [11] (fun i wr=>∃ (j:Nat) (y:MS),j≤n∧i=.int .i64 (j:Int)∧Hid (VB P w5 X5 k n j r50 wr y)) (fun i _=>n - (intOf i).toNat)
       case atStart=>exact⟨0,_,nZ _,rfl,HF0⟩
       case round =>
        clear HF0;obtain⟨j,y,hj,rfl,HF⟩:=hrel;obtain⟨w60,rfl⟩:∃ w60,w60=wr:=⟨_,rfl⟩;obtain⟨hy0,hy1,hy4⟩:=HCX.out _ _ HF.out.st HF.out.m0 HF.out.m1 HF.out.m4;have HY0:=hD hy0;have HY1:=hD hy1;have HY4:=hD hy4;obtain⟨A0,n0,c0,hm0⟩:=Wd.form3 hy0;obtain⟨A1,n1,c1,hm1⟩:=Wd.form3 hy1;obtain⟨A4,n4,c4,hm4⟩:=Wd.form3 hy4;obtain⟨⟨A3,n3,c3,hm3⟩,⟨A5,n5,c5,hm5⟩,⟨A6,n6,c6,hm6⟩,g2,c2,hm2,hc2⟩:=HF.out.forms hnf4.1;have dc:∀ o,w60.cell? ⟨P.M,o,none⟩=(Ui y)[o]?:=fun o=>HF.out.md.cell o;have d0:w60.cell? ⟨P.M,0,none⟩=some (.slice A0 n0 c0):=by rw[dc,← hm0];rfl
        have d1:w60.cell? ⟨P.M,1,none⟩=some (.slice A1 n1 c1):=by rw[dc,← hm1];rfl
        have d2:w60.cell? ⟨P.M,2,none⟩=some (.slice (some ⟨g2,0,none⟩) n c2):=by rw[dc,← hm2];rfl
        have d3:w60.cell? ⟨P.M,3,none⟩=some (.slice A3 n3 c3):=by rw[dc,← hm3];rfl
        have d4:w60.cell? ⟨P.M,4,none⟩=some (.slice A4 n4 c4):=by rw[dc,← hm4];rfl
        have d5:w60.cell? ⟨P.M,5,none⟩=some (.slice A5 n5 c5):=by rw[dc,← hm5];rfl
        have d6:w60.cell? ⟨P.M,6,none⟩=some (.slice A6 n6 c6):=by rw[dc,← hm6];rfl
        have d7:w60.cell? ⟨P.M,7,none⟩=some (.slice none 0 0):=by rw[dc];rfl
        have HM:=hD (And.intro hm0 (And.intro hm1 (And.intro hm2 (And.intro hm3 (And.intro hm4 (And.intro hm5 hm6))))));have HMC:Hid (∀ wz,Below w60.heap.size w60 wz→wz.cell? ⟨P.M,0,none⟩=some (.slice A0 n0 c0)∧wz.cell? ⟨P.M,1,none⟩=some (.slice A1 n1 c1)∧wz.cell? ⟨P.M,2,none⟩=some (.slice (some ⟨g2,0,none⟩) n c2)∧wz.cell? ⟨P.M,3,none⟩=some (.slice A3 n3 c3)∧wz.cell? ⟨P.M,4,none⟩=some (.slice A4 n4 c4)∧wz.cell? ⟨P.M,5,none⟩=some (.slice A5 n5 c5)∧wz.cell? ⟨P.M,6,none⟩=some (.slice A6 n6 c6)∧wz.cell? ⟨P.M,7,none⟩=some (.slice none 0 0)):=fun wz hb=>⟨(hb.cell (p:=⟨P.M,0,none⟩) HF.out.md.lts.1).trans d0,(hb.cell (p:=⟨P.M,1,none⟩) HF.out.md.lts.1).trans d1,(hb.cell (p:=⟨P.M,2,none⟩) HF.out.md.lts.1).trans d2,(hb.cell (p:=⟨P.M,3,none⟩) HF.out.md.lts.1).trans d3,(hb.cell (p:=⟨P.M,4,none⟩) HF.out.md.lts.1).trans d4,(hb.cell (p:=⟨P.M,5,none⟩) HF.out.md.lts.1).trans d5,(hb.cell (p:=⟨P.M,6,none⟩) HF.out.md.lts.1).trans d6,(hb.cell (p:=⟨P.M,7,none⟩) HF.out.md.lts.1).trans d7⟩;by_cases hlt:j<n
        ·have hd0:decide ((j:Int)<(n:Int))=true:=by simp;omega
         obtain⟨t,ll,ht,hll,hsg⟩:=HF.out.sigs hlt hnf4.2 hy0 hy1;rw[hm0,hm1,hm2,hm3,hm4,hm5,hm6]at hsg;have HSG:=hD hsg;have HT3:Hid ((Us.getD t ([],[])).1.length≤3∧(Us.getD t ([],[])).2.length≤3):=hD ((by decide:∀ t,t<9→(Us.getD t ([],[])).1.length≤3∧(Us.getD t ([],[])).2.length≤3) t ht);have e1:IntKind.i64.wrap (2+(j:Int))=2+(j:Int):=IntWalk.i64_in _ (by omega);generalize Us.getD t ([],[])=tt at HSG HT3;have HLL:=hD hll;clear hsg dc hy0 hy1 hy4 hm0 hm1 hm2 hm3 hm4 hm5 hm6 hc2 hll ht;go_wp2_with fail
         go_region_held3 (fun w'=>w'.cell? ⟨P.M,0,none⟩=some (.slice A0 n0 c0)∧w'.cell? ⟨P.M,1,none⟩=some (.slice A1 n1 c1)∧w'.cell? ⟨P.M,2,none⟩=some (.slice (some ⟨g2,0,none⟩) n c2)∧w'.cell? ⟨P.M,3,none⟩=some (.slice A3 n3 c3)∧w'.cell? ⟨P.M,4,none⟩=some (.slice A4 n4 c4)∧w'.cell? ⟨P.M,5,none⟩=some (.slice A5 n5 c5)∧w'.cell? ⟨P.M,6,none⟩=some (.slice A6 n6 c6)∧w'.cell? ⟨P.M,7,none⟩=some (.slice none 0 0))
          (first|go_keep|exact⟨d0,d1,d2,d3,d4,d5,d6,d7⟩|exact HMC.out _ hb61)
          ((go_at_call 10;refine((HSG.out _ ((bR _ _).drew)).1).mono ?_;rintro e w61 ⟨lov,rfl,hlo,hb61a⟩;have hb61:=Wa ((bR _ _).drew) hb61a;obtain⟨Al,cl,rfl,_⟩:=hlo.form;obtain⟨nl,hnl⟩:∃ nl,(tt.1++ll).length=nl:=⟨_,rfl⟩;rw[hnl];rw[hnl]at hlo))
         have hG62:=heap_alloc_new w61 (.cells #[.pointer (some ⟨P.T,0,none⟩),.slice A0 n0 c0,.slice A1 n1 c1,.slice (some ⟨g2,0,none⟩) n c2,.slice A3 n3 c3,.slice A4 n4 c4,.slice A5 n5 c5,.slice A6 n6 c6,.slice none 0 0,.slice Al nl cl,.slice none 0 0,.slice none 0 0,.slice none 0 0,.slice none 0 0,.slice none 0 0,.int .i64 40,.bool true] 69);have HB62:=hD (Wi hb61 (.cells #[.pointer (some ⟨P.T,0,none⟩),.slice A0 n0 c0,.slice A1 n1 c1,.slice (some ⟨g2,0,none⟩) n c2,.slice A3 n3 c3,.slice A4 n4 c4,.slice A5 n5 c5,.slice A6 n6 c6,.slice none 0 0,.slice Al nl cl,.slice none 0 0,.slice none 0 0,.slice none 0 0,.slice none 0 0,.slice none 0 0,.int .i64 40,.bool true] 69));have HB612:=hD ((bR w61.heap.size w61).alloc (nR _) (.cells #[.pointer (some ⟨P.T,0,none⟩),.slice A0 n0 c0,.slice A1 n1 c1,.slice (some ⟨g2,0,none⟩) n c2,.slice A3 n3 c3,.slice A4 n4 c4,.slice A5 n5 c5,.slice A6 n6 c6,.slice none 0 0,.slice Al nl cl,.slice none 0 0,.slice none 0 0,.slice none 0 0,.slice none 0 0,.slice none 0 0,.int .i64 40,.bool true] 69));have hlt62:w61.heap.size<(w61.alloc (.cells #[.pointer (some ⟨P.T,0,none⟩),.slice A0 n0 c0,.slice A1 n1 c1,.slice (some ⟨g2,0,none⟩) n c2,.slice A3 n3 c3,.slice A4 n4 c4,.slice A5 n5 c5,.slice A6 n6 c6,.slice none 0 0,.slice Al nl cl,.slice none 0 0,.slice none 0 0,.slice none 0 0,.slice none 0 0,.slice none 0 0,.int .i64 40,.bool true] 69)).heap.size:=by simp
         have HLO:=hD hlo;have HG60:Hid (w60.heap.size≤w61.heap.size):=hb61.size;have HNL:Hid ((tt.1++ll).length≤100):=by rw[Hid,List.length_append];have:=HT3.out.1;have:=HLL.out;omega
         clear hlo hb61 hb61a hnl d0 d1 d2 d3 d4 d5 d6 d7;generalize w61.alloc (.cells #[.pointer (some ⟨P.T,0,none⟩),.slice A0 n0 c0,.slice A1 n1 c1,.slice (some ⟨g2,0,none⟩) n c2,.slice A3 n3 c3,.slice A4 n4 c4,.slice A5 n5 c5,.slice A6 n6 c6,.slice none 0 0,.slice Al nl cl,.slice none 0 0,.slice none 0 0,.slice none 0 0,.slice none 0 0,.slice none 0 0,.int .i64 40,.bool true] 69)=w62 at *;obtain⟨G,hGe⟩:∃ G,w61.heap.size=G:=⟨_,rfl⟩;rw[hGe]at hG62 hlt62 HLO HG60 ⊢;have HGE:=hD hGe;clear hGe;obtain⟨d0,d1,d2,d3,d4,d5,d6,d7⟩:=HMC.out w62 HB62.out;go_wp2_with fail
         go_at_call 11;refine((HSG.out w62 HB62.out).2).mono ?_;rintro e w63 ⟨p,rv,rfl,hip,hir,hb63⟩;obtain⟨Ap,cp,rfl,_,_⟩:=hip.form;obtain⟨Ar,cr,rfl,_,_⟩:=hir.form;obtain⟨np,hnp⟩:∃ np,tt.1.length=np:=⟨_,rfl⟩;obtain⟨nr,hnr⟩:∃ nr,tt.2.length=nr:=⟨_,rfl⟩;rw[hnp]at hip ⊢;rw[hnr]at hir ⊢;have hG63:=(hb63.block G hlt62).trans hG62;have HG63:=hD hG63;have HB63:=hD (Wa HB62.out hb63);have HB613:=hD (Wa HB612.out hb63);have HIR:=hD (hir.keep (K':=fun k=>k<w60.heap.size∧k≠P.T) (Wf.below hb63 fun k hk=>WW hk.1 HB62.out.size) fun k h=>h);have f10:w63.frozen? ⟨G,10,none⟩=false:=by simp[World.frozen?,hG63]
         have f11:w63.frozen? ⟨G,11,none⟩=false:=by simp[World.frozen?,hG63]
         have g10:w63.cell? ⟨G,10,none⟩=some (.slice none 0 0):=by simp[World.cell?,hG63]
         have g11:w63.cell? ⟨G,11,none⟩=some (.slice none 0 0):=by simp[World.cell?,hG63]
         have hbp:=box_pre hG63 (.slice Ap np cp) (.slice Ar nr cr) (.cells #[.slice Ar nr cr] 22);have f13b:(((w63.setCell ⟨G,10,none⟩ (.slice Ap np cp)).setCell ⟨G,11,none⟩ (.slice Ar nr cr)).alloc (.cells #[.slice Ar nr cr] 22)).frozen? ⟨G,13,none⟩=false:=by simp[World.frozen?,hbp]
         have g13b:(((w63.setCell ⟨G,10,none⟩ (.slice Ap np cp)).setCell ⟨G,11,none⟩ (.slice Ar nr cr)).alloc (.cells #[.slice Ar nr cr] 22)).cell? ⟨G,13,none⟩=some (.slice none 0 0):=by simp[World.cell?,hbp]
         clear hbp hip hir hb63 hG62 hG63 hnp hnr d0 d1 d2 d3 d4 d5 d6 d7 HB62 HB612 hlt62 HSG
         go_upto_region 31 with (fail)
         obtain⟨F,x0,hFG,hFT,hFo,hFE,hFtl,hFrv,hFro,hs0,hc0,hn0,hl0,hFtv,hgen,hb64,hfr,hfr2⟩:=HF.out.gen hnf4 HY0.out HY1.out HY4.out HG60.out (lov:=.slice Al nl cl) (lo:=tt.1++ll) (HLO.out.keep (Wf.below HB613.out fun k hk=>by rw[HGE.out];exact hk.2) fun k h=>⟨h.1,h.2⟩) HNL.out (p:=.slice Ap np cp) (rv:=.slice Ar nr cr) (t:=tt) HIR.out HT3.out.2 HB63.out (by obtain⟨e0,e1,e2,e3,e4,e5,e6⟩:=HM.out;rw[e0,e1,e2,e3,e4,e5,e6];exact HG63.out);clear f10 f11 f13b g10 g11 g13b;generalize ((((w63.setCell ⟨G,10,none⟩ (.slice Ap np cp)).setCell ⟨G,11,none⟩ (.slice Ar nr cr)).alloc (.cells #[.slice Ar nr cr] 22)).setCell ⟨G,13,none⟩ (.slice (some ⟨w63.heap.size,0,none⟩) 1 1))=w64 at hgen hb64 hfr hfr2 ⊢;subst hFG;have HFR:=hD hfr;have HFR2:=hD hfr2;have HB64:=hD hb64;have HGN:=hD hgen;have HFF:=hD (And.intro hFo (And.intro hFT (And.intro hFtl (And.intro hFtv (And.intro hFrv hFro)))));have HFE:=hD hFE;have HX0:=hD (And.intro hs0 (And.intro hc0 (And.intro hn0 hl0)));have hnx:=WA hgen 14 (by omega) (by omega);rw[hFT]at hnx;have HNX:=hD hnx;clear hfr hfr2 hb64 hgen hFo hFT hFtl hFtv hFrv hFro hFE hs0 hc0 hn0 hl0 hnx HLO HB613 HNL HIR HG63 HB63 HG60 HGE;go_wp2_with fail
         go_at_call 9;refine HNX.out.mono ?_;rintro e w65 ⟨r65,hr65,rfl,x1,hg1,hs1,hn1⟩;obtain⟨nn,hnn⟩:∃ nn:Nat,nn=3+r65:=⟨_,rfl⟩;have e2:IntKind.i64.wrap (3+(r65:Int))=(nn:Int):=by rw[show(3:Int)+(r65:Int)=(nn:Int) by omega];exact IntWalk.i64_in _ (by omega)
         obtain⟨a1,a2,a3,a4⟩:=hn1;obtain⟨b1,b2,b3,b4⟩:=HX0.out;rw[b1,List.length_nil]at a1;rw[b2,List.length_nil]at a2;rw[b3]at a3;rw[b4]at a4;have hwg:wgt x1=4000:=by unfold wgt;rw[a1,a2,a4];rfl
         have hbd:=body_any hg1 HFF.out.1 0 nn (nZ _) (by omega) (by omega) (by simp only[List.length_nil];omega) (by omega) (by omega) (by omega) (by omega) HFE.out;rw[show((0:Nat):Int)=0 from rfl]at hbd;have HBD:=hD hbd;have HS1:=hD hs1;have HWG:=hD hwg;clear hbd hg1 hs1 a1 a2 a3 a4 b1 b2 b3 b4 hwg HNX HX0 HGN hnn;go_wp2_with fail
         go_at_call 12;refine HBD.out.mono ?_;rintro e w66 ⟨b,rfl,x2,hg2,hs2,hr2⟩;have HM2:Hid (Vs x2 5000):=by have h1:=hr2.2.1;rw[HWG.out]at h1;exact(most_of_wgt h1).le (by omega)
         have HG2:=hD hg2;have HS2:=hD (HS1.out.trans hs2);clear hg2 hs2 hr2 HBD HS1 HWG e2;cases b
         case' true =>
          have c11:=HG2.out.c11;rw[HFF.out.2.2.2.2.1]at c11;have hsh:=shape_any HG2.out (.slice Ar nr cr) tt.2 (by have h9:=HG2.out.reads.own.1;rw[HFF.out.2.2.2.2.1,HFF.out.2.2.2.2.2]at h9;exact h9.wide) HT3.out.2 0 (nZ _) (HM2.out.le (by omega));rw[show((0:Nat):Int)=0 from rfl]at hsh;have HSH:=hD hsh;clear hsh;go_wp2_with fail
          go_at_call 13;refine HSH.out.mono ?_;rintro e w67 ⟨rfl,x3,hg3,hs3,hj3⟩;have HG3:=hD hg3;have HS3:=hD (HS2.out.trans hs3);have HM3:Hid (Vs x3 6000):=hD ((hj3.most HM2.out).le (by omega));clear hg3 hs3 hj3 HSH c11
         case' false =>
          obtain⟨w67,rfl⟩:∃ w67,w67=w66:=⟨_,rfl⟩;obtain⟨x3,rfl⟩:∃ x3,x3=x2:=⟨_,rfl⟩;have HG3:=HG2;have HS3:=HS2;have HM3:Hid (Vs x3 6000):=hD (HM2.out.le (by omega))
         all_goals
          clear HG2 HS2 HM2;have hpt:=put_to HG3.out 11 0 0 0 (.slice none 0 0) ⟨[],Wg.nil _ _,by decide +kernel⟩ (HM3.out.le (by omega)) none (fun q hq=>by cases hq);have HPT:=hD hpt;clear hpt;go_wp2_with fail
          go_at_call 14;refine HPT.out.mono ?_;rintro e w68 ⟨rfl,x4,hg4,hs4,hn4,hc4⟩;have HC4:Hid (x4.c.length≤900000∧∃ d,x4.c=d++[iend]∧Ul (d.map Iv.op) []=some []):=hD ⟨by have h1:=hn4.2.1;have h2:=HM3.out.c;omega,_,hc4,HG3.out.reads.nest [] HFF.out.1⟩;have HG4:=hD hg4.drew.1;have HS4:Hid (Wv F w64 x0 w68.drew x4):=hD (HS3.out.trans ((hs4.trans hg4.drew.2).reo (b:=F.o)));have HK8:Hid (Wf (fun k=>k<w60.heap.size∧k≠P.T) w60 w68):=hD ((Wf.below HB64.out fun k hk=>hk.1).trans ((HS3.out.trans (hs4.reo (b:=F.o))).keeps.mono HFR.out));obtain⟨q1,⟨qu,q2⟩,q3⟩:=HF.out.spot HM.out.2.2.1 hlt HK8.out;rw[HM.out.2.2.1]at q3;have c14:=hg4.c14;obtain⟨Ac,cc,hcv⟩:=Wc hg4.co;rw[hcv]at c14;have HCV:=hD hcv;have q1d:w68.drew.frozen? ⟨g2,j * 3+2,none⟩=false:=q1;have q2d:w68.drew.cell? ⟨g2,j * 3+2,none⟩=some qu:=q2;generalize x4.c.length=nc at c14 HCV;clear hg4 hs4 hn4 hc4 hcv HG3 HS3 HM3 HPT HK8
          go_upto_region 34 with (fail)
          go_still_tail 9,(by kernel_rfl)
          change wpList _ _ _ _ _ w68.drew;generalize w68.drew=w69 at HG4 HS4 q1d q2d ⊢;clear q1 q2 q3 c14;go_wp2_with fail
          have hmade:=HF.out.made (F:={ F with o:=none }) (w9:=w69) HFF.out.2.1 HFF.out.2.2.1 HFF.out.2.2.2.1 HB64.out HFR.out HFR2.out HG4.out (HS4.out.reo) hlt HM.out.2.2.1 HC4.out.1 HC4.out.2;obtain⟨y',hy'⟩:=hmade;rw[HCV.out]at hy';have HY':=hD hy';go_roundw
          case rel=>exact⟨j+1,y',by omega,by go_num,HY'⟩
          case measure=>simp[intOf];omega
        ·have hjn:j=n:=by omega
         have hd0:decide ((j:Int)<(n:Int))=false:=by simp;omega
         rw[hjn]at HF;have hz0:P.W.heap[w.heap.size]?=some (.cells Ww 33 (0,0)):=by rw[HPW.out];exact heap_alloc_new w _
         have hzl:w.heap.size<P.W.heap.size:=by rw[HPW.out];simp
         have hz:=(HF.out.md.bel.block _ hzl).trans hz0;obtain⟨m,hmm,hma⟩:=HF.out.data hnf4 hr50 hy0 hy1 hy4 (kept_fill8 HF.out.md hzl hz0 ⟨.slice A0 n0 c0,.slice A1 n1 c1,.slice (some ⟨g2,0,none⟩) n c2,.slice A3 n3 c3,.slice A4 n4 c4,.slice A5 n5 c5,.slice A6 n6 c6,.slice none 0 0⟩);rw[hm0,hm1,hm2,hm3,hm4,hm5,hm6]at hma;have HB9:=hD (below_fill8 (B:=w.heap.size) (w0:=w) (Wa ((bR w.heap.size w).alloc (nR _) (.cells Ww 33)) (by have h9:=HF.out.md.bel;rw[HPW.out]at h9;exact h9)) (nR _) ⟨.slice A0 n0 c0,.slice A1 n1 c1,.slice (some ⟨g2,0,none⟩) n c2,.slice A3 n3 c3,.slice A4 n4 c4,.slice A5 n5 c5,.slice A6 n6 c6,.slice none 0 0⟩);have HFIN:Hid (ModPost w (.returned (.agg #[.slice A0 n0 c0,.slice A1 n1 c1,.slice (some ⟨g2,0,none⟩) n c2,.slice A3 n3 c3,.slice A4 n4 c4,.slice A5 n5 c5,.slice A6 n6 c6,.slice none 0 0])) (fill8 w60 w.heap.size ⟨.slice A0 n0 c0,.slice A1 n1 c1,.slice (some ⟨g2,0,none⟩) n c2,.slice A3 n3 c3,.slice A4 n4 c4,.slice A5 n5 c5,.slice A6 n6 c6,.slice none 0 0⟩)):=hD ⟨⟨.slice A0 n0 c0,.slice A1 n1 c1,.slice (some ⟨g2,0,none⟩) n c2,.slice A3 n3 c3,.slice A4 n4 c4,.slice A5 n5 c5,.slice A6 n6 c6,.slice none 0 0⟩,m,rfl,hmm,hma,HB9.out⟩;have hfl:=fill8_at hz ⟨.slice A0 n0 c0,.slice A1 n1 c1,.slice (some ⟨g2,0,none⟩) n c2,.slice A3 n3 c3,.slice A4 n4 c4,.slice A5 n5 c5,.slice A6 n6 c6,.slice none 0 0⟩;obtain⟨z0,s0⟩:=WX hz 0 (by omega);obtain⟨z1,s1⟩:=WX hz 1 (by omega);obtain⟨z2,s2⟩:=WX hz 2 (by omega);obtain⟨z3,s3⟩:=WX hz 3 (by omega);obtain⟨z4,s4⟩:=WX hz 4 (by omega);obtain⟨z5,s5⟩:=WX hz 5 (by omega);obtain⟨z6,s6⟩:=WX hz 6 (by omega);obtain⟨z7,s7⟩:=WX hz 7 (by omega);have HFL:=hD hfl;clear hz0 hzl hz hma hmm HB9 hfl dc hy0 hy1 hy4 hm0 hm1 hm2 hm3 hm4 hm5 hm6 hc2;go_wp2;have hfl:=HFL.out;unfold fill8 at hfl;have hfin:=HFIN.out;unfold fill8 at hfin;simp only[Mv.cells]at hfl;exact bodyPost_ret (v:=.agg #[.slice A0 n0 c0,.slice A1 n1 c1,.slice (some ⟨g2,0,none⟩) n c2,.slice A3 n3 c3,.slice A4 n4 c4,.slice A5 n5 c5,.slice A6 n6 c6,.slice none 0 0]) (by simp[results,Tryz.results4,go_sem,World.cell?,hfl]) rfl hfin
end Go.Proofs.YtepgopnnaeoolaaGreatDoor
