/- A part of the proof. -/
import Derived.Test.YtepgopnnaeoolaaGreatDoorJ17
import Derived.Test.YtepgopnnaeoolaaGreatDoorJ18
namespace Go.Proofs.YtepgopnnaeoolaaGreatDoor
open Go.RowKit
theorem ZA {P:Prop}(h:P:=by
 unfold Wp;by_cases h0:2≤op∧op≤4
 ·rw[if_pos h0];decide
 rw[if_neg h0];by_cases h1:op=12∨op=13
 ·rw[if_pos h1];decide
 rw[if_neg h1];by_cases h2:op=14
 ·rw[if_pos h2];decide
 rw[if_neg h2];by_cases h3:op=16∨op=18
 ·rw[if_pos h3];decide
 rw[if_neg h3];by_cases h4:32≤op∧op≤34
 ·rw[if_pos h4];decide
 rw[if_neg h4];by_cases h5:op=35∨op=36
 ·rw[if_pos h5];decide
 rw[if_neg h5];by_cases h6:op=63∨op=64∨op=64523
 ·rw[if_pos h6];decide
 rw[if_neg h6];by_cases h7:op=64520
 ·rw[if_pos h7];decide
 rw[if_neg h7];by_cases h8:op=64521
 ·rw[if_pos h8];decide
 rw[if_neg h8];by_cases h9:op=64522
 ·rw[if_pos h9];decide
 rw[if_neg h9];by_cases h10:op=65
 ·rw[if_pos h10];decide
 rw[if_neg h10];by_cases h11:op=66∨op=68
 ·rw[if_pos h11];decide
 rw[if_neg h11];by_cases h12:(Ug op).2.2.2=true
 ·rw[if_pos h12];decide
 rw[if_neg h12]
 decide):P:=h
theorem Vd.cells {P:MP} {w w':World} {x x':MS} (h:Vd P w x w' x') {v:Value} {n s:Nat} {f:Nat→Nat→Value→Prop} (hv:Wd (WN P x w) w v n s f):Wd (WN P x' w') w' v n s f:=hv.keep h.keeps h.mono fun _ _ _ h=>h
theorem cells_lit {P:MP} {w:World} {x:MS} (h:Mk P w x) (cs:Array Value) (t:TypeId) (n size:Nat) (f:Nat→Nat→Value→Prop) (h0:0<n) (hn:n≤100) (hc:∀ j i,j<n→i<size→∃ u,cs[j * size+i]?=some u∧f j i u) :
 Wd (WN P x (w.alloc (.cells cs t))) (w.alloc (.cells cs t)) (.slice (some ⟨w.heap.size,0,none⟩) n n) n size f:=by
 obtain⟨l1,l2,l3⟩:=h.lts;have hw:=h.bel.size;refine⟨_,n,rfl,nR _,by unfold maxLen;omega,(fun h=>by cases h),fun _=>⟨w.heap.size,0,rfl,⟨⟨hw,by simp⟩,by omega,by omega,fun e=>by have:=l3 _ e;omega⟩,fun j i hj hi=>?_⟩⟩;obtain⟨u,h1,h2⟩:=hc j i hj hi;exact⟨u,by rw[Nat.zero_add,wN];exact h1,h2⟩
theorem Wd.mono {K:Nat→Prop} {w:World} {v:Value} {n size:Nat} {f f':Nat→Nat→Value→Prop} (h:Wd K w v n size f) (hf:∀ j i u,j<n→i<size→f j i u→f' j i u):Wd K w v n size f':=by
 obtain⟨A,c,rfl,h1,h2,h0,h3⟩:=h;refine⟨A,c,rfl,h1,h2,h0,fun hl=>?_⟩;obtain⟨g,o,rfl,h4,h5⟩:=h3 hl;refine⟨g,o,rfl,h4,fun j i hj hi=>?_⟩;obtain⟨u,h6,h7⟩:=h5 j i hj hi;exact⟨u,h6,hf j i u hj hi h7⟩
def hostName:ByteArray:=⟨#[104,111,115,116]⟩
def twoImps:List (ByteArray×ByteArray×Int):=[(hostName,⟨#[111,110,101]⟩,1),(hostName,⟨#[116,119,111]⟩,7)]
def UC:List (Int×Bool×Int):=[(127,true,5),(126,true,1099511627776),(124,true,4611686018427387904),(127,false,9)]
def impL:Array Value:=#[.string ⟨#[104,111,115,116]⟩,.string ⟨#[111,110,101]⟩,.int .i64 1,.string ⟨#[104,111,115,116]⟩,.string ⟨#[116,119,111]⟩,.int .i64 7]
def globL:Array Value:=#[.int .i64 127,.bool true,.int .u64 5,.int .i64 126,.bool true,.int .u64 1099511627776,.int .i64 124,.bool true,.int .u64 4611686018427387904,.int .i64 127,.bool false,.int .u64 9]
theorem imp_cells (j i:Nat) (hj:j<2) (hi:i<3):∃ u,impL[j * 3+i]?=some u∧impCell (twoImps.getD j (ByteArray.empty,ByteArray.empty,0)) i u:=by
 rcases(show j=0∨j=1 by omega) with rfl|rfl <;> rcases(show i=0∨i=1∨i=2 by omega) with rfl|rfl|rfl <;> exact⟨_,rfl,rfl⟩
theorem glob_cells (j i:Nat) (hj:j<4) (hi:i<3):∃ u,globL[j * 3+i]?=some u∧VX (UC.getD j (0,false,0)) i u:=by
 rcases(show j=0∨j=1∨j=2∨j=3 by omega) with rfl|rfl|rfl|rfl <;> rcases(show i=0∨i=1∨i=2 by omega) with rfl|rfl|rfl <;> first|exact⟨_,rfl,rfl⟩|exact⟨_,rfl,rfl,And.intro (by decide) (by decide)⟩
theorem imps_field {K:Nat→Prop} {w:World} {v:Value} (h:ImpsK K w v twoImps):VW K w v 3 2 [1,7] :=
 Wd.mono h fun j i u hj hi hu e=>by
  subst e;have hj2:j<2:=hj;rcases(show j=0∨j=1 by omega) with rfl|rfl <;> exact hu
theorem globs_field {K:Nat→Prop} {w:World} {v:Value} (h:GlobsK K w v UC):VW K w v 3 0 [127,126,124,127] :=
 Wd.mono h fun j i u hj hi hu e=>by
  subst e;have hj4:j<4:=hj;rcases(show j=0∨j=1∨j=2∨j=3 by omega) with rfl|rfl|rfl|rfl <;> exact hu
def memName:ByteArray:=⟨#[109,101,109,111,114,121]⟩
def globName:ByteArray:=⟨#[103,108,111,98,97,108]⟩
def actB:List Nat:=[97,99,116,105,118,101]
def pasB:List Nat:=[112,97,115,115,105,118,101]
def datsOk (nm:Nat) (ds:List Dat):Prop:=(nm=0∧ds=[])∨(0<nm∧∃ a b:Nat,a<nm∧b<1000∧ds=[⟨true,(a:Int),(b:Int),actB⟩,⟨false,0,0,pasB⟩])
theorem datsOk.len {nm:Nat} {ds:List Dat} (h:datsOk nm ds):ds.length≤2∧(0<nm→ds.length=2):=by
 rcases h with ⟨h,rfl⟩|⟨h,a,b,_,_,rfl⟩
 ·exact⟨nZ _,fun h'=>by omega⟩
 ·exact⟨nR _,fun _=>rfl⟩
def mexp (nm:Nat):List (ByteArray×Int×Int):=if 0<nm then [(memName,2,(nm:Int) - 1)] else []
def fexp (n:Nat):List (ByteArray×Int×Int):=(List.range n).map fun i=>(⟨#[102]⟩++digit i,0,2+(i:Int))
theorem mexp_le (nm:Nat):(mexp nm).length≤1:=by unfold mexp;split <;> simp
theorem fexp_len (n:Nat):(fexp n).length=n:=by simp[fexp]
theorem fexp_succ (n:Nat):fexp (n+1)=fexp n++[(⟨#[102]⟩++digit n,0,2+(n:Int))]:=by simp[fexp,List.range_succ]
def kind3 (t:Int):Prop:=t=127∨t=126∨t=124
def iend:Iv:=⟨11,0,0,0,.slice none 0 0⟩
structure FnI (P:MP) (w:World) (x:MS) (made:Prop) (f:Int×Value×Value):Prop where
 ty:0≤f.1∧f.1<9
 loc:∃ ll:List Int,ll.length≤3∧Wg (WN P x w) w f.2.1 ll∧∀ t ∈ ll,kind3 t
 code:∃ c:List Iv,c.length≤900000∧Wd (WN P x w) w f.2.2 c.length 5 (fun j i u=>(flat c)[j * 5+i]?=some u)∧(∀ iv ∈ c,∃ l,Wg (fun k=>k<w.heap.size∧k≠P.T) w iv.l l∧okB iv.op iv.a iv.b iv.n l=true)∧(made→∃ d,c=d++[iend]∧Ul (d.map Iv.op) []=some [])
theorem FnI.step {P:MP} {w w':World} {x x':MS} {made made':Prop} {f:Int×Value×Value} (h:FnI P w x made f) (hs:Vd P w x w' x') (hk:Wf (fun k=>k<w.heap.size∧k≠P.T) w w') (hm:made'→made):FnI P w' x' made' f:=by
 obtain⟨h1,⟨ll,h2,h3,h4⟩,c,h5,h6,h7,h8⟩:=h;exact⟨h1,⟨ll,h2,hs.ints h3,h4⟩,c,h5,hs.cells h6,fun iv hiv=>by
  obtain⟨l,hl,ho⟩:=h7 iv hiv;exact⟨l,hl.keep hk fun k hk'=>⟨WW hk'.1 hk.size,hk'.2⟩,ho⟩,fun hm'=>h8 (hm hm')⟩
theorem Wg.set {K:Nat→Prop} {w:World} {v:Value} {l:List Int} (h:Wg K w v l) {p:Addr} {u0:Value} (hp:w.cell? p=some u0) (hn:∀ n,u0≠.int .i64 n) (u:Value):Wg K (w.setCell p u) v l:=by
 obtain⟨A,c,rfl,h1,h0,h3⟩:=h;refine⟨A,c,rfl,h1,h0,fun hl=>?_⟩;obtain⟨g,o,rfl,h4,h5⟩:=h3 hl;refine⟨g,o,rfl,h4,fun j hj=>?_⟩;have e:=h5 j hj;by_cases hpe:p=⟨g,o+j,none⟩
 ·rw[hpe,e]at hp;exact absurd (Option.some.inj hp).symm (hn _)
 ·rw[World.cell?_setCell_other _ _ _ _ hpe];exact e
structure VB (P:MP) (W0:World) (X0:MS) (nm n i:Nat) (r:Nat) (w:World) (x:MS):Prop where
 md:Mk P w x
 st:Vd P W0 X0 w x
 m0:x.m0=X0.m0
 m1:x.m1=X0.m1
 m4:x.m4=X0.m4
 fs:x.fs.length=n∧∀ j f,x.fs[j]?=some f→FnI P w x (j<i) f
 ms:x.ms.length=nm∧nm≤3∧∀ m ∈ x.ms,1≤m.1∧m.1≤2∧2≤m.2∧m.2≤4
 ds:∃ ds,Vp (WN P x w) w x.m6 ds∧datsOk nm ds
 es:x.es=mexp nm++fexp n++[(globName,3,(r:Int))]
theorem VB.later {P:MP} {W0:World} {X0:MS} {nm n i r:Nat} {w w':World} {x:MS} (h:VB P W0 X0 nm n i r w x) (hk:Wf (fun k=>k<w.heap.size∧k≠P.T) w w') (a:Nat) (ha:a≤P.tl.length) (hT:w'.heap[P.T]?=some (.cells #[P.tv,.int .i64 (a:Int)] 49 (0,0))):VB P W0 X0 nm n i r w' { x with at_:=a }:=by
 obtain⟨h1,h2⟩:=h.md.later hk a ha hT;refine⟨h1,h.st.trans h2,h.m0,h.m1,h.m4,⟨h.fs.1,fun j f hf=>(h.fs.2 j f hf).step h2 hk fun h=>h⟩,h.ms,?_,h.es⟩;obtain⟨ds,h3,h4⟩:=h.ds;exact⟨ds,Vp.keep h3 h2.keeps h2.mono,h4⟩
theorem VB.code {P:MP} {W0:World} {X0:MS} {nm n i r:Nat} {w:World} {x:MS} (h:VB P W0 X0 nm n i r w x) {g cap:Nat} (hm:x.m2=.slice (some ⟨g,0,none⟩) n cap) (hi:i<n) {cv:Value} {c:List Iv} (hc:c.length≤900000) (hcv:Wd (WN P x w) w cv c.length 5 (fun j i u=>(flat c)[j * 5+i]?=some u))
 (hl:∀ iv ∈ c,∃ l,Wg (fun k=>k<w.heap.size∧k≠P.T) w iv.l l∧okB iv.op iv.a iv.b iv.n l=true) (hd:∃ d,c=d++[iend]∧Ul (d.map Iv.op) []=some []):∃ fs',VB P W0 X0 nm n (i+1) r (w.setCell ⟨g,i * 3+2,none⟩ cv) { x with fs:=fs' }:=by
 obtain⟨hn,hfs⟩:=h.fs;have hil:i<x.fs.length:=by omega
 have hf:x.fs[i]?=some x.fs[i]:=List.getElem?_eq_getElem hil;obtain⟨f,hfe⟩:∃ f,f=x.fs[i]:=⟨_,rfl⟩;rw[← hfe]at hf;rw[← hn]at hm;obtain⟨h1,h2⟩:=h.md.code hm hf cv;have hfo:=h.md.fo;rw[hm]at hfo;have hgb:x.m2.ownBlock=some g:=by rw[hm];rfl
 have hcell:w.cell? ⟨g,i * 3+2,none⟩=some f.2.2:=by rw[hfo.cellAt _ (by omega)];exact(flatFn_at x.fs i f hf).2.2
 have hni:∀ k,f.2.2≠.int .i64 k:=fun k e=>by
  obtain⟨_,_,c',_,h6,_⟩:=hfs i f hf;obtain⟨A,c2,h7,_⟩:=h6.form;rw[h7]at e;cases e
 have hsz:(w.setCell ⟨g,i * 3+2,none⟩ cv).heap.size=w.heap.size:=by simp[World.setCell]
 have hq:∀ {v l},Wg (fun k=>k<w.heap.size∧k≠P.T) w v l→Wg (fun k=>k<(w.setCell ⟨g,i * 3+2,none⟩ cv).heap.size∧k≠P.T) (w.setCell ⟨g,i * 3+2,none⟩ cv) v l:=fun hv=>by
  rw[hsz];exact hv.set hcell hni cv
 refine⟨_,h1,h.st.trans h2,h.m0,h.m1,h.m4,⟨by rw[List.length_set];exact hn,fun j f' hj=>?_⟩,h.ms,?_,h.es⟩
 ·rw[List.getElem?_set]at hj;by_cases hji:i=j
  ·rw[if_pos hji,if_pos hil]at hj;obtain rfl:=Option.some.inj hj;obtain⟨k1,⟨ll,k2,k3,k4⟩,_⟩:=hfs i f hf;exact⟨k1,⟨ll,k2,h2.ints k3,k4⟩,c,hc,h2.cells hcv,fun iv hiv=>by obtain⟨l,hl',ho⟩:=hl iv hiv;exact⟨l,hq hl',ho⟩,fun _=>hd⟩
  ·rw[if_neg hji]at hj;obtain⟨k1,⟨ll,k2,k3,k4⟩,c',k5,k6,k7,k8⟩:=hfs j f' hj;exact⟨k1,⟨ll,k2,h2.ints k3,k4⟩,c',k5,h2.cells k6,fun iv hiv=>by obtain⟨l,hl',ho⟩:=k7 iv hiv;exact⟨l,hq hl',ho⟩,fun h=>k8 (by omega)⟩
 ·obtain⟨ds,h3,h4⟩:=h.ds;exact⟨ds,Vp.keep h3 h2.keeps h2.mono,h4⟩
theorem VB.sigs {P:MP} {W0:World} {X0:MS} {nm n i r:Nat} {w:World} {x:MS} (h:VB P W0 X0 nm n i r w x) (hi:i<n) (hn:n≤4) (h0:Vo (WN P x w) w x.m0 Us) (h1:ImpsK (WN P x w) w x.m1 twoImps) :
 ∃ (t:Nat) (ll:List Int),t<9∧ll.length≤3∧∀ wz,Below w.heap.size w wz →
  (Calls Tryz.prog 10 #[.agg #[x.m0,x.m1,x.m2,x.m3,x.m4,x.m5,x.m6,.slice none 0 0],.int .i64 (2+(i:Int))] wz (LocPost ((Us.getD t ([],[])).1++ll) wz)) ∧
  (Calls Tryz.prog 11 #[.agg #[x.m0,x.m1,x.m2,x.m3,x.m4,x.m5,x.m6,.slice none 0 0],.int .i64 (2+(i:Int))] wz (SigPost (fun k=>k<w.heap.size∧k≠P.T) (Us.getD t ([],[])) wz)):=by
 obtain⟨hl,hfs⟩:=h.fs;have hil:i<x.fs.length:=by omega
 have hf:x.fs[i]?=some x.fs[i]:=List.getElem?_eq_getElem hil;obtain⟨f,hfe⟩:∃ f,f=x.fs[i]:=⟨_,rfl⟩;rw[← hfe]at hf;obtain⟨⟨t0,t9⟩,⟨ll,hll,hlk,_⟩,_⟩:=hfs i f hf;obtain⟨l1,l2,l3⟩:=h.md.lts;have hcell:∀ g o n' c,x.m2=.slice (some ⟨g,o,none⟩) n' c→g<w.heap.size∧w.cell? ⟨g,o+i * 3+1,none⟩=some f.2.1:=fun g o n' c e=>by
  have hfo:=h.md.fo;have hb:x.m2.ownBlock=some g:=by rw[e];rfl
  rcases hfo.2 with ⟨e2,_⟩|⟨g',cap,cur,e2,_⟩
  ·rw[e]at e2;cases e2
  ·rw[e]at e2;simp only[vI,Option.some.injEq,Addr.mk.injEq]at e2;obtain⟨⟨rfl,rfl,_⟩,rfl,rfl⟩:=e2;rw[e]at hfo;exact⟨l3 g (.inl hb),by rw[Nat.zero_add,hfo.cellAt _ (by omega)];exact(flatFn_at x.fs i f hf).2.1⟩
 have hsk:∀ k,WN P x w k→k<w.heap.size∧k≠P.T:=fun k hk=>⟨hk.1.2,hk.2.2.1⟩;have hft:(x.fs.map (·.1)).getD i 0=((f.1.toNat:Nat):Int):=by
  rw[List.getD_eq_getElem?_getD,List.getElem?_map,hf];show f.1=_;omega
 have h3:∀ t,t<9→(Us.getD t ([],[])).1.length≤3:=by decide
 have hml:(x.fs.map (·.1)).length=n:=by rw[List.length_map];exact hl
 refine⟨f.1.toNat,ll,by omega,hll,fun wz hb=>?_⟩;have hk:Wf (fun k=>k<w.heap.size∧k≠P.T) w wz:=.below hb fun k hk=>hk.1;have k0:=h0.keep (hk.mono hsk) hsk;have k1:=(imps_field h1).keep (hk.mono hsk) hsk;have k2:=(h.md.types_of (fun k=>k<w.heap.size∧k≠P.T) fun g hg=>⟨l3 g (.inl hg),(h.md.fp g hg).2.2.1⟩).keep hk fun _ h=>h;have e2:(2:Int)+(i:Int)=((([1,7]:List Int).length+i:Nat):Int):=by simp
 rw[e2];exact⟨rloc_yes wz (fun k=>k<w.heap.size∧k≠P.T) (fun k hk=>WW hk.1 hb.size) x.m0 x.m1 x.m2 x.m3 x.m4 x.m5 x.m6 _ Us [1,7] _ k0 k1 k2 (by rw[hml];show 9+2+n≤1000;omega) i f.1.toNat (by omega) hft (by show f.1.toNat<9;omega) (h3 _ (by omega)) f.2.1 ll (fun g o n' c e=>(hb.cell (p:=⟨g,o+i * 3+1,none⟩) (hcell g o n' c e).1).trans (hcell g o n' c e).2) (hlk.keep (hk.mono hsk) hsk) (by omega),
  rsig_yes (fun k=>k<w.heap.size∧k≠P.T) wz x.m0 x.m1 x.m2 x.m3 x.m4 x.m5 x.m6 _ Us [1,7] _ k0 k1 k2 (by rw[hml];show 9+2+n≤1000000;omega) _ f.1.toNat (.inr ⟨Nat.le_add_right _ _,by omega,by rw[Nat.add_sub_cancel_left];exact hft⟩) (by show f.1.toNat<9;omega)⟩
theorem VB.forms {P:MP} {W0:World} {X0:MS} {nm n i r:Nat} {w:World} {x:MS} (h:VB P W0 X0 nm n i r w x) (hn:0<n):(∃ A k c,x.m3=.slice A k c)∧(∃ A k c,x.m5=.slice A k c)∧(∃ A k c,x.m6=.slice A k c)∧∃ g c,x.m2=.slice (some ⟨g,0,none⟩) n c∧n≤c:=by
 obtain⟨A3,c3,h3⟩:=Wc h.md.mo;obtain⟨A5,c5,h5⟩:=Wc h.md.eo;obtain⟨ds,hd,_⟩:=h.ds;obtain⟨A6,c6,h6,_⟩:=Wd.form hd;refine⟨⟨_,_,_,h3⟩,⟨_,_,_,h5⟩,⟨_,_,_,h6⟩,?_⟩;rcases h.md.fo.2 with ⟨_,h0⟩|⟨g,cap,cur,h1,_,_,h2,_⟩
 ·have:=h.fs.1;omega
 ·exact⟨g,cap,by rw[h1,h.fs.1],by have:=h.fs.1;omega⟩
theorem VB.spot {P:MP} {W0:World} {X0:MS} {nm n i r:Nat} {w w':World} {x:MS} (h:VB P W0 X0 nm n i r w x) {g cap:Nat} (hm:x.m2=.slice (some ⟨g,0,none⟩) n cap) (hi:i<n) (hk:Wf (fun k=>k<w.heap.size∧k≠P.T) w w') :
 w'.frozen? ⟨g,i * 3+2,none⟩=false∧(∃ u,w'.cell? ⟨g,i * 3+2,none⟩=some u)∧w'.cell? ⟨P.M,2,none⟩=some x.m2:=by
 obtain⟨l1,_,l3⟩:=h.md.lts;have hfo:=Wt h.md.fo hk fun g hg=>⟨l3 g (.inl hg),(h.md.fp g hg).2.2.1⟩;have hl:=h.fs.1;rw[hm,hl]at hfo;have hlen:i * 3+2<(Vw x.fs).length:=by rw[flatFn_length];omega
 exact⟨hfo.frozenAt _,⟨_,by rw[hfo.cellAt _ (by omega)];exact List.getElem?_eq_getElem hlen⟩,(hk.cell (p:=⟨P.M,2,none⟩) ⟨l1,h.md.new.2.2⟩).trans (h.md.cell 2)⟩
theorem Wd.form3 {K:Nat→Prop} {w:World} {v:Value} {n size:Nat} {f:Nat→Nat→Value→Prop} (h:Wd K w v n size f):∃ A k c,v=.slice A k c:=by
 obtain⟨A,c,h1,_⟩:=h.form;exact⟨A,_,c,h1⟩
theorem box_set {w:World} {G:Nat} {cs:Array Value} {t:TypeId} (h:w.heap[G]?=some (.cells cs t (0,0))) (p r v:Value) (ob:Obj) :
 ((((w.setCell ⟨G,10,none⟩ p).setCell ⟨G,11,none⟩ r).alloc ob).setCell ⟨G,13,none⟩ v).heap[G]?=some (.cells (((cs.setIfInBounds 10 p).setIfInBounds 11 r).setIfInBounds 13 v) t (0,0)):=by
 have h1:=Wh w G 10 cs t p h;have h2:=Wh _ G 11 _ t r h1;have hlt:=(Array.getElem?_eq_some_iff.1 h2).1;exact Wh _ G 13 _ t v ((Below.heap_alloc _ ob _ hlt).trans h2)
theorem VB.gen {P:MP} {W0:World} {X0:MS} {nm n i r:Nat} {w w3:World} {x:MS} (h:VB P W0 X0 nm n i r w x) (hn:0<n∧n≤4) (h0:Vo (WN P x w) w x.m0 Us) (h1:ImpsK (WN P x w) w x.m1 twoImps) (h4:GlobsK (WN P x w) w x.m4 UC)
 {G:Nat} (hG:w.heap.size≤G) {lov:Value} {lo:List Int} (hlo:Wg (fun k=>w.heap.size≤k∧k<G) w3 lov lo) (hlo1:lo.length≤100) {p rv:Value} {t:List Int×List Int} (hr:Wg (fun k=>k<w.heap.size∧k≠P.T) w3 rv t.2) (hr3:t.2.length≤3)
 (hw3:Below w.heap.size w w3) (hG3:w3.heap[G]?=some (.cells #[.pointer (some ⟨P.T,0,none⟩),x.m0,x.m1,x.m2,x.m3,x.m4,x.m5,x.m6,.slice none 0 0,lov,.slice none 0 0,.slice none 0 0,.slice none 0 0,.slice none 0 0,.slice none 0 0,.int .i64 40,.bool true] 69 (0,0))) :
 ∃ F x0,F.G=G∧F.T=P.T∧F.o=some []∧(∀ k,¬ F.E k)∧F.tl=P.tl∧F.rv=rv∧F.ro=t.2∧x0.s=[]∧x0.c=[]∧x0.nl=1∧x0.left=40∧F.tv=P.tv ∧
  WD F ((((w3.setCell ⟨G,10,none⟩ p).setCell ⟨G,11,none⟩ rv).alloc (.cells #[rv] 22)).setCell ⟨G,13,none⟩ (.slice (some ⟨w3.heap.size,0,none⟩) 1 1)) x0 ∧
  Below w.heap.size w ((((w3.setCell ⟨G,10,none⟩ p).setCell ⟨G,11,none⟩ rv).alloc (.cells #[rv] 22)).setCell ⟨G,13,none⟩ (.slice (some ⟨w3.heap.size,0,none⟩) 1 1)) ∧
  (∀ k,k<w.heap.size∧k≠P.T→Ud F ((((w3.setCell ⟨G,10,none⟩ p).setCell ⟨G,11,none⟩ rv).alloc (.cells #[rv] 22)).setCell ⟨G,13,none⟩ (.slice (some ⟨w3.heap.size,0,none⟩) 1 1)) x0 k) ∧
  (∀ k,¬ (k=G∨k=P.T)→k<((((w3.setCell ⟨G,10,none⟩ p).setCell ⟨G,11,none⟩ rv).alloc (.cells #[rv] 22)).setCell ⟨G,13,none⟩ (.slice (some ⟨w3.heap.size,0,none⟩) 1 1)).heap.size→Ud F ((((w3.setCell ⟨G,10,none⟩ p).setCell ⟨G,11,none⟩ rv).alloc (.cells #[rv] 22)).setCell ⟨G,13,none⟩ (.slice (some ⟨w3.heap.size,0,none⟩) 1 1)) x0 k):=by
 have hGlt:=(Array.getElem?_eq_some_iff.1 hG3).1;have hbx:=box_set hG3 p rv (.slice (some ⟨w3.heap.size,0,none⟩) 1 1) (.cells #[rv] 22);have hsz1:((w3.setCell ⟨G,10,none⟩ p).setCell ⟨G,11,none⟩ rv).heap.size=w3.heap.size:=by simp[World.setCell]
 have hsz:((((w3.setCell ⟨G,10,none⟩ p).setCell ⟨G,11,none⟩ rv).alloc (.cells #[rv] 22)).setCell ⟨G,13,none⟩ (.slice (some ⟨w3.heap.size,0,none⟩) 1 1)).heap.size=w3.heap.size+1:=by simp[World.setCell]
 have hkp:Wf (fun k=>k<w3.heap.size∧k≠G) w3 ((((w3.setCell ⟨G,10,none⟩ p).setCell ⟨G,11,none⟩ rv).alloc (.cells #[rv] 22)).setCell ⟨G,13,none⟩ (.slice (some ⟨w3.heap.size,0,none⟩) 1 1)) :=
  (Wf.setCell w3 (fun e=>e.2 rfl) p).trans ((Wf.setCell _ (fun e=>e.2 rfl) rv).trans ((Wf.alloc _ (fun k hk=>by rw[hsz1];exact hk.1) _).trans (Wf.setCell _ (fun e=>e.2 rfl) _)))
 have hlb:((((w3.setCell ⟨G,10,none⟩ p).setCell ⟨G,11,none⟩ rv).alloc (.cells #[rv] 22)).setCell ⟨G,13,none⟩ (.slice (some ⟨w3.heap.size,0,none⟩) 1 1)).cell? ⟨w3.heap.size,0,none⟩=some rv:=by
  rw[World.cell?_setCell_far _ _ _ _ (by show G≠w3.heap.size;omega)];have h9:=wN ((w3.setCell ⟨G,10,none⟩ p).setCell ⟨G,11,none⟩ rv) #[rv] 22 0;rw[hsz1]at h9;exact h9
 generalize ((((w3.setCell ⟨G,10,none⟩ p).setCell ⟨G,11,none⟩ rv).alloc (.cells #[rv] 22)).setCell ⟨G,13,none⟩ (.slice (some ⟨w3.heap.size,0,none⟩) 1 1))=w4 at *;have hw3s:=hw3.size;have hb4:Below w.heap.size w w4:=⟨hkp.os.trans hw3.os,hkp.tape.trans hw3.tape,hkp.output.trans hw3.output,by omega,fun k hk=>(hkp.block k ⟨by omega,by omega⟩).trans (hw3.block k hk)⟩;obtain⟨hm4,hs4⟩:=h.md.below hb4;obtain⟨l1,l2,l3⟩:=h.md.lts;have hK4:Wf (fun k=>k<w.heap.size∧k≠P.T) w w4:=.below hb4 fun k hk=>hk.1;have hsk:∀ k,WN P x w k→k<w4.heap.size∧k≠G∧k≠P.T:=fun k hk=>⟨by have:=hk.1.2;omega,by have:=hk.1.2;omega,hk.2.2.1⟩;have hks:Wf (WN P x w) w w4:=.below hb4 fun k hk=>hk.1.2;obtain⟨ds,hd,hdo⟩:=h.ds;have hdl:=hdo.len;obtain⟨Ad,cd,hde,hd1,hd2⟩:=hd.form;have hgen:=gen_start hm4 G lov lo p rv t.2 ds.length (.slice (some ⟨w3.heap.size,0,none⟩) 1 1) hbx ⟨by omega,by omega,fun e=>by have:=l3 G e;omega,by have:=h.md.bel.size;omega⟩
  (hlo.keep (hkp.mono fun k hk=>⟨by omega,by omega⟩) fun k hk=>⟨by omega,by omega,by omega⟩) hlo1 (hr.keep (hkp.mono fun k hk=>⟨by omega,by omega⟩) fun k hk=>⟨by omega,by omega,hk.2⟩) hr3
  (h0.keep hks hsk) ((imps_field h1).keep hks hsk) ((globs_field h4).keep hks hsk) ⟨by have:=h.fs.1;omega,by have:=h.fs.1;omega,fun f hf=>by obtain⟨j,hj,rfl⟩:=List.mem_iff_getElem.1 hf;exact(h.fs.2 j _ (List.getElem?_eq_getElem hj)).ty⟩ (by rw[h.ms.1];exact h.ms.2.1)
  ⟨⟨Ad,cd,hde,hd1,hd2⟩,hdl.1,fun hp=>hdl.2 (by rw[h.ms.1]at hp;exact hp)⟩
  ⟨_,1,rfl,nR _,by unfold maxLen;omega,(fun h=>by cases h),fun _=>⟨w3.heap.size,0,rfl,⟨by omega,by omega,by omega⟩,fun j i' hj hi'=>by
   obtain rfl:j=0:=by omega
   obtain rfl:i'=0:=by omega
   exact⟨rv,hlb,t.2,hr3,hr.keep (hkp.mono fun k hk=>⟨by omega,by omega⟩) fun k hk=>⟨by omega,by omega,by have:=hk.2;omega⟩⟩⟩⟩
 have hfr:∀ k,¬ (k=G∨k=P.T)→k<w4.heap.size→Ud (fxOf P x G lov lo p rv t.2 ds.length) w4 (stOf (.slice (some ⟨w3.heap.size,0,none⟩) 1 1) x.at_) k:=fun k hk hlt=>⟨hlt,fun e=>by
  rcases e with e|e|e|e
  ·exact hk (.inl e)
  ·exact hk (.inr e)
  ·cases e
  ·cases e⟩
 exact⟨_,_,rfl,rfl,rfl,fun _ e=>e,rfl,rfl,rfl,rfl,rfl,rfl,rfl,rfl,hgen,hb4,fun k hk=>hfr k (fun e=>by rcases e with e|e;omega;exact hk.2 e) (by omega),hfr⟩
theorem VB.made {P:MP} {W0:World} {X0:MS} {nm n i r:Nat} {w w4 w9:World} {x:MS} (h:VB P W0 X0 nm n i r w x) {F:Fx} {x0 x9:St} (hT:F.T=P.T) (htl:F.tl=P.tl) (htv:F.tv=P.tv) (hb4:Below w.heap.size w w4) (hfr:∀ k,k<w.heap.size∧k≠P.T→Ud F w4 x0 k) (hfr2:∀ k,¬ (k=F.G∨k=P.T)→k<w4.heap.size→Ud F w4 x0 k)
 (hg:WD F w9 x9) (hs:Wv F w4 x0 w9 x9) (hi:i<n) {g cap:Nat} (hm:x.m2=.slice (some ⟨g,0,none⟩) n cap) (hc:x9.c.length≤900000) (hd:∃ d,x9.c=d++[iend]∧Ul (d.map Iv.op) []=some []) :
 ∃ y',VB P W0 X0 nm n (i+1) r (w9.setCell ⟨g,i * 3+2,none⟩ x9.cv) y':=by
 have hK:Wf (fun k=>k<w.heap.size∧k≠P.T) w w9:=(Wf.below hb4 fun k hk=>hk.1).trans (hs.keeps.mono hfr);have hf9:=h.later hK x9.at_ (by rw[← htl];exact hg.le) (by rw[← hT,← htv];exact hg.ht);obtain⟨l1,l2,l3⟩:=h.md.lts;obtain⟨g1,g2,g3,g4⟩:=hg.lts;have hsz:=hb4.size;have hcv:∀ k,x9.cv.ownBlock=some k→w4.heap.size≤k:=fun k hk=>by
  rcases Nat.lt_or_ge k w4.heap.size with hlt|hge
  ·obtain⟨q1,q2⟩:=hg.cp k hk;have:=hs.mono k (hfr2 k (fun e=>by rcases e with e|e;exact q1 e;exact q2 (e.trans hT.symm)) hlt);exact absurd (.inr (.inr (.inr hk))) this.2
  ·exact hge
 have hWs:=h.md.bel.size;obtain⟨fs',hf'⟩:=hf9.code hm hi hc (Ua hg.co _ (fun k hk=>(⟨⟨by have:=hcv k hk;omega,g4 k hk⟩,by have:=hcv k hk;omega,by have:=hcv k hk;omega,fun e=>by have:=hcv k hk;have:=l3 k e;omega⟩:WN P _ w9 k)) fun j i' hj hi'=>by
  have hlt:j * 5+i'<(flat x9.c).length:=by rw[flat_length];omega
  exact⟨_,List.getElem?_eq_getElem hlt,List.getElem?_eq_getElem hlt⟩)
  (fun iv hiv=>by
   obtain⟨l,hl,ho⟩:=hg.reads.code iv hiv;exact⟨l,hl.keep (.refl _ _) fun k hk=>⟨hk.1.1,fun e=>hk.1.2 (.inr (.inl (e.trans hT.symm)))⟩,ho⟩) hd
 exact⟨_,hf'⟩
theorem list_of {α β:Type} (R:α→β→Prop) (l:List α) (h:∀ a ∈ l,∃ b,R a b):∃ m:List β,m.length=l.length∧∀ (j:Nat) (a:α),l[j]?=some a→∃ b,m[j]?=some b∧R a b:=by
 induction l with
 | nil=>exact⟨[],rfl,fun j a h=>by simp at h⟩
 | cons x l ih =>
  obtain⟨b,hb⟩:=h x (List.mem_cons_self ..);obtain⟨m,h1,h2⟩:=ih fun a ha=>h a (List.mem_cons_of_mem _ ha);refine⟨b :: m,by simp[h1],fun j a hj=>?_⟩;cases j with
  | zero=>simp only[List.getElem?_cons_zero,Option.some.injEq]at hj;subst hj;exact⟨b,rfl,hb⟩
  | succ j=>simpa using h2 j a (by simpa using hj)
theorem flat_at (c:List Iv):∀ k (iv:Iv),c[k]?=some iv→(flat c)[k * 5]?=some (.int .i64 iv.op)∧(flat c)[k * 5+1]?=some (.int .i64 iv.a)∧(flat c)[k * 5+2]?=some (.int .i64 iv.b)∧(flat c)[k * 5+3]?=some (.int .u64 iv.n)∧(flat c)[k * 5+4]?=some iv.l:=by
 induction c with
 | nil=>intro k iv h;simp at h
 | cons x c ih =>
  intro k iv h;rw[show flat (x :: c)=x.cells++flat c from rfl];cases k with
  | zero=>simp only[List.getElem?_cons_zero,Option.some.injEq]at h;subst h;exact⟨rfl,rfl,rfl,rfl,rfl⟩
  | succ k =>
   have h3:x.cells.length=5:=rfl;rw[List.getElem?_append_right (by rw[h3];omega),List.getElem?_append_right (by rw[h3];omega),List.getElem?_append_right (by rw[h3];omega),List.getElem?_append_right (by rw[h3];omega),List.getElem?_append_right (by rw[h3];omega),h3,show(k+1) * 5 - 5=k * 5 by omega,show(k+1) * 5+1 - 5=k * 5+1 by omega,show(k+1) * 5+2 - 5=k * 5+2 by omega,show(k+1) * 5+3 - 5=k * 5+3 by omega,show(k+1) * 5+4 - 5=k * 5+4 by omega];exact ih k iv (by simpa using h)
theorem most_word (op:Int):(Wp op).2.2.2.1≤18446744073709551615:=by
 exact ZA
theorem ok_word {op a b n:Int} {l:List Int} (h:okB op a b n l=true):VK n:=by
 simp only[okB,insB,Bool.and_eq_true,decide_eq_true_eq]at h;exact⟨h.1,Int.le_trans h.2.1.1.2 (most_word op)⟩
theorem most_labs (op:Int):(Wp op).2.2.2.2.2≤17:=by
 exact ZA
theorem ok_fit {op a b n:Int} {l:List Int} (h:okB op a b n l=true):fitN l.length:=by
 simp only[okB,insB,Bool.and_eq_true,decide_eq_true_eq,inB]at h;have h1:=h.2.1.2.2;have h2:=most_labs op;unfold fitN;omega
def ivIs (w:World) (iv:Iv) (x:VV):Prop:=iv.op=x.op∧iv.a=x.a∧iv.b=x.b∧iv.n=x.n∧Wg (fun k=>k<w.heap.size) w iv.l x.l∧okB x.op x.a x.b x.n x.l=true
theorem codeK_of {K:Nat→Prop} {w:World} {v:Value} {c:List Iv} (h:Wd K w v c.length 5 (fun j i u=>(flat c)[j * 5+i]?=some u)) (hK:∀ k,K k→k<w.heap.size) (hl:∀ iv ∈ c,∃ l,Wg (fun k=>k<w.heap.size) w iv.l l∧okB iv.op iv.a iv.b iv.n l=true) :
 ∃ d:List VV,d.length=c.length∧Vh (fun k=>k<w.heap.size) w v d∧∀ (j:Nat) (iv:Iv),c[j]?=some iv→∃ x,d[j]?=some x∧ivIs w iv x:=by
 obtain⟨d,hd,hr⟩:=list_of (ivIs w) c fun iv hiv=>by
  obtain⟨l,hl',ho⟩:=hl iv hiv;exact⟨⟨iv.op,iv.a,iv.b,iv.n,l⟩,rfl,rfl,rfl,rfl,hl',ho⟩
 refine⟨d,hd,?_,hr⟩;unfold Vh;rw[hd];have h':Wd (fun k=>k<w.heap.size) w v c.length 5 (fun j i u=>(flat c)[j * 5+i]?=some u):=h.keep (.refl _ _) hK fun _ _ _ h=>h;refine h'.mono fun j i u hj hi hu=>?_;have hj':c[j]?=some c[j]:=List.getElem?_eq_getElem hj;obtain⟨x,hx,e1,e2,e3,e4,e5,ho⟩:=hr j _ hj';obtain⟨f0,f1,f2,f3,f4⟩:=flat_at c j _ hj';have hg:d.getD j ins0=x:=by rw[List.getD_eq_getElem?_getD,hx];rfl
 rw[hg];rcases(show i=0∨i=1∨i=2∨i=3∨i=4 by omega) with rfl|rfl|rfl|rfl|rfl
 ·rw[Nat.add_zero,f0]at hu;obtain rfl:=Option.some.inj hu;show _=Value.int .i64 x.op;rw[e1]
 ·rw[f1]at hu;obtain rfl:=Option.some.inj hu;show _=Value.int .i64 x.a;rw[e2]
 ·rw[f2]at hu;obtain rfl:=Option.some.inj hu;show _=Value.int .i64 x.b;rw[e3]
 ·rw[f3]at hu;obtain rfl:=Option.some.inj hu;exact⟨by rw[e4],ok_word ho⟩
 ·rw[f4]at hu;obtain rfl:=Option.some.inj hu;exact⟨e5,ok_fit ho⟩
def codeOk (c:List VV):Prop:=c.length≤900000∧∃ d,c=d++[⟨11,0,0,0,[]⟩]∧Ul (d.map VV.op) []=some []
def fncOk (x:Fnc):Prop:=0≤x.ty∧x.ty<9∧x.loc.length≤3∧(∀ t ∈ x.loc,kind3 t)∧codeOk x.code
def fncIs (w:World) (f:Int×Value×Value) (x:Fnc):Prop:=f.1=x.ty∧Wg (fun k=>k<w.heap.size) w f.2.1 x.loc∧Vh (fun k=>k<w.heap.size) w f.2.2 x.code
structure Kept (P:MP) (w w':World):Prop where
 keeps:Wf (fun k=>(P.W.heap.size≤k∧k<w.heap.size)∧k≠P.M∧k≠P.T) w w'
 lists:∀ v l,Wg (fun k=>k<w.heap.size∧k≠P.T) w v l→Wg (fun k=>k<w'.heap.size) w' v l
theorem Kept.still {P:MP} {w w':World} (h:Kept P w w') {x:MS}:Wf (WN P x w) w w'∧∀ k,WN P x w k→k<w'.heap.size :=
 ⟨h.keeps.mono fun _ hk=>⟨hk.1,hk.2.1,hk.2.2.1⟩,fun _ hk=>WW hk.1.2 h.keeps.size⟩
theorem FnI.data {P:MP} {w w':World} {x:MS} {made:Prop} {f:Int×Value×Value} (h:FnI P w x made f) (hm:made) (hw:Kept P w w'):∃ y,fncIs w' f y∧fncOk y∧∀ i ∈ y.code,okB i.op i.a i.b i.n i.l=true:=by
 obtain⟨⟨h1,h1'⟩,⟨ll,h2,h3,h4⟩,c,h5,h6,h7,h8⟩:=h;obtain⟨s1,s2⟩:=hw.still (x:=x);obtain⟨d,hd,hk,hr⟩:=codeK_of (h6.keep s1 s2 fun _ _ _ h=>h) (fun _ h=>h) (fun iv hiv=>by obtain⟨l,hl,ho⟩:=h7 iv hiv;exact⟨l,hw.lists _ _ hl,ho⟩);obtain⟨b,rfl,hb⟩:=h8 hm;refine⟨⟨f.1,ll,d⟩,⟨rfl,h3.keep s1 s2,hk⟩,⟨h1,h1',h2,h4,by show d.length≤_;omega,d.take b.length,?_,?_⟩,fun i hi=>?_⟩
 ·obtain⟨x1,hx1,e1,e2,e3,e4,e5,_⟩:=hr b.length iend (by simp);obtain⟨A,cp,he,_⟩:=e5;have hx0:x1.l=[]:=by
   have he2:(Value.slice none 0 0:Value)=.slice A x1.l.length cp:=he;simp only[vI]at he2;exact List.eq_nil_of_length_eq_zero he2.2.1.symm
  have hxe:x1=⟨11,0,0,0,[]⟩:=by
   cases x1
   simp only[iend]at e1 e2 e3 e4 hx0;simp only[← e1,← e2,← e3,← e4,hx0]
  have hlen:d.length=b.length+1:=by rw[hd];simp
  refine List.ext_getElem? fun j=>?_;show d[j]?=(d.take b.length++[⟨11,0,0,0,[]⟩])[j]?;rcases Nat.lt_trichotomy j b.length with hj|hj|hj
  ·rw[List.getElem?_append_left (by rw[List.length_take];omega),List.getElem?_take,if_pos hj]
  ·subst hj;rw[List.getElem?_append_right (by rw[List.length_take];omega),hx1,hxe,List.length_take,Nat.min_eq_left (by omega),Nat.sub_self];rfl
  ·rw[List.getElem?_eq_none (by omega),List.getElem?_eq_none (by rw[List.length_append,List.length_take];simp;omega)]
 ·have e:(d.take b.length).map VV.op=b.map Iv.op:=by
   refine List.ext_getElem? fun j=>?_;rw[List.getElem?_map,List.getElem?_map,List.getElem?_take];by_cases hj:j<b.length
   ·rw[if_pos hj];have hj':(b++[iend])[j]?=some b[j]:=by rw[List.getElem?_append_left hj,List.getElem?_eq_getElem hj]
    obtain⟨y,hy,e1,_⟩:=hr j _ hj';rw[hy,List.getElem?_eq_getElem hj];simp[e1]
   ·rw[if_neg hj,List.getElem?_eq_none (by omega)];rfl
  rw[e];exact hb
 ·obtain⟨j,hj,rfl⟩:=List.mem_iff_getElem.1 (show i ∈ d from hi);have hj':(b++[iend])[j]?=some ((b++[iend])[j]'(by omega)):=List.getElem?_eq_getElem _;obtain⟨y,hy,_,_,_,_,_,ho⟩:=hr j _ hj';rw[List.getElem?_eq_getElem hj]at hy;obtain rfl:=Option.some.inj hy;exact ho
structure MadeM (m:W8):Prop where
 types:m.types=Us
 imps:m.imps=twoImps
 funs:(0<m.funs.length∧m.funs.length≤4)∧∀ f ∈ m.funs,fncOk f
 mems:m.mems.length≤3∧∀ x ∈ m.mems,1≤x.1∧x.1≤2∧2≤x.2∧x.2≤4
 globs:m.globs=UC
 exps:∃ r:Nat,r<4∧m.exps=mexp m.mems.length++fexp m.funs.length++[(globName,3,(r:Int))]
 datas:datsOk m.mems.length m.datas
 cus:m.cus=[]
 oks:∀ f ∈ m.funs,∀ i ∈ f.code,okB i.op i.a i.b i.n i.l=true
theorem flatMm_at (l:List (Int×Int)):∀ k (f:Int×Int),l[k]?=some f→(flatMm l)[k * 2]?=some (.int .i64 f.1)∧(flatMm l)[k * 2+1]?=some (.int .i64 f.2):=by
 induction l with
 | nil=>intro k f h;simp at h
 | cons x l ih =>
  intro k f h;rw[show flatMm (x :: l)=mmCells x++flatMm l from rfl];cases k with
  | zero=>simp only[List.getElem?_cons_zero,Option.some.injEq]at h;subst h;exact⟨rfl,rfl⟩
  | succ k =>
   have h3:(mmCells x).length=2:=rfl;rw[List.getElem?_append_right (by rw[h3];omega),List.getElem?_append_right (by rw[h3];omega),h3,show(k+1) * 2 - 2=k * 2 by omega,show(k+1) * 2+1 - 2=k * 2+1 by omega];exact ih k f (by simpa using h)
theorem flatEx_at (l:List (ByteArray×Int×Int)):∀ k (f:ByteArray×Int×Int),l[k]?=some f→(Uk l)[k * 3]?=some (.string f.1)∧(Uk l)[k * 3+1]?=some (.int .i64 f.2.1)∧(Uk l)[k * 3+2]?=some (.int .i64 f.2.2):=by
 induction l with
 | nil=>intro k f h;simp at h
 | cons x l ih =>
  intro k f h;rw[show Uk (x :: l)=Uv x++Uk l from rfl];cases k with
  | zero=>simp only[List.getElem?_cons_zero,Option.some.injEq]at h;subst h;exact⟨rfl,rfl,rfl⟩
  | succ k =>
   have h3:(Uv x).length=3:=rfl;exact Z7
theorem getD_some {α:Type} {l:List α} {j:Nat} {a d:α} (h:l[j]?=some a):l.getD j d=a:=by rw[List.getD_eq_getElem?_getD,h];rfl
theorem VB.data {P:MP} {W0:World} {X0:MS} {nm n r:Nat} {w w':World} {x:MS} (h:VB P W0 X0 nm n n r w x) (hn:0<n∧n≤4) (hr:r<4) (h0:Vo (WN P x w) w x.m0 Us) (h1:ImpsK (WN P x w) w x.m1 twoImps) (h4:GlobsK (WN P x w) w x.m4 UC) (hw:Kept P w w') :
 ∃ m,MadeM m∧WQ (fun k=>k<w'.heap.size) w' ⟨x.m0,x.m1,x.m2,x.m3,x.m4,x.m5,x.m6,.slice none 0 0⟩ m:=by
 obtain⟨fs,hl,hf⟩:=list_of (fun f y=>fncIs w' f y∧fncOk y∧∀ i ∈ y.code,okB i.op i.a i.b i.n i.l=true) x.fs fun f hf=>by
  obtain⟨j,hj,rfl⟩:=List.mem_iff_getElem.1 hf;exact(h.fs.2 j _ (List.getElem?_eq_getElem hj)).data (by have:=h.fs.1;omega) hw
 obtain⟨ds,hd,hdo⟩:=h.ds;obtain⟨_,_,l3⟩:=h.md.lts;obtain⟨s1,s2⟩:=hw.still (x:=x);have ko:∀ g,own3 x g→((P.W.heap.size≤g∧g<w.heap.size)∧g≠P.M∧g≠P.T):=fun g hg=>by
  rcases hg with e|e|e
  ·have:=h.md.fp g e;exact⟨⟨this.1,l3 g (.inl e)⟩,this.2.1,this.2.2.1⟩
  ·have:=h.md.mp g e;exact⟨⟨this.1,l3 g (.inr (.inl e))⟩,this.2.1,this.2.2.1⟩
  ·have:=h.md.ep g e;exact⟨⟨this.1,l3 g (.inr (.inr e))⟩,this.2.1,this.2.2⟩
 have hsz:=hw.keeps.size;have hfl:fs.length=n:=hl.trans h.fs.1;refine⟨⟨Us,twoImps,fs,x.ms,UC,x.es,ds,[]⟩,⟨rfl,rfl,⟨by show 0<fs.length∧fs.length≤4;omega,fun y hy=>?_⟩,⟨by show x.ms.length≤3;rw[h.ms.1];exact h.ms.2.1,h.ms.2.2⟩,rfl,⟨r,hr,?_⟩,?_,rfl,fun y hy=>?_⟩,
  ⟨h0.keep s1 s2,Wd.keep h1 s1 s2 (fun _ _ _ h=>h),?_,?_,Wd.keep h4 s1 s2 (fun _ _ _ h=>h),?_,Vp.keep hd s1 s2,⟨none,0,rfl,nR _,nZ _,fun _=>rfl,fun h=>absurd h (Nat.lt_irrefl 0)⟩⟩⟩
 ·obtain⟨j,hj,rfl⟩:=List.mem_iff_getElem.1 hy;have hjf:j<fs.length:=hj;have hj':j<x.fs.length:=by have:=h.fs.1;omega
  obtain⟨b,hb,_,hok,_⟩:=hf j _ (List.getElem?_eq_getElem hj');rw[List.getElem?_eq_getElem hj]at hb;obtain rfl:=Option.some.inj hb;exact hok
 ·show x.es=mexp x.ms.length++fexp fs.length++_;rw[h.ms.1,hfl];exact h.es
 ·show datsOk x.ms.length ds;rw[h.ms.1];exact hdo
 ·obtain⟨j,hj,rfl⟩:=List.mem_iff_getElem.1 hy;have hjf:j<fs.length:=hj;have hj':j<x.fs.length:=by have:=h.fs.1;omega
  obtain⟨b,hb,_,_,hok⟩:=hf j _ (List.getElem?_eq_getElem hj');rw[List.getElem?_eq_getElem hj]at hb;obtain rfl:=Option.some.inj hb;exact hok
 ·show FunsK _ w' x.m2 fs;unfold FunsK;rw[hl];refine Ua (Wt h.md.fo hw.keeps fun g hg=>ko g (.inl hg)) _ (fun g hg=>WW (l3 g (.inl hg)) hsz) fun j i hj hi=>?_;have hj':x.fs[j]?=some x.fs[j]:=List.getElem?_eq_getElem hj;obtain⟨y,hy,⟨e1,e2,e3⟩,_⟩:=hf j _ hj';obtain⟨f0,f1,f2⟩:=flatFn_at x.fs j _ hj';rw[getD_some hy];rcases(show i=0∨i=1∨i=2 by omega) with rfl|rfl|rfl
  ·exact⟨_,f0,by show _=Value.int .i64 y.ty;rw[e1]⟩
  ·exact⟨_,f1,e2⟩
  ·exact⟨_,f2,e3⟩
 ·refine Ua (Wt h.md.mo hw.keeps fun g hg=>ko g (.inr (.inl hg))) _ (fun g hg=>WW (l3 g (.inr (.inl hg))) hsz) fun j i hj hi=>?_;have hj':x.ms[j]?=some x.ms[j]:=List.getElem?_eq_getElem hj;obtain⟨f0,f1⟩:=flatMm_at x.ms j _ hj';show ∃ u,_∧memCell (x.ms.getD j (0,0)) i u;rw[getD_some hj'];rcases(show i=0∨i=1 by omega) with rfl|rfl
  ·exact⟨_,f0,rfl⟩
  ·exact⟨_,f1,rfl⟩
 ·refine Ua (Wt h.md.eo hw.keeps fun g hg=>ko g (.inr (.inr hg))) _ (fun g hg=>WW (l3 g (.inr (.inr hg))) hsz) fun j i hj hi=>?_;have hj':x.es[j]?=some x.es[j]:=List.getElem?_eq_getElem hj;obtain⟨f0,f1,f2⟩:=flatEx_at x.es j _ hj';show ∃ u,_∧expCell (x.es.getD j (ByteArray.empty,0,0)) i u;rw[getD_some hj'];rcases(show i=0∨i=1∨i=2 by omega) with rfl|rfl|rfl
  ·exact⟨_,f0,rfl⟩
  ·exact⟨_,f1,rfl⟩
  ·exact⟨_,f2,rfl⟩
def fill8 (w:World) (B:Nat) (v:Mv):World:=((((((((w.setCell ⟨B,0,none⟩ v.m0).setCell ⟨B,1,none⟩ v.m1).setCell ⟨B,2,none⟩ v.m2).setCell ⟨B,3,none⟩ v.m3).setCell ⟨B,4,none⟩ v.m4).setCell ⟨B,5,none⟩ v.m5).setCell ⟨B,6,none⟩ v.m6).setCell ⟨B,7,none⟩ v.m7)
theorem WX {w:World} {B:Nat} {T:TypeId} (h:w.heap[B]?=some (.cells Ww T (0,0))) (i:Nat) (hi:i<8):w.frozen? ⟨B,i,none⟩=false∧w.cell? ⟨B,i,none⟩=some (.slice none 0 0):=by
 refine⟨by simp[World.frozen?,h],?_⟩;simp only[World.cell?,h];rcases(show i=0∨i=1∨i=2∨i=3∨i=4∨i=5∨i=6∨i=7 by omega) with rfl|rfl|rfl|rfl|rfl|rfl|rfl|rfl <;> rfl
theorem fill8_at {w:World} {B:Nat} {T:TypeId} (h:w.heap[B]?=some (.cells Ww T (0,0))) (v:Mv):(fill8 w B v).heap[B]?=some (.cells v.cells T (0,0)):=by
 have h0:=Wh w B 0 _ T v.m0 h;have h1:=Wh _ B 1 _ T v.m1 h0;have h2:=Wh _ B 2 _ T v.m2 h1;have h3:=Wh _ B 3 _ T v.m3 h2;have h4:=Wh _ B 4 _ T v.m4 h3;have h5:=Wh _ B 5 _ T v.m5 h4;have h6:=Wh _ B 6 _ T v.m6 h5;have h7:=Wh _ B 7 _ T v.m7 h6;have e:(((((((Ww.setIfInBounds 0 v.m0).setIfInBounds 1 v.m1).setIfInBounds 2 v.m2).setIfInBounds 3 v.m3).setIfInBounds 4 v.m4).setIfInBounds 5 v.m5).setIfInBounds 6 v.m6).setIfInBounds 7 v.m7=v.cells:=by simp[Ww,Mv.cells]
 rw[e]at h7;exact h7
theorem V5 (w:World) (B:Nat) (v:Mv):Wf (fun k=>k≠B) w (fill8 w B v) :=
 (Wf.setCell w (fun e=>e rfl) v.m0).trans ((Wf.setCell _ (fun e=>e rfl) v.m1).trans ((Wf.setCell _ (fun e=>e rfl) v.m2).trans ((Wf.setCell _ (fun e=>e rfl) v.m3).trans ((Wf.setCell _ (fun e=>e rfl) v.m4).trans ((Wf.setCell _ (fun e=>e rfl) v.m5).trans ((Wf.setCell _ (fun e=>e rfl) v.m6).trans (Wf.setCell _ (fun e=>e rfl) v.m7)))))))
theorem Wg.fill8 {K:Nat→Prop} {w:World} {B:Nat} {T:TypeId} (h:w.heap[B]?=some (.cells Ww T (0,0))) (v:Mv) {u:Value} {l:List Int} (hu:Wg K w u l):Wg K (Go.Proofs.YtepgopnnaeoolaaGreatDoor.fill8 w B v) u l:=by
 obtain⟨A,c,rfl,h1,h0,h3⟩:=hu;refine⟨A,c,rfl,h1,h0,fun hl=>?_⟩;obtain⟨g,o,rfl,h4,h5⟩:=h3 hl;refine⟨g,o,rfl,h4,fun j hj=>?_⟩;have e:=h5 j hj;by_cases hg:g=B
 ·subst hg;rcases Nat.lt_or_ge (o+j) 8 with h8|h8
  ·rw[(WX h _ h8).2]at e;cases e
  ·simp only[World.cell?,h]at e;have:Ww[o+j]?=none:=Array.getElem?_eq_none (by show 8≤o+j;omega);rw[if_neg (by simp),this]at e;cases e
 ·exact((V5 w B v).cell (p:=⟨g,o+j,none⟩) hg).trans e
theorem kept_fill8 {P:MP} {w:World} {x:MS} (h:Mk P w x) {B:Nat} {T:TypeId} (hB:B<P.W.heap.size) (hz:P.W.heap[B]?=some (.cells Ww T (0,0))) (v:Mv):Kept P w (fill8 w B v):=by
 have hz':=(h.bel.block B hB).trans hz;have hk:=V5 w B v;exact⟨hk.mono fun k hk'=>by have:=hk'.1.1;omega,fun u l hu=>(hu.fill8 hz' v).keep (.refl _ _) fun k hk'=>WW hk'.1 hk.size⟩
theorem below_fill8 {w0 w:World} {B:Nat} (h:Below w0.heap.size w0 w) (hB:w0.heap.size≤B) (v:Mv):Below w0.heap.size w0 (fill8 w B v) :=
 (((((((h.setCell (by exact hB) _).setCell (by exact hB) _).setCell (by exact hB) _).setCell (by exact hB) _).setCell (by exact hB) _).setCell (by exact hB) _).setCell (by exact hB) _).setCell (by exact hB) _
end Go.Proofs.YtepgopnnaeoolaaGreatDoor
