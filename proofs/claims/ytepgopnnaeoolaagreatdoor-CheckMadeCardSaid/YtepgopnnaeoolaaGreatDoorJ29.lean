/- A part of the proof. -/
import Derived.Test.YtepgopnnaeoolaaGreatDoorJ28
import Derived.ChangeSlices
import Derived.WideShapes
import Derived.Carry
import Derived.OpenShut
import Derived.Lib.Strings
namespace Go.Proofs.YtepgopnnaeoolaaGreatDoor
section
open Go.RowKit
set_option maxHeartbeats 1000000
set_option maxRecDepth 100000
def SpIn (w:World) (v:Value) (l:List Sp):Prop :=
 ∃ A c,v=.slice A l.length c∧l.length≤950000∧(0<l.length→∃ g,A=some ⟨g,0,none⟩∧g<w.heap.size∧∀ j,j<l.length→w.cell? ⟨g,j * 3,none⟩=some (.int .i64 (WO l j).1)∧w.cell? ⟨g,j * 3+1,none⟩=some (.int .i64 (WO l j).2.1)∧w.cell? ⟨g,j * 3+2,none⟩=some (.int .i64 (WO l j).2.2))
theorem SpIn.below {w w':World} {v:Value} {l:List Sp} (h:SpIn w v l) (hb:Below w.heap.size w w'):SpIn w' v l:=by
 obtain⟨A,c,rfl,h1,h2⟩:=h;refine⟨A,c,rfl,h1,fun h0=>?_⟩;obtain⟨g,rfl,hg,hc⟩:=h2 h0;refine⟨g,rfl,WW hg hb.size,fun j hj=>?_⟩;obtain⟨a,b,c⟩:=hc j hj;exact⟨(hb.cell (p:=⟨g,j * 3,none⟩) hg).trans a,(hb.cell (p:=⟨g,j * 3+1,none⟩) hg).trans b,(hb.cell (p:=⟨g,j * 3+2,none⟩) hg).trans c⟩
theorem SpIn.nil (w:World):SpIn w (.slice none 0 0) []:=⟨none,0,rfl,nZ _,fun h=>by simp at h⟩
theorem SpIn.owned {T:TypeId} {w:World} {v:Value} {l:List Sp} (h:w.ownsRow 0 T 3 v l.length (Ut l)) (hl:l.length≤950000):SpIn w v l:=by
 rcases h.2 with ⟨rfl,h0⟩|⟨g,cap,cur,rfl,_⟩
 ·obtain rfl:=List.eq_nil_of_length_eq_zero h0;exact .nil w
 ·refine⟨_,cap,rfl,hl,fun _=>⟨g,rfl,(h.lt g rfl).2,fun j hj=>?_⟩⟩;obtain⟨f1,f2,f3⟩:=flatS_at l j hj;exact⟨by rw[h.cellAt _ (by omega),f1],by rw[h.cellAt _ (by omega),f2],by rw[h.cellAt _ (by omega),f3]⟩
def OfPost (ops:List Int) (w:World) (e:Ending) (w':World):Prop :=
 ∃ v,e=.returned (.tuple #[v,.int .i64 (matchP ops).2])∧SpIn w' v (matchP ops).1∧Below w.heap.size w w'
theorem of_bad {ops:List Int} {n:Int} {w w':World} (h:matchP ops=([],n)) (hb:Below w.heap.size w w'):OfPost ops w (.returned (.tuple #[.slice none 0 0,.int .i64 n])) w' :=
 ⟨_,by rw[h],by rw[h];exact .nil _,hb⟩
theorem of_any (w:World) (A:Option Addr) (n c:Nat) (ops:List Int) (hc:CodeAt w A n ops) (hn:ops.length=n) (hm:n≤950000) (hcn:n≤c) :
 Calls Tryz.prog 39 #[.slice A n c] w (OfPost ops w):=by
 rcases Nat.eq_zero_or_pos n with h0|h0
 ·subst h0;have hp:matchP ops=([],12):=by unfold matchP;rw[if_pos (.inl hn)]
  clear hc hn;have HP:=hD hp;clear hp;go_enter Tryz.func39,Tryz.ntmps39;go_wp2
  go_ret2
  exact of_bad HP.out (.refl _ _)
 ·obtain⟨l,rfl⟩:∃ l,n=l+1:=⟨n - 1,by omega⟩;have hcl:=hc.less (Nat.le_succ l);obtain⟨g,o,rfl,hg,hcell⟩:=hc h0;obtain⟨_,_,_,_,_,_,k0,_⟩:=hcell l (Nat.lt_succ_self l);have HN:=hD hn;have HCL:=hD hcl;clear hc hcell hcl hn;obtain⟨X,hX⟩:∃ X,ops.getD l 0=X:=⟨_,rfl⟩;rw[hX]at k0;have HX:=hD hX;clear hX;by_cases h11:X=11
  case' neg =>
   have hd:(X==11)=false:=by simpa using h11
   have hd2:(X != 11)=true:=by simpa using h11
   have HP:Hid (matchP ops=([],12)):=by
    unfold Hid matchP;rw[if_pos (.inr (by rw[HN.out,Nat.add_sub_cancel,HX.out];exact h11))]
   clear h11;go_enter Tryz.func39,Tryz.ntmps39;go_wp2
   go_ret2
   exact of_bad HP.out (.refl _ _)
  subst h11;have HPA:=hD (pair_any w (some ⟨g,o,none⟩) l c ops HCL.out (by omega));have HM:Hid (matchP ops=match mrun ops 0 l with|none=>(([]:List Sp),(12:Int))|some s=>if s.op≠[] then ([],12) else if 64<s.deep then ([],26) else (s.out,0)):=by
   unfold Hid matchP;rw[if_neg (by rw[HN.out,Nat.add_sub_cancel,HX.out];simp),HN.out,Nat.add_sub_cancel];cases mrun ops 0 l <;> rfl
  go_enter Tryz.func39,Tryz.ntmps39;have hlc:l≤c:=by omega
  go_wp2_with fail
  go_at_call 63;refine HPA.out.mono ?_;intro e w' hp;unfold PairPost at hp;cases hr:mrun ops 0 l with
  | none =>
   rw[hr]at hp;have hm2:=HM.out;rw[hr]at hm2;have HM2:=hD hm2;obtain⟨rfl,hb⟩:=hp;clear hr hm2 HM HPA;go_wp2
   go_ret2
   exact of_bad HM2.out hb
  | some s =>
   rw[hr]at hp;have hm2:=HM.out;rw[hr]at hm2;have hv:=mrun_inv _ _ _ _ hr;have hsl:s.out.length≤950000:=by have:=hv.outl;omega
   obtain⟨v,rfl,ho,hnew,hb⟩:=hp;obtain⟨Av,cv,rfl⟩:=Wc ho;have HO:=hD (SpIn.owned ho hsl);clear hr HM HPA hnew ho hv;simp only at hm2;by_cases h1:s.op.length=0
   ·have h2:s.op=[]:=List.eq_nil_of_length_eq_zero h1;rw[if_neg (by simp[h2])]at hm2;have hd1:decide (s.op.length=0)=true:=by simp[h1]
    rw[hd1];clear h1 h2 hd1;by_cases h3:64<s.deep
    ·rw[if_pos h3]at hm2;have hd3:decide ((64:Int)<(s.deep:Int))=true:=by simp;omega
     have HM2:=hD hm2;clear hm2 h3;go_wp2
     go_ret2
     exact of_bad HM2.out hb
    ·rw[if_neg h3]at hm2;have hd3:decide ((64:Int)<(s.deep:Int))=false:=by simp;omega
     have HM2:=hD hm2;clear hm2 h3;go_wp2
     go_ret2
     exact⟨.slice Av s.out.length cv,by rw[HM2.out];rfl,by rw[HM2.out];exact HO.out,hb⟩
   ·have h2:s.op≠[]:=fun e=>h1 (by rw[e];rfl);rw[if_pos h2]at hm2;have hd1:decide (s.op.length=0)=false:=decide_eq_false h1;rw[hd1];have HM2:=hD hm2;clear h1 h2 hd1 hm2;go_wp2
    go_ret2
    exact of_bad HM2.out hb
end
section
open Go.RowKit
set_option maxRecDepth 100000
theorem ZL {P:Prop}(h:P:=by
 rw[hlen]at h0;have c0:=hcell 0 (by omega);have hspot:a.spot=none:=by
  have e:a.add 0=a:=by unfold Addr.add;simp
  rw[e]at c0;unfold World.cell? at c0
  split at c0
  ·split at c0
   ·cases c0
   ·rename_i h2;simpa using h2
  ·cases c0
 obtain⟨g,o,sp⟩:=a;obtain rfl:sp=none:=hspot;refine⟨g,o,rfl,wL W _ (by rw[Addr.add_lit]at c0;exact c0),fun j hj=>?_⟩;rw[hlen]at hj;have cj:=hcell j (by omega);rw[Addr.add_lit]at cj;rw[cj,List.getD_eq_getElem?_getD,List.getD_eq_getElem?_getD,List.getElem?_take,if_pos hj]):P:=h
theorem Vh.code {w:World} {v:Value} {c:List VV} (h:Vh (fun k=>k<w.heap.size) w v c):∃ A cap,v=.slice A c.length cap∧c.length≤cap∧CodeAt w A c.length (c.map VV.op):=by
 obtain⟨A,cap,rfl,h1,_,_,h3⟩:=h;refine⟨A,cap,rfl,h1,fun hm=>?_⟩;obtain⟨g,o,rfl,hg,hc⟩:=h3 hm;refine⟨g,o,rfl,hg,fun j hj=>?_⟩;have hop:(c.map VV.op).getD j 0=(c.getD j ins0).op:=by
  rw[List.getD_eq_getElem?_getD,List.getD_eq_getElem?_getD,List.getElem?_map,List.getElem?_eq_getElem hj];rfl
 obtain⟨u0,k0,rfl⟩:=hc j 0 hj (by omega);obtain⟨u1,k1,rfl⟩:=hc j 1 hj (by omega);obtain⟨u2,k2,rfl⟩:=hc j 2 hj (by omega);obtain⟨u3,k3,rfl,_⟩:=hc j 3 hj (by omega);obtain⟨u4,k4,h4⟩:=hc j 4 hj (by omega);obtain⟨Al,cl,rfl,_⟩:=Wg.form h4.1;rw[hop];exact⟨_,_,_,Al,_,cl,k0,k1,k2,k3,k4⟩
theorem FunsK.at_ {w:World} {g o m c:Nat} {l:List Fnc} (h:FunsK (fun k=>k<w.heap.size) w (.slice (some ⟨g,o,none⟩) m c) l) (j:Nat) (hj:j<l.length) :
 ∃ (Al:Option Addr) (nl cl:Nat) (Ac:Option Addr) (cc:Nat),w.cell? ⟨g,o+j * 3,none⟩=some (.int .i64 (l.getD j VF).ty)∧w.cell? ⟨g,o+j * 3+1,none⟩=some (.slice Al nl cl)∧w.cell? ⟨g,o+j * 3+2,none⟩=some (.slice Ac (l.getD j VF).code.length cc)∧(l.getD j VF).code.length≤cc∧CodeAt w Ac (l.getD j VF).code.length ((l.getD j VF).code.map VV.op):=by
 obtain⟨u0,k0,rfl⟩:=Wd.at_ h j 0 hj (by omega);obtain⟨u1,k1,h1⟩:=Wd.at_ h j 1 hj (by omega);obtain⟨u2,k2,h2⟩:=Wd.at_ h j 2 hj (by omega);obtain⟨Al,cl,rfl,_⟩:=Wg.form h1;obtain⟨Ac,cc,rfl,hcc,hcd⟩:=Vh.code h2;exact⟨Al,_,cl,Ac,cc,k0,k1,k2,hcc,hcd⟩
open Go.ChangeShapes Go.WideShapes
theorem Tryz.laidOutAll:laidOutB Tryz.prog=true:=by kernel_rfl
theorem Tryz.cells_int:Tryz.prog.cellsOf 3=1:=by kernel_rfl
theorem open_intsK {H:Type} {enc:TypeId×Value→H} {W:World} {r:Reach} {b0:Nat} {v:Value} {d:DataW H} {ps:List MemPlace} (hval:Value.okWide Tryz.prog W r b0 22 v)
 (h:DataW.Trod enc Tryz.prog W 0 (fun _=>true) true 22 v d ps) :
 ∃ l:List Int,Wg (fun k=>k<W.heap.size) W v l∧∀ z ∈ l,(Lit.int .i64 z).wf=true:=by
 obtain⟨a0,len,cap,rfl⟩:=okWide_slice Tryz.underlying22 hval;obtain⟨fuel,hf⟩:=h;rcases open_ints Tryz.underlying22 Tryz.underlying3 Tryz.cells_int hf with ⟨hcs,_⟩|⟨a,len',cap',zs,hcs,_,hl,hm,hz,_,hcell,hwz⟩
 ·simp[Value.cells]at hcs;obtain⟨rfl,rfl,rfl⟩:=hcs;exact⟨[],Wg.nil _ W,by simp⟩
 ·simp[Value.cells]at hcs;obtain⟨rfl,rfl,rfl⟩:=hcs;simp only[if_true]at hz;have hlen:(zs.take len).length=len:=by rw[List.length_take];omega
  refine⟨zs.take len,⟨some a,cap,by rw[hlen],by rw[hlen];omega,(fun h=>by cases h),fun h0=>?_⟩,fun z hzm=>hwz z (List.mem_of_mem_take hzm)⟩;exact ZL
end
section
open Go.RowKit
structure Fr where
 op:Int
 ps:List Int
 rs:List Int
 h:Nat
 dead:Bool
structure Fv where
 op:Int
 pv:Value
 rv:Value
 ps:List Int
 rs:List Int
 h:Nat
 dead:Bool
def Fv.fr (f:Fv):Fr:=⟨f.op,f.ps,f.rs,f.h,f.dead⟩
def Fv.cells (f:Fv):List Value:=[.int .i64 f.op,f.pv,f.rv,.int .i64 (f.h:Int),.bool f.dead]
def V2 (l:List Fv):List Value:=l.flatMap Fv.cells
theorem flatF_snoc (c:List Fv) (i:Fv):V2 (c++[i])=V2 c++i.cells:=by simp[V2]
structure Wx where
 G:Nat
 doc:Bool
 bt:TypeId
 ft:TypeId
 v:Mv
 m:W8
 prof:Int
 lov:Value
 lo:List Int
 rv:Value
 ro:List Int
structure Ws where
 sv:Value
 fv:Value
 s:List Int
 f:List Fv
def wpriv (F:Wx) (x:Ws) (k:Nat):Prop:=k=F.G∨x.sv.ownBlock=some k∨x.fv.ownBlock=some k
def WB (F:Wx) (w:World) (x:Ws) (k:Nat):Prop:=k<w.heap.size∧¬ wpriv F x k
def Wx.psv (F:Wx):Nat:=if F.doc then 11 else 0
def Wx.pfv (F:Wx):Nat:=if F.doc then 12 else 1
def Vj (F:Wx) (x:Ws):Array Value :=
 if F.doc then #[F.v.m0,F.v.m1,F.v.m2,F.v.m3,F.v.m4,F.v.m5,F.v.m6,F.v.m7,.int .i64 F.prof,F.lov,F.rv,x.sv,x.fv]
 else #[x.sv,x.fv,F.v.m0,F.v.m1,F.v.m2,F.v.m3,F.v.m4,F.v.m5,F.v.m6,F.v.m7,.int .i64 F.prof,F.lov,F.rv]
theorem wcells_sv (F:Wx) (x:Ws) (v:Value) (s:List Int):(Vj F x).setIfInBounds F.psv v=Vj F { x with sv:=v,s:=s }:=by
 unfold Vj Wx.psv;cases F.doc <;> rfl
theorem wcells_fv (F:Wx) (x:Ws) (v:Value) (f:List Fv):(Vj F x).setIfInBounds F.pfv v=Vj F { x with fv:=v,f:=f }:=by
 unfold Vj Wx.pfv;cases F.doc <;> rfl
structure WReads (F:Wx) (K:Nat→Prop) (w:World) (fl:List Fv):Prop where
 mod:WQ K w F.v F.m
 loc:Wg K w F.lov F.lo
 own:Wg K w F.rv F.ro
 fr:∀ f ∈ fl,Wg K w f.pv f.ps∧Wg K w f.rv f.rs
theorem WReads.keep {F:Wx} {K K':Nat→Prop} {w w':World} {fl:List Fv} (h:WReads F K w fl) (hk:Wf K w w') (hm:∀ k,K k→K' k):WReads F K' w' fl :=
 ⟨h.mod.keep hk hm,h.loc.keep hk hm,h.own.keep hk hm,fun f hf=>⟨(h.fr f hf).1.keep hk hm,(h.fr f hf).2.keep hk hm⟩⟩
structure Wk (F:Wx) (w:World) (x:Ws):Prop where
 hg:w.heap[F.G]?=some (.cells (Vj F x) F.bt (0,0))
 so:w.ownsRow 0 3 1 x.sv x.s.length (x.s.map (Value.int .i64))
 sp:∀ g,x.sv.ownBlock=some g→g≠F.G∧x.fv.ownBlock≠some g
 fo:w.ownsRow 0 F.ft 5 x.fv x.f.length (V2 x.f)
 fp:∀ g,x.fv.ownBlock=some g→g≠F.G
 reads:WReads F (WB F w x) w x.f
structure WE (F:Wx) (w:World) (x:Ws) (w':World) (x':Ws):Prop where
 keeps:Wf (WB F w x) w w'
 mono:∀ k,WB F w x k→WB F w' x' k
theorem WE.refl (F:Wx) (w:World) (x:Ws):WE F w x w x:=⟨.refl _ _,fun _ h=>h⟩
theorem WE.trans {F:Wx} {a b c:World} {x y z:Ws} (h:WE F a x b y) (k:WE F b y c z):WE F a x c z :=
 ⟨h.keeps.trans (k.keeps.mono h.mono),fun i hi=>k.mono i (h.mono i hi)⟩
theorem WE.ints {F:Wx} {w w':World} {x x':Ws} (h:WE F w x w' x') {v:Value} {l:List Int} (hv:Wg (WB F w x) w v l):Wg (WB F w' x') w' v l:=hv.keep h.keeps h.mono
theorem Wk.below {F:Wx} {w w':World} {x:Ws} (h:Wk F w x) (hb:Below w.heap.size w w'):Wk F w' x∧WE F w x w' x:=by
 have hk:Wf (WB F w x) w w':=.below hb fun k hk=>hk.1;have hm:∀ k,WB F w x k→WB F w' x k:=fun k hk=>⟨WW hk.1 hb.size,hk.2⟩;exact⟨⟨(hb.block _ (Array.getElem?_eq_some_iff.1 h.hg).1).trans h.hg,Vi h.so hb,h.sp,Vi h.fo hb,h.fp,h.reads.keep hk hm⟩,hk,hm⟩
theorem Wk.store {F:Wx} {W w:World} {x x':Ws} (h:Wk F W x) (hk:Wf (fun k=>k<W.heap.size∧x.sv.ownBlock≠some k∧x.fv.ownBlock≠some k) W w) (o:Nat) (u:Value) (hc:(Vj F x).setIfInBounds o u=Vj F x')
 (hs:w.ownsRow 0 3 1 x'.sv x'.s.length (x'.s.map (Value.int .i64))) (hsp:∀ g,x'.sv.ownBlock=some g→g≠F.G∧x'.fv.ownBlock≠some g)
 (hf:w.ownsRow 0 F.ft 5 x'.fv x'.f.length (V2 x'.f)) (hfp:∀ g,x'.fv.ownBlock=some g→g≠F.G)
 (hm:∀ k,wpriv F x' k→wpriv F x k∨W.heap.size≤k) (hr:WReads F (WB F w x') w x'.f):Wk F (w.setCell ⟨F.G,o,none⟩ u) x'∧WE F W x (w.setCell ⟨F.G,o,none⟩ u) x':=by
 have hsz:(w.setCell ⟨F.G,o,none⟩ u).heap.size=w.heap.size:=by simp[World.setCell]
 have hk0:Wf (fun b=>b≠F.G) w (w.setCell ⟨F.G,o,none⟩ u):=.setCell w (fun e=>e rfl) u;have hGW:F.G<W.heap.size:=(Array.getElem?_eq_some_iff.1 h.hg).1;have hg:w.heap[F.G]?=some (.cells (Vj F x) F.bt (0,0)):=(hk.block F.G ⟨hGW,fun e=>(h.sp _ e).1 rfl,fun e=>(h.fp _ e) rfl⟩).trans h.hg;have hK:Wf (WB F W x) W (w.setCell ⟨F.G,o,none⟩ u):=(hk.mono fun b hb=>⟨hb.1,fun e=>hb.2 (.inr (.inl e)),fun e=>hb.2 (.inr (.inr e))⟩).trans ((hk0.mono fun b hb=>fun e=>hb.2 (.inl e)):Wf (WB F W x) _ _);have hM:∀ k,WB F W x k→WB F (w.setCell ⟨F.G,o,none⟩ u) x' k:=fun k hk'=>⟨by rw[hsz];exact WW hk'.1 hk.size,fun hp=>by
  rcases hm k hp with h1|h1
  ·exact hk'.2 h1
  ·exact absurd hk'.1 (Nat.not_lt_of_le h1)⟩
 have hR:∀ k,WB F w x' k→WB F (w.setCell ⟨F.G,o,none⟩ u) x' k:=fun k hk'=>⟨by rw[hsz];exact hk'.1,hk'.2⟩;exact⟨⟨by rw[Wh w F.G o _ _ u hg,hc],Wt hs hk0 fun g hg=>(hsp g hg).1,hsp,Wt hf hk0 fun g hg=>(hfp g hg),hfp,hr.keep (hk0.mono fun b hb e=>hb.2 (.inl e)) hR⟩,hK,hM⟩
theorem wreads_on {F:Wx} {W w:World} {x x':Ws} (hk:Wf (fun k=>k<W.heap.size∧x.sv.ownBlock≠some k∧x.fv.ownBlock≠some k) W w) (hm:∀ k,wpriv F x' k→wpriv F x k∨W.heap.size≤k) :
 Wf (WB F W x) W w∧∀ k,WB F W x k→WB F w x' k :=
 ⟨hk.mono fun b hb=>⟨hb.1,fun e=>hb.2 (.inr (.inl e)),fun e=>hb.2 (.inr (.inr e))⟩,fun k hk'=>⟨WW hk'.1 hk.size,fun hp=>by
  rcases hm k hp with h1|h1
  ·exact hk'.2 h1
  ·exact absurd hk'.1 (Nat.not_lt_of_le h1)⟩⟩
theorem Wk.lts {F:Wx} {w:World} {x:Ws} (h:Wk F w x):F.G<w.heap.size∧(∀ g,x.sv.ownBlock=some g→g<w.heap.size)∧∀ g,x.fv.ownBlock=some g→g<w.heap.size :=
 ⟨(Array.getElem?_eq_some_iff.1 h.hg).1,fun g hg=>(h.so.lt g hg).2,fun g hg=>(h.fo.lt g hg).2⟩
theorem Wk.setS {F:Wx} {W w:World} {x:Ws} (h:Wk F W x) (hk:Wf (fun k=>k<W.heap.size∧x.sv.ownBlock≠some k) W w) (v:Value) (s:List Int) (hown:w.ownsRow 0 3 1 v s.length (s.map (Value.int .i64)))
 (hat:v.ownBlock=x.sv.ownBlock∨∀ g,v.ownBlock=some g→W.heap.size≤g) :
 Wk F (w.setCell ⟨F.G,F.psv,none⟩ v) { x with sv:=v,s:=s }∧WE F W x (w.setCell ⟨F.G,F.psv,none⟩ v) { x with sv:=v,s:=s }:=by
 obtain⟨l1,l3,l4⟩:=h.lts;have hk2:Wf (fun k=>k<W.heap.size∧x.sv.ownBlock≠some k∧x.fv.ownBlock≠some k) W w:=hk.mono fun _ h=>⟨h.1,h.2.1⟩;have hm:∀ k,wpriv F { x with sv:=v,s:=s } k→wpriv F x k∨W.heap.size≤k:=by
  rintro k (e|e|e)
  ·exact .inl (.inl e)
  ·rcases hat with h1|h1
   ·exact .inl (.inr (.inl (h1 ▸ e)))
   ·exact .inr (h1 k e)
  ·exact .inl (.inr (.inr e))
 obtain⟨r1,r2⟩:=wreads_on hk2 hm;refine h.store hk2 F.psv v (wcells_sv F x v s) hown (fun g hg=>?_) (Wt h.fo hk fun g hg=>⟨l4 g hg,fun e=>(h.sp g e).2 hg⟩) h.fp hm (h.reads.keep r1 r2);rcases hat with h1|h1
 ·exact h.sp g (h1 ▸ hg)
 ·have:=h1 g hg;exact⟨by omega,fun e=>by have:=l4 g e;omega⟩
theorem Wk.setF {F:Wx} {W w:World} {x:Ws} (h:Wk F W x) (hk:Wf (fun k=>k<W.heap.size∧x.fv.ownBlock≠some k) W w) (v:Value) (f:List Fv) (hown:w.ownsRow 0 F.ft 5 v f.length (V2 f))
 (hat:v.ownBlock=x.fv.ownBlock∨∀ g,v.ownBlock=some g→W.heap.size≤g) (hfr:∀ a ∈ f,a ∈ x.f∨(Wg (WB F W x) W a.pv a.ps∧Wg (WB F W x) W a.rv a.rs)) :
 Wk F (w.setCell ⟨F.G,F.pfv,none⟩ v) { x with fv:=v,f:=f }∧WE F W x (w.setCell ⟨F.G,F.pfv,none⟩ v) { x with fv:=v,f:=f }:=by
 obtain⟨l1,l3,l4⟩:=h.lts;have hk2:Wf (fun k=>k<W.heap.size∧x.sv.ownBlock≠some k∧x.fv.ownBlock≠some k) W w:=hk.mono fun _ h=>⟨h.1,h.2.2⟩;have hm:∀ k,wpriv F { x with fv:=v,f:=f } k→wpriv F x k∨W.heap.size≤k:=by
  rintro k (e|e|e)
  ·exact .inl (.inl e)
  ·exact .inl (.inr (.inl e))
  ·rcases hat with h1|h1
   ·exact .inl (.inr (.inr (h1 ▸ e)))
   ·exact .inr (h1 k e)
 obtain⟨r1,r2⟩:=wreads_on hk2 hm;refine h.store hk2 F.pfv v (wcells_fv F x v f) (Wt h.so hk fun g hg=>⟨l3 g hg,(h.sp g hg).2⟩) (fun g hg=>⟨(h.sp g hg).1,fun e=>?_⟩) hown (fun g hg=>?_) hm ?_
 ·rcases hat with h1|h1
  ·exact(h.sp g hg).2 (h1 ▸ e)
  ·have:=h1 g e;have:=l3 g hg;omega
 ·rcases hat with h1|h1
  ·exact h.fp g (h1 ▸ hg)
  ·have:=h1 g hg;omega
 ·have hr:=h.reads.keep r1 r2;exact⟨hr.mod,hr.loc,hr.own,fun a ha=>by
   rcases hfr a ha with h1|⟨h1,h2⟩
   ·exact hr.fr a h1
   ·exact⟨h1.keep r1 r2,h2.keep r1 r2⟩⟩
theorem Wk.setC {F:Wx} {w:World} {x:Ws} (h:Wk F w x) {g n c:Nat} (hv:x.fv=.slice (some ⟨g,0,none⟩) n c) (j:Nat) (u:Value) (f:List Fv) (hf:V2 f=(V2 x.f).set j u) (hn:f.length=x.f.length) (hfr:∀ a ∈ f,∃ b ∈ x.f,a.pv=b.pv∧a.rv=b.rv∧a.ps=b.ps∧a.rs=b.rs) :
 Wk F (w.setCell ⟨g,j,none⟩ u) { x with f:=f }∧WE F w x (w.setCell ⟨g,j,none⟩ u) { x with f:=f }:=by
 have hown:x.fv.ownBlock=some g:=by rw[hv];rfl
 have hgG:g≠F.G:=h.fp g hown;have hsz:(w.setCell ⟨g,j,none⟩ u).heap.size=w.heap.size:=by simp[World.setCell]
 have hk0:Wf (fun b=>b≠g) w (w.setCell ⟨g,j,none⟩ u):=.setCell w (fun e=>e rfl) u;have hK:Wf (WB F w x) w (w.setCell ⟨g,j,none⟩ u):=hk0.mono fun b hb e=>hb.2 (.inr (.inr (e ▸ hown)));have hM:∀ k,WB F w x k→WB F (w.setCell ⟨g,j,none⟩ u) { x with f:=f } k:=fun k hk=>⟨by rw[hsz];exact hk.1,hk.2⟩;have hfo:=h.fo;have hn':x.f.length=n:=by
  rcases hfo.2 with ⟨h1,_⟩|⟨_,_,_,h1,_⟩
  ·rw[hv]at h1;cases h1
  ·rw[hv]at h1;simp only[vI]at h1;exact h1.2.1.symm
 rw[hv,hn']at hfo;have hst:=(hfo.stored j u).1;refine⟨⟨(hk0.block _ (fun e=>hgG e.symm)).trans h.hg,Wt h.so hk0 fun a ha e=>(h.sp a ha).2 (e ▸ hown),h.sp,by rw[hn,hn',hf,hv];exact hst,h.fp,?_⟩,hK,hM⟩;have hr:=h.reads.keep hK hM;exact⟨hr.mod,hr.loc,hr.own,fun a ha=>by
  obtain⟨b,hb,e1,e2,e3,e4⟩:=hfr a ha;rw[e1,e2,e3,e4];exact hr.fr b hb⟩
section
variable {F:Wx} {w:World} {x:Ws}
theorem Wk.cell (h:Wk F w x) (o:Nat):w.cell? ⟨F.G,o,none⟩=(Vj F x)[o]?:=by simp[World.cell?,h.hg]
theorem Wk.frozen (h:Wk F w x) (o:Nat):w.frozen? ⟨F.G,o,none⟩=false:=by simp[World.frozen?,h.hg]
theorem Wk.sform (h:Wk F w x):∃ A c,x.sv=.slice A x.s.length c∧x.s.length≤c∧c≤maxLen:=by
 exact ZbA
theorem Wk.scell (h:Wk F w x) (h0:0<x.s.length):∃ g c:Nat,x.sv=.slice (some ⟨g,0,none⟩) x.s.length c∧x.s.length≤c∧c≤maxLen∧g<w.heap.size∧∀ j,j<x.s.length→w.cell? ⟨g,j,none⟩=some (.int .i64 (x.s.getD j 0)):=by
 exact ZW
theorem flatF_at (l:List Fv) (j i:Nat) (hj:j<l.length) (hi:i<5) (f0:Fv):(V2 l)[j * 5+i]?=(l.getD j f0).cells[i]?:=by
 induction l generalizing j with
 | nil=>simp at hj
 | cons a l ih =>
  cases j with
  | zero =>
   simp only[V2,List.flatMap_cons,Nat.zero_mul,Nat.zero_add,List.getD_cons_zero];rw[List.getElem?_append_left (by simp[Fv.cells];omega)]
  | succ j =>
   simp only[V2,List.flatMap_cons,List.getD_cons_succ];rw[List.getElem?_append_right (by simp[Fv.cells];omega)];rw[show(j+1) * 5+i - a.cells.length=j * 5+i by simp[Fv.cells];omega];exact ih j (by simpa using hj)
theorem Wk.fcell (h:Wk F w x) (h0:0<x.f.length):∃ g c:Nat,x.fv=.slice (some ⟨g,0,none⟩) x.f.length c∧x.f.length≤c∧c≤maxLen∧g<w.heap.size∧(∀ o,w.frozen? ⟨g,o,none⟩=false)∧∀ j,j<x.f.length→∀ i,i<5→∀ f0,w.cell? ⟨g,j * 5+i,none⟩=(x.f.getD j f0).cells[i]?:=by
 have hs:=h.fo;obtain⟨g,c,he,h1,h2⟩:∃ g c:Nat,x.fv=.slice (some ⟨g,0,none⟩) x.f.length c∧x.f.length≤c∧c≤maxLen:=by
  rcases hs.2 with ⟨_,h2⟩|⟨g,cap,cur,h1,_,_,h2,h3,_⟩
  ·omega
  ·exact⟨g,cap,h1,h2,h3⟩
 rw[he]at hs;refine⟨g,c,he,h1,h2,(hs.lt g rfl).2,fun o=>hs.frozenAt o,fun j hj i hi f0=>?_⟩;rw[hs.cellAt (j * 5+i) (by omega)];exact flatF_at x.f j i hj hi f0
theorem Wk.new_free (h:Wk F w x) {k:Nat} (hk:w.heap.size≤k):¬ wpriv F x k:=by
 obtain⟨l1,l3,l4⟩:=h.lts;rintro(e|e|e)
 ·omega
 ·have:=l3 k e;omega
 ·have:=l4 k e;omega
theorem Wk.alloc (h:Wk F w x) (o:Obj):Wk F (w.alloc o) x∧WE F w x (w.alloc o) x:=h.below ((bR _ _).alloc (nR _) o)
theorem Wk.drew (h:Wk F w x):Wk F w.drew x∧WE F w x w.drew x:=h.below ((bR _ _).drew)
end
def WPost (F:Wx) (w:World) (x:Ws) (v:Value) (R:Ws→Prop) (e:Ending) (w':World):Prop:=e=.returned v∧∃ x',Wk F w' x'∧WE F w x w' x'∧R x'
end
section
open Go.RowKit
def V9 (s:ByteArray):List Nat:=s.data.toList.map UInt8.toNat
theorem map_toNat_inj:∀ (a b:List UInt8),a.map UInt8.toNat=b.map UInt8.toNat→a=b
 | [],[],_=>rfl
 | [],_ :: _,h=>by cases h
 | _ :: _,[],h=>by cases h
 | x :: a,y :: b,h=>by
  simp only[List.map_cons,List.cons.injEq]at h;rw[UInt8.toNat_inj.1 h.1,map_toNat_inj a b h.2]
theorem nums_beq (s t:ByteArray):(s.toList==t.toList)=decide (V9 s=V9 t):=by
 rw[Lib.toList_data,Lib.toList_data];unfold V9;rw[Bool.eq_iff_iff];simp only[beq_iff_eq,decide_eq_true_eq];exact⟨fun h=>by rw[h],map_toNat_inj _ _⟩
theorem nums_lt (s:ByteArray):∀ x ∈ V9 s,x<256:=by
 intro x hx;obtain⟨b,_,rfl⟩:=List.mem_map.1 hx;exact UInt8.toNat_lt b
theorem nums_length (s:ByteArray):(V9 s).length=s.size:=by
 unfold V9;rw[List.length_map,Lib.size_eq]
theorem nums_ne {s t:ByteArray} (h:V9 s≠V9 t):(s.toList==t.toList)=false:=by rw[nums_beq,decide_eq_false h]
theorem nums_is {s t:ByteArray} (h:V9 s=V9 t):(s.toList==t.toList)=true:=by rw[nums_beq,decide_eq_true h]
end
section
open Go.RowKit
theorem all_yes {α:Type} {p:α→Bool} {l:List α} {d:α} (h:∀ j,j<l.length→p (l.getD j d)=true):l.all p=true:=by
 rw[List.all_eq_true];intro x hx;obtain⟨j,hj,rfl⟩:=List.mem_iff_getElem.1 hx;have:=h j hj
 rwa [List.getD_eq_getElem?_getD,List.getElem?_eq_getElem hj]at this
theorem Uc {α:Type} {p:α→Bool} {l:List α} {d:α} {j:Nat} (hj:j<l.length) (h:p (l.getD j d)=false):l.all p=false:=by
 rw[Bool.eq_false_iff];intro ha;rw[List.all_eq_true]at ha;have:=ha _ (List.getElem_mem hj);rw[List.getD_eq_getElem?_getD,List.getElem?_eq_getElem hj]at h;simp only[Option.getD_some]at h;rw[this]at h;cases h
def Va {α:Type} (p:α→Bool) (l:List α) (d:α) (k:Nat):Prop:=∀ j,j<k→p (l.getD j d)=true
theorem Va.zero {α:Type} (p:α→Bool) (l:List α) (d:α):Va p l d 0:=fun _ h=>absurd h (Nat.not_lt_zero _)
theorem Va.succ {α:Type} {p:α→Bool} {l:List α} {d:α} {k:Nat} (h:Va p l d k) (hk:p (l.getD k d)=true):Va p l d (k+1):=fun j hj=>by
 rcases Nat.lt_or_ge j k with h1|h1
 ·exact h j h1
 ·rw[show j=k by omega];exact hk
theorem Va.done {α:Type} {p:α→Bool} {l:List α} {d:α} (h:Va p l d l.length):l.all p=true:=all_yes h
def UH (t:Int):Bool:=decide (t=127∨t=126∨t=124)
def Uh (l:List Int) (most:Int):Bool:=decide ((l.length:Int)≤most) && l.all UH
def idxB (n:Int):Bool:=inB n 0 2147483647
def strB (s:ByteArray):Bool:=decide (s.size≤64) && decide (0≤cntI (V9 s))
def instB (x:VV):Bool:=insB x.op x.a x.b x.n x.l
def typB (t:List Int×List Int):Bool:=Uh t.1 8 && Uh t.2 8
def impB (i:ByteArray×ByteArray×Int):Bool:=strB i.1 && strB i.2.1 && idxB i.2.2
def codeB (c:List VV):Bool:=decide (c.length≤65536) && c.all instB
def fncB (f:Fnc):Bool:=idxB f.ty && Uh f.loc 256 && codeB f.code
def memB (x:Int×Int):Bool:=decide (0≤x.1) && decide (x.1≤x.2) && decide (x.2≤512)
def globB (g:Int×Bool×Int):Bool:=UH g.1 && !(decide (g.1=127) && decide (4294967295<g.2.2))
def exOneB (e:ByteArray×Int×Int):Bool:=strB e.1 && idxB e.2.2 && decide (e.2.1=0∨e.2.1=2∨e.2.1=3)
def exD:ByteArray×Int×Int:=(ByteArray.empty,0,0)
def exAtB (l:List (ByteArray×Int×Int)) (k:Nat):Bool:=exOneB (l.getD k exD) && (List.range k).all fun j=>decide (V9 (l.getD j exD).1≠V9 (l.getD k exD).1)
def exsB (l:List (ByteArray×Int×Int)):Bool:=(List.range l.length).all (exAtB l)
def datB (d:Dat):Bool:=(if d.act then inB d.mem 0 3 && inB d.pos 0 2147483647 else inB d.mem 0 0 && inB d.pos 0 0) && decide (d.bytes.length≤1048576)
def cusB (c:ByteArray×List Nat):Bool:=strB c.1 && decide (c.2.length≤1048576)
def fitsB (m:W8):Bool :=
 decide (m.types.length≤64) && decide (m.imps.length+m.funs.length≤256) && decide (m.mems.length≤4) && decide (m.globs.length≤256) && decide (m.datas.length≤16) && decide (m.exps.length≤256) && decide (m.cus.length≤16)
def partsB (m:W8):Bool:=m.types.all typB && m.imps.all impB && m.funs.all fncB && m.mems.all memB && m.globs.all globB && exsB m.exps && m.datas.all datB && m.cus.all cusB
def Vf (m:W8):Int:=if fitsB m then if partsB m then 0 else 12 else 13
theorem range_yes {p:Nat→Bool} {n:Nat} (h:∀ j,j<n→p j=true):(List.range n).all p=true:=by
 rw[List.all_eq_true];intro x hx;exact h x (List.mem_range.1 hx)
theorem range_no {p:Nat→Bool} {n j:Nat} (hj:j<n) (h:p j=false):(List.range n).all p=false:=by
 rw[Bool.eq_false_iff];intro ha;rw[List.all_eq_true]at ha;rw[ha j (List.mem_range.2 hj)]at h;cases h
end
section
open Go.RowKit
set_option maxHeartbeats 1000000
set_option maxRecDepth 100000
theorem list_eq {α:Type} {a b:List α} {d:α} (hl:a.length=b.length) (h:∀ j,j<a.length→a.getD j d=b.getD j d):a=b:=by
 apply List.ext_getElem hl
 intro j h1 h2;have h3:=h j h1
 rwa [List.getD_eq_getElem?_getD,List.getD_eq_getElem?_getD,List.getElem?_eq_getElem h1,List.getElem?_eq_getElem h2]at h3
def EqTo {α:Type} (a b:List α) (d:α) (k:Nat):Prop:=∀ j,j<k→a.getD j d=b.getD j d
theorem EqTo.zero {α:Type} (a b:List α) (d:α):EqTo a b d 0:=fun _ h=>absurd h (Nat.not_lt_zero _)
theorem EqTo.succ {α:Type} {a b:List α} {d:α} {k:Nat} (h:EqTo a b d k) (hk:a.getD k d=b.getD k d):EqTo a b d (k+1):=fun j hj=>by
 rcases Nat.lt_or_ge j k with h1|h1
 ·exact h j h1
 ·rw[show j=k by omega];exact hk
theorem EqTo.done {α:Type} {a b:List α} {d:α} (hl:a.length=b.length) (h:EqTo a b d a.length):a=b:=list_eq hl h
theorem ne_at {α:Type} {a b:List α} {d:α} {j:Nat} (h:a.getD j d≠b.getD j d):a≠b:=fun e=>h (e ▸ rfl)
theorem ne_len {α:Type} {a b:List α} (h:a.length≠b.length):a≠b:=fun e=>h (e ▸ rfl)
def typeB (m:W8) (k:Int):Option (List Int×List Int):=if 0≤k∧k<m.types.length then some (m.types.getD k.toNat ([],[])) else none
def WL (m:W8) (a:Int):Option (List Int×List Int) :=
 if a = -1 then some ([],[]) else if a = -2 then some ([],[127]) else if a = -3 then some ([],[126]) else if a = -4 then some ([],[124]) else typeB m a
def WT (m:W8) (f:Int):Option (List Int×List Int) :=
 if f<0∨(m.imps.length:Int)+m.funs.length≤f then none
 else if f<m.imps.length then typeB m (m.imps.getD f.toNat (ByteArray.empty,ByteArray.empty,0)).2.2
 else typeB m (m.funs.getD (f - m.imps.length).toNat VF).ty
def locB (m:W8) (f:Int):List Int :=
 match WT m f with
 | none=>[]
 | some t=>if f<m.imps.length then [] else t.1++(m.funs.getD (f - m.imps.length).toNat VF).loc
def TypPost (K:Nat→Prop) (t:Option (List Int×List Int)) (w:World) (e:Ending) (w':World):Prop :=
 ∃ p r:Value,e=.returned (.tuple #[.agg #[p,r],.bool t.isSome])∧Wg (fun k=>K k∨(w.heap.size≤k∧k<w'.heap.size)) w' p (t.getD ([],[])).1∧Wg (fun k=>K k∨(w.heap.size≤k∧k<w'.heap.size)) w' r (t.getD ([],[])).2∧Below w.heap.size w w'
theorem equal_is (K:Nat→Prop) (w:World) (v1 v2:Value) (q1 q2:List Int) (h1:Wg K w v1 q1) (h2:Wg K w v2 q2):Calls Tryz.prog 99 #[v1,v2] w (Wo (decide (q1=q2)) w):=by
 obtain⟨A1,c1,hv1,hm1,_⟩:=h1.form;obtain⟨A2,c2,hv2,_,_⟩:=h2.form;unfold maxLen at hm1;rw[hv1]at h1 ⊢;rw[hv2]at h2 ⊢;have H1:=hD h1;have H2:=hD h2;clear h1 h2 hv1 hv2;generalize hQ1:q1.length=n at *;generalize hQ2:q2.length=m at *;have HQ1:=hD hQ1;have HQ2:=hD hQ2;clear hQ1 hQ2;by_cases hnm:n=m
 ·subst hnm;go_enter Tryz.func99,Tryz.ntmps99;go_wp2_with fail
  go_loopw [13] (fun i wr=>∃ k a:Nat,k≤n∧i=.int .i64 (k:Int)∧wr=w.drewN a∧Hid (EqTo q1 q2 0 k)) (fun i _=>n - (intOf i).toNat)
  case atStart=>exact⟨0,0,nZ _,rfl,rfl,hD (EqTo.zero _ _ _)⟩
  case round =>
   obtain⟨k,a,hk,rfl,rfl,HE⟩:=hrel;by_cases hlt:k<n
   ·have hkn:(0:Int)≤k:=Int.natCast_nonneg _;have hd:decide ((k:Int)<(n:Int))=true:=by simp;omega
    obtain⟨g1,o1,c3,he,_,_⟩:=H1.out.some_ (by rw[HQ1.out];omega);simp only[vI]at he;obtain⟨rfl,-,-⟩:=he;obtain⟨g2,o2,c4,he,_,_⟩:=H2.out.some_ (by rw[HQ2.out];omega);simp only[vI]at he;obtain⟨rfl,-,-⟩:=he;have k1:=H1.out.at_ k hlt;have k2:=H2.out.at_ k hlt;have HY:=hD (fun (h:q1.getD k 0=q2.getD k 0)=>HE.out.succ h);have HN:=hD (fun (h:q1.getD k 0≠q2.getD k 0)=>ne_at h);generalize q1.getD k 0=y at k1 HY HN;generalize q2.getD k 0=z at k2 HY HN;go_wp2_with fail
    go_quiet (fail)
    by_cases hyz:y=z
    ·have hd2:(y != z)=false:=by simpa using hyz
     have HY2:=hD (HY.out hyz);clear HY HN hyz;go_wp2;go_roundw
     case rel=>exact⟨k+1,_,by omega,by go_num,rfl,HY2⟩
     case measure=>simp[intOf];omega
    ·have hd2:(y != z)=true:=by simpa using hyz
     have HN2:=hD (HN.out hyz);clear HY HN hyz;go_wp2;go_ret;exact⟨WM (by rw[decide_eq_false HN2.out]),Wj (Wj (bR _ _) _) _⟩
   ·have hd:decide ((k:Int)<(n:Int))=false:=by simp;omega
    have HD:=hD (EqTo.done (d:=(0:Int)) (HQ1.out.trans HQ2.out.symm) (show EqTo q1 q2 0 q1.length by rw[HQ1.out,show n=k by omega];exact HE.out));go_wp2;go_ret;exact⟨WM (by rw[decide_eq_true HD.out]),Wj (bR _ _) _⟩
 ·have hd:((n:Int) != (m:Int))=true:=by simp;omega
  have HN:Hid (q1≠q2):=hD (ne_len (by rw[HQ1.out,HQ2.out];exact hnm));go_enter Tryz.func99,Tryz.ntmps99;go_wp2;go_ret;exact⟨WM (by rw[decide_eq_false HN.out]),bR _ _⟩
end
end Go.Proofs.YtepgopnnaeoolaaGreatDoor
