/- A part of the proof. -/
import Derived.Test.YtmfpnfdinoofpaaGreatDoorJ27
import Derived.Test.YtmfpnfdinoofpaaGreatDoorJ26
namespace Go.Proofs.YtmfpnfdinoofpaaGreatDoor
section
open Go.RowKit
set_option maxHeartbeats 4000000
set_option maxRecDepth 100000
def DLabB (b:Bool) (w:World) (e:Ending) (w':World):Prop:=∃ A n c,e=.returned (.tuple #[.slice A n c,.bool b])∧Below w.heap.size w w'
theorem dlabel_there {F:Wx} {w:World} {x:Ws} (hF:F.ref) (h:Wk F w x) (n:Nat) (hn:n<x.f.length) :
 Calls Tryz.prog 133 #[.pointer (some ⟨F.G,0,none⟩),.int .i64 (n:Int)] w (DLabB true w):=by
 obtain⟨g,c,hfv,h1,h2,h3,_,hc⟩:=h.fcell (by omega);obtain⟨k,hk⟩:∃ k,x.f.length - 1 - n=k:=⟨_,rfl⟩;have hkl:k<x.f.length:=by omega
 have t:=fun i hi=>hc k hkl i hi fv0;obtain⟨y,hy⟩:∃ y,x.f.getD k fv0=y:=⟨_,rfl⟩;have hym:y ∈ x.f:=by rw[← hy,List.getD_eq_getElem?_getD,List.getElem?_eq_getElem hkl];exact List.getElem_mem _
 rw[hy]at t;have hpv:=(h.reads.fr _ hym).1;have hrv:=(h.reads.fr _ hym).2;obtain⟨Ap,cp,ep,_⟩:=hpv.form;obtain⟨Ar,cr,er,_⟩:=hrv.form;have t0:w.cell? ⟨g,k * 5,none⟩=some (.int .i64 y.op):=t 0 (by decide);have t1:w.cell? ⟨g,k * 5+1,none⟩=some (.slice Ap y.ps.length cp):=(t 1 (by decide)).trans (by rw[← ep];rfl);have t2:w.cell? ⟨g,k * 5+2,none⟩=some (.slice Ar y.rs.length cr):=(t 2 (by decide)).trans (by rw[← er];rfl);have t3:w.cell? ⟨g,k * 5+3,none⟩=some (.int .i64 (y.h:Int)):=t 3 (by decide);have t4:w.cell? ⟨g,k * 5+4,none⟩=some (.bool y.dead):=t 4 (by decide);have HTC:Hid (∀ wz,Below w.heap.size w wz→wz.cell? ⟨g,k * 5,none⟩=some (.int .i64 y.op)∧wz.cell? ⟨g,k * 5+1,none⟩=some (.slice Ap y.ps.length cp)∧wz.cell? ⟨g,k * 5+2,none⟩=some (.slice Ar y.rs.length cr)∧wz.cell? ⟨g,k * 5+3,none⟩=some (.int .i64 (y.h:Int))∧wz.cell? ⟨g,k * 5+4,none⟩=some (.bool y.dead)):=hD fun wz hz =>
  ⟨(hz.cell (p:=⟨g,k * 5,none⟩) h3).trans t0,(hz.cell (p:=⟨g,k * 5+1,none⟩) h3).trans t1,(hz.cell (p:=⟨g,k * 5+2,none⟩) h3).trans t2,(hz.cell (p:=⟨g,k * 5+3,none⟩) h3).trans t3,(hz.cell (p:=⟨g,k * 5+4,none⟩) h3).trans t4⟩
 have p12:=h.d12 hF;rw[hfv]at p12;have hG:=h.lts.1;have HP1:Hid (∀ wz,Below w.heap.size w wz→wz.cell? ⟨F.G,12,none⟩=some (.slice (some ⟨g,0,none⟩) x.f.length c)):=hD fun wz hz=>(hz.cell (p:=⟨F.G,12,none⟩) hG).trans p12;unfold maxLen at h2;clear t t0 t1 t2 t3 t4 hc hpv hrv ep er hym hy h hfv;generalize x.f.length=m at *;have e1:IntKind.i64.wrap ((m:Int) - 1)=(m:Int) - 1:=IntWalk.i64_in _ (by omega);have e2:IntKind.i64.wrap ((m:Int) - 1 - (n:Int))=(k:Int):=by rw[show(m:Int) - 1 - (n:Int)=(k:Int) by omega];exact IntWalk.i64_in _ (by omega)
 have d1:decide ((n:Int)<0)=false:=by simp
 have d2:decide (m≤n)=false:=by simp;omega
 clear hk hn;go_enter Tryz.func133,Tryz.ntmps133
 go_upto_region 3 with (fail)
 refine Wm.start (S:=fun wz=>Below w.heap.size w wz) (X:=15) (by kernel_rfl) ?_;show Wm _ _ _ _ _ _ 16 #[false,false,false,false,false,false,false,false,false,false,false,false,false,false,false,false] _ _;have hS:=(bR w.heap.size w).drew;generalize w.drew=w1 at hS ⊢;refine Wm.tk 0 18 rfl hS ?_;refine Wm.tk 1 19 rfl hS ?_;refine Wm.tk 2 20 rfl hS ?_;refine Wm.tk 3 21 rfl hS ?_ (hy:=by intro w' hSw;have p1:=HP1.out _ hSw;go_simp;try with_reducible rfl);refine Wm.tk 4 22 rfl hS ?_;refine Wm.tk 5 23 rfl hS ?_;refine Wm.tk 6 24 rfl hS ?_;refine Wm.tk 7 25 rfl hS ?_ (hy:=by intro w' hSw;have p1:=HP1.out _ hSw;go_simp;try with_reducible rfl);refine Wm.tk 8 26 rfl hS ?_;refine Wm.tk 9 27 rfl hS ?_;refine Wm.tk 10 28 rfl hS ?_;refine Wm.tk 11 29 rfl hS ?_;refine Wm.tk 12 30 rfl hS ?_;refine Wm.tk 13 31 rfl hS ?_ (hy:=by intro w' hSw;obtain⟨t0,t1,t2,t3,t4⟩:=HTC.out _ hSw;go_simp;try with_reducible rfl);refine Wm.om 14 6 rfl fun K hK=>?_;go_simp;refine hK.out _ _ (.inr (hS.alloc hS.size _)) ?_;clear hK K;try simp only[sA,List.set]
 refine Wm.on 15 rfl fun K hK=>?_;go_simp;refine hK.out _ _ (.inl rfl) ?_;clear hK K;refine Wm.done (by kernel_rfl) ?_ _;have hbl:Below w.heap.size w (w1.alloc (.cells #[.int .i64 y.op,.slice Ap y.ps.length cp,.slice Ar y.rs.length cr,.int .i64 (y.h:Int),.bool y.dead] 122)):=hS.alloc hS.size _;have HBL:=hD hbl;clear hbl hS;by_cases h3:y.op=3
 ·have d3:(y.op==3)=true:=by simpa using h3
  clear h3;go_wp2
  go_ret2
  exact⟨Ap,_,cp,rfl,HBL.out⟩
 ·have d3:(y.op==3)=false:=by simpa using h3
  clear h3;go_wp2
  go_ret2
  exact⟨Ar,_,cr,rfl,HBL.out⟩
theorem dlabel_far {F:Wx} {w:World} {x:Ws} (hF:F.ref) (h:Wk F w x) (n:Int) (hn:Wi n x.f.length=false) :
 Calls Tryz.prog 133 #[.pointer (some ⟨F.G,0,none⟩),.int .i64 n] w (DLabB false w):=by
 have p12:=h.d12 hF;obtain⟨Af,cf,hfv⟩:=Wy h.fo;rw[hfv]at p12;generalize x.f.length=m at *;clear h hfv;by_cases h0:n<0
 ·have d0:decide (n<0)=true:=by simpa using h0
  go_enter Tryz.func133,Tryz.ntmps133;go_wp2
  go_ret2
  exact⟨none,0,0,rfl,bR _ _⟩
 ·obtain⟨k,rfl⟩:∃ k:Nat,n=k:=⟨n.toNat,by omega⟩;have hk:m≤k:=by unfold Wi at hn;simp at hn;omega
  have d0:decide ((k:Int)<0)=false:=by simp
  have d1:decide (m≤k)=true:=by simpa using hk
  clear h0 hn;go_enter Tryz.func133,Tryz.ntmps133;go_wp2
  go_ret2
  exact⟨none,0,0,rfl,bR _ _⟩
theorem dlabel_b {F:Wx} {w:World} {x:Ws} (hF:F.ref) (h:Wk F w x) (n:Int) :
 Calls Tryz.prog 133 #[.pointer (some ⟨F.G,0,none⟩),.int .i64 n] w (DLabB (Wi n x.f.length) w):=by
 cases hw:Wi n x.f.length with
 | false=>exact dlabel_far hF h n hw
 | true =>
  have h1:0≤n∧n<x.f.length:=by unfold Wi at hw;simpa using hw
  obtain⟨k,rfl⟩:∃ k:Nat,n=k:=⟨n.toNat,by omega⟩;exact dlabel_there hF h k (by omega)
end
section
open Go.RowKit
set_option maxHeartbeats 4000000
set_option maxRecDepth 100000
theorem Zb8 {P:Prop}(h:P:=by
 have HB:=hD hb;clear hb;go_wp2
 go_ret2
 exact⟨_,_,rfl,ints_new3 _ HB.out _ _ _,.nil _ _,HB.out.alloc HB.out.size _⟩):P:=h
def EffPost (F:Wx) (w:World) (x:Ws) (q:List Int×List Int) (e:Ending) (w':World):Prop :=
 ∃ p r:Value,e=.returned (.tuple #[p,r])∧Wk F w' x∧Wz F w x w' x∧Wf (Wq F w' x) w' p q.1∧Wf (Wq F w' x) w' r q.2
theorem Uv.eff {F:Wx} {w w':World} {x:Ws} {q:List Int×List Int} {e:Ending} (h:Wk F w x) (hp:Uv q w e w'):EffPost F w x q e w':=by
 obtain⟨p,r,he,h1,h2,hb⟩:=hp;exact⟨p,r,he,(h.below hb).1,(h.below hb).2,h.new_ints h1,h.new_ints h2⟩
theorem ints_new3 (w:World) {W:World} (hb:Below w.heap.size w W) (a b c:Int):Wf (fun k=>w.heap.size≤k∧k<(W.alloc (.cells #[.int .i64 a,.int .i64 b,.int .i64 c] 3)).heap.size) (W.alloc (.cells #[.int .i64 a,.int .i64 b,.int .i64 c] 3)) (.slice (some ⟨W.heap.size,0,none⟩) 3 3) [a,b,c] :=
 ⟨_,3,rfl,by unfold maxLen;simp,(fun e=>by cases e),fun _=>⟨W.heap.size,0,rfl,⟨hb.size,by rw[Wj];omega⟩,fun j hj=>by
  have hj2:j<3:=hj;rw[wN]
  match j,hj2 with
  | 0,_=>rfl
  | 1,_=>rfl
  | 2,_=>rfl⟩⟩
theorem effect_63 (P:Value) (w:World) (a b n:Int) (Al:Option Addr) (nl cl:Nat) :
 Calls Tryz.prog 130 #[P,.agg #[.int .i64 63,.int .i64 a,.int .i64 b,.int .u64 n,.slice Al nl cl]] w (Uv ([],[127]) w):=by
 have hb:=(bR w.heap.size w).alloc (nR _) (.cells #[.int .i64 63,.int .i64 a,.int .i64 b,.int .u64 n,.slice Al nl cl] 25);have k0:(w.alloc (.cells #[.int .i64 63,.int .i64 a,.int .i64 b,.int .u64 n,.slice Al nl cl] 25)).cell? ⟨w.heap.size,0,none⟩=some (.int .i64 63):=by rw[wN];rfl
 go_enter Tryz.func130,Tryz.ntmps130
 go_upto_region 1 with (fail)
 generalize w.alloc (.cells #[.int .i64 63,.int .i64 a,.int .i64 b,.int .u64 n,.slice Al nl cl] 25)=W at *;have HB:=hD hb;clear hb;go_wp2
 go_ret2
 exact⟨_,_,rfl,.nil _ _,WH _ HB.out _,HB.out.alloc HB.out.size _⟩
theorem effect_64 (P:Value) (w:World) (a b n:Int) (Al:Option Addr) (nl cl:Nat) :
 Calls Tryz.prog 130 #[P,.agg #[.int .i64 64,.int .i64 a,.int .i64 b,.int .u64 n,.slice Al nl cl]] w (Uv ([127],[127]) w):=by
 have hb:=(bR w.heap.size w).alloc (nR _) (.cells #[.int .i64 64,.int .i64 a,.int .i64 b,.int .u64 n,.slice Al nl cl] 25);have k0:(w.alloc (.cells #[.int .i64 64,.int .i64 a,.int .i64 b,.int .u64 n,.slice Al nl cl] 25)).cell? ⟨w.heap.size,0,none⟩=some (.int .i64 64):=by rw[wN];rfl
 go_enter Tryz.func130,Tryz.ntmps130
 go_upto_region 1 with (fail)
 generalize w.alloc (.cells #[.int .i64 64,.int .i64 a,.int .i64 b,.int .u64 n,.slice Al nl cl] 25)=W at *;have HB:=hD hb;clear hb;go_wp2
 go_ret2
 have hb3:=HB.out;have hb4:=hb3.alloc hb3.size (.cells #[.int .i64 127] 3);have h1:=WH w hb3 127;refine⟨_,_,rfl,h1.keep (We.below ((bR _ _).alloc (nR _) _) fun k hk=>hk.2) fun k hk=>⟨hk.1,by rw[Wj];have:=hk.2;omega⟩,?_,hb4.alloc hb4.size _⟩;have h2:=WH w hb4 127;rw[show(W.alloc (.cells #[.int .i64 127] 3)).heap.size=W.heap.size+1 from Wj _ _]at h2;exact h2
theorem effect_64520 (P:Value) (w:World) (a b n:Int) (Al:Option Addr) (nl cl:Nat) :
 Calls Tryz.prog 130 #[P,.agg #[.int .i64 64520,.int .i64 a,.int .i64 b,.int .u64 n,.slice Al nl cl]] w (Uv ([127,127,127],[]) w):=by
 have hb:=(bR w.heap.size w).alloc (nR _) (.cells #[.int .i64 64520,.int .i64 a,.int .i64 b,.int .u64 n,.slice Al nl cl] 25);have k0:(w.alloc (.cells #[.int .i64 64520,.int .i64 a,.int .i64 b,.int .u64 n,.slice Al nl cl] 25)).cell? ⟨w.heap.size,0,none⟩=some (.int .i64 64520):=by rw[wN];rfl
 go_enter Tryz.func130,Tryz.ntmps130
 go_upto_region 1 with (fail)
 generalize w.alloc (.cells #[.int .i64 64520,.int .i64 a,.int .i64 b,.int .u64 n,.slice Al nl cl] 25)=W at *;exact Zb8
theorem effect_64522 (P:Value) (w:World) (a b n:Int) (Al:Option Addr) (nl cl:Nat) :
 Calls Tryz.prog 130 #[P,.agg #[.int .i64 64522,.int .i64 a,.int .i64 b,.int .u64 n,.slice Al nl cl]] w (Uv ([127,127,127],[]) w):=by
 have hb:=(bR w.heap.size w).alloc (nR _) (.cells #[.int .i64 64522,.int .i64 a,.int .i64 b,.int .u64 n,.slice Al nl cl] 25);have k0:(w.alloc (.cells #[.int .i64 64522,.int .i64 a,.int .i64 b,.int .u64 n,.slice Al nl cl] 25)).cell? ⟨w.heap.size,0,none⟩=some (.int .i64 64522):=by rw[wN];rfl
 go_enter Tryz.func130,Tryz.ntmps130
 go_upto_region 1 with (fail)
 generalize w.alloc (.cells #[.int .i64 64522,.int .i64 a,.int .i64 b,.int .u64 n,.slice Al nl cl] 25)=W at *;exact Zb8
theorem effect_64523 (P:Value) (w:World) (a b n:Int) (Al:Option Addr) (nl cl:Nat) :
 Calls Tryz.prog 130 #[P,.agg #[.int .i64 64523,.int .i64 a,.int .i64 b,.int .u64 n,.slice Al nl cl]] w (Uv ([127,127,127],[]) w):=by
 have hb:=(bR w.heap.size w).alloc (nR _) (.cells #[.int .i64 64523,.int .i64 a,.int .i64 b,.int .u64 n,.slice Al nl cl] 25);have k0:(w.alloc (.cells #[.int .i64 64523,.int .i64 a,.int .i64 b,.int .u64 n,.slice Al nl cl] 25)).cell? ⟨w.heap.size,0,none⟩=some (.int .i64 64523):=by rw[wN];rfl
 go_enter Tryz.func130,Tryz.ntmps130
 go_upto_region 1 with (fail)
 generalize w.alloc (.cells #[.int .i64 64523,.int .i64 a,.int .i64 b,.int .u64 n,.slice Al nl cl] 25)=W at *;exact Zb8
theorem follow_eff {F:Wx} {w:World} {x:Ws} (hF:F.prg) (h:Wk F w x) (h0:0<x.f.length) (hs:x.s.length≤900000) (hh:x.top.h≤x.s.length) (op a b n:Int) (l:List Int) (hog:restG op) (Al:Option Addr) (nl cl:Nat) (hql:(Vi F.env x.pl ⟨op,a,b,n,l⟩).1.length≤100000∧(Vi F.env x.pl ⟨op,a,b,n,l⟩).2.length≤100000) (hE:∀ w1,Wk F w1 x→Calls Tryz.prog 130 #[.pointer (some ⟨F.G,0,none⟩),.agg #[.int .i64 op,.int .i64 a,.int .i64 b,.int .u64 n,.slice Al nl cl]] w1 (EffPost F w1 x (Vi F.env x.pl ⟨op,a,b,n,l⟩))) :
 Calls Tryz.prog 84 #[.pointer (some ⟨F.G,0,none⟩),.agg #[.int .i64 op,.int .i64 a,.int .i64 b,.int .u64 n,.slice Al nl cl]] w (Vy F w x (Wu F.env x.pl ⟨op,a,b,n,l⟩)):=by
 rw[restG_is _ _ ⟨op,a,b,n,l⟩ hog];have HEF:=hD hE;clear hE;obtain⟨g0,g1,g2,g3,g4,g5,g6,g7,g8,g9,g10,g11,g12⟩:=hog;have e0:(op==2)=false:=by simpa using g0
 have e1:(op==3)=false:=by simpa using g1
 have e2:(op==4)=false:=by simpa using g2
 have e3:(op==5)=false:=by simpa using g3
 have e4:(op==11)=false:=by simpa using g4
 have e5:(op==0)=false:=by simpa using g5
 have e6:(op==12)=false:=by simpa using g6
 have e7:(op==14)=false:=by simpa using g7
 have e8:(op==15)=false:=by simpa using g8
 have e9:(op==18)=false:=by simpa using g9
 have e10:(op==26)=false:=by simpa using g10
 have e11:(op==27)=false:=by simpa using g11
 have e12:(op==36)=false:=by simpa using g12
 clear g0 g1 g2 g3 g4 g5 g6 g7 g8 g9 g10 g11 g12;generalize Vi F.env x.pl ⟨op,a,b,n,l⟩=q at HEF hql ⊢;obtain⟨W,hW⟩:∃ W,W=w.alloc (.cells #[.int .i64 op,.int .i64 a,.int .i64 b,.int .u64 n,.slice Al nl cl] 25):=⟨_,rfl⟩;have hk:∀ j:Nat,W.cell? ⟨w.heap.size,j,none⟩=(#[.int .i64 op,.int .i64 a,.int .i64 b,.int .u64 n,.slice Al nl cl]:Array Value)[j]?:=fun j=>by rw[hW,wN]
 have k0:=hk 0;have k1:=hk 1;have k2:=hk 2;have k3:=hk 3;have k4:=hk 4;simp only[List.getElem?_toArray,List.getElem?_cons_zero,List.getElem?_cons_succ]at k0 k1 k2 k3 k4;have HG1:=hD (hW ▸ h.alloc (.cells #[.int .i64 op,.int .i64 a,.int .i64 b,.int .u64 n,.slice Al nl cl] 25):Wk F W x∧Wz F w x W x);have HW:=hD hW;have HF:=hD hF;have HQL:=hD hql;have HH:=hD (⟨h0,hs,hh⟩:0<x.f.length∧x.s.length≤900000∧x.top.h≤x.s.length);clear hk hW h hF hql h0 hs hh;cases hR:Vm x.top.h x.top.dead x.s q.1 with
 | false =>
  rw[take_no hR];have HTK:Hid (∀ w2 v,Wk F w2 x→Wf (Wq F w2 x) w2 v q.1→Calls Tryz.prog 129 #[.pointer (some ⟨F.G,0,none⟩),v] w2 (WPost F w2 x (.bool false) fun _=>True)):=hD fun w2 v g2 hq=>(UQ HF.out g2 HH.out.1 (by have:=HH.out.2.1;omega) v q.1 hq (by have:=HQL.out.1;omega) HH.out.2.2).mono fun e w' ⟨h1,x',h2,h3,h4⟩=>by
   rw[hR]at h1;exact⟨h1,x',h2,h3,trivial⟩
  clear hR;go_enter Tryz.func84,Tryz.ntmps84
  go_upto_region 1 with (fail)
  rw[← HW.out];go_wp2_with (first|(go_at_call 130;refine(HEF.out _ HG1.out.1).mono ?_;rintro e w2 ⟨p,r,rfl,g2,s2,hp,hr⟩;have HG2:=hD (And.intro g2 s2);have HP:=hD hp;clear g2 s2 hp hr)|(go_at_call 129;refine(HTK.out _ _ HG2.out.1 HP.out).mono ?_;rintro e w3 ⟨rfl,x3,g3,s3,-⟩;have HG3:=hD g3;have HS3:=hD s3;clear g3 s3))
  exact Zdh
 | true =>
  rw[U9 hR];have HTK:Hid (∀ w2 v,Wk F w2 x→Wf (Wq F w2 x) w2 v q.1→Calls Tryz.prog 129 #[.pointer (some ⟨F.G,0,none⟩),v] w2 (WPost F w2 x (.bool true) fun x'=>x'.f=x.f∧x'.s=x.s.take (max (x.s.length - q.1.length) x.top.h))):=hD fun w2 v g2 hq=>(UQ HF.out g2 HH.out.1 (by have:=HH.out.2.1;omega) v q.1 hq (by have:=HQL.out.1;omega) HH.out.2.2).mono fun e w' ⟨h1,x',h2,h3,h4⟩=>by
   rw[hR]at h1;exact⟨h1,x',h2,h3,h4.1,h4.2 hR⟩
  clear hR;go_enter Tryz.func84,Tryz.ntmps84
  go_upto_region 1 with (fail)
  rw[← HW.out];go_wp2_with (first|(go_at_call 130;refine(HEF.out _ HG1.out.1).mono ?_;rintro e w2 ⟨p,r,rfl,g2,s2,hp,hr⟩;have HG2:=hD (And.intro g2 s2);have HP:=hD hp;have HR:=hD hr;clear g2 s2 hp hr)|(go_at_call 129;refine(HTK.out _ _ HG2.out.1 HP.out).mono ?_;rintro e w3 ⟨rfl,x3,g3,s3,hf3,hs3⟩;have HG3:=hD g3;have HS3:=hD s3;have HF3:=hD hf3;have HX3:=hD hs3;clear g3 s3 hf3 hs3)|(go_at_call 112;refine(give_any HF.out HG3.out _ q.2 (HS3.out.ints HR.out) (by rw[HX3.out,List.length_take];have:=HH.out.2.1;have:=HQL.out.2;omega)).mono ?_;rintro e w4 ⟨rfl,x4,g4,s4,hf4,hs4⟩;have HG4:=hD g4;have HS4:=hD s4;have HF4:=hD hf4;have HX4:=hD hs4;clear g4 s4 hf4 hs4))
  exact Zci
end
section
open Go.RowKit
set_option maxHeartbeats 4000000
set_option maxRecDepth 100000
theorem Zb5 {P:Prop}(h:P:=by
 clear hbw hW q0 q1 q2 q3 q4 q5 q6 q7 hn0 hn1 hn2 hn3 hn4 hn5 hn6 hn7;go_enter Tryz.func73,Tryz.ntmps73
 go_upto_region 1 with (fail)
 rw[← HW.out];obtain⟨b0,b1,b2,b3,b4,b5,b6,b7⟩:=HB8.out W (bR _ _);go_wp2;go_ret;exact⟨rfl,HBW.out⟩):P:=h
theorem chkin_any (n:Int) (l:Nat) (w:World):Calls Tryz.prog 72 #[.int .i64 n,.int .i64 (l:Int)] w fun e w'=>e=.returned (.bool (Wi n l))∧w=w':=by
 unfold Wi;by_cases h1:0≤n
 ·have d1:decide ((0:Int)≤n)=true:=decide_eq_true h1;cases h2:decide (n<(l:Int)) <;>
  ·rw[d1];go_enter Tryz.func72,Tryz.ntmps72;go_wp2;go_ret;exact⟨rfl,rfl⟩
 ·have d1:decide ((0:Int)≤n)=false:=decide_eq_false h1;rw[d1];go_enter Tryz.func72,Tryz.ntmps72;go_wp2;go_ret;exact⟨rfl,rfl⟩
theorem ccount_any (w:World) (v:Mv) (m:Vt) (kind:Int) (h:W7 (fun k=>k<w.heap.size) w v m) (hs:Vq m):Calls Tryz.prog 73 #[.agg v.cells,.int .i64 kind] w (fun e w'=>e=.returned (.int .i64 (countC m kind:Int))∧Below w.heap.size w w'):=by
 have q0:=h.types;have q1:=h.imps;have q2:=h.funs;have q3:=h.mems;have q4:=h.globs;have q5:=h.exps;have q6:=h.datas;have q7:=h.cus;obtain⟨A0,c0,A1,c1,A2,c2,A3,c3,A4,c4,A5,c5,A6,c6,A7,c7,rfl⟩:=Wr h;simp only[Mv.cells]at ⊢;simp only at q0 q1 q2 q3 q4 q5 q6 q7;clear h;obtain⟨⟨n0,hn0⟩,⟨n1,hn1⟩,⟨n2,hn2⟩,⟨n3,hn3⟩,⟨n4,hn4⟩,⟨n5,hn5⟩,⟨n6,hn6⟩,⟨n7,hn7⟩⟩:=len8 m;have HN0:=hD hn0;have HN1:=hD hn1;have HN2:=hD hn2;have HN3:=hD hn3;have HN4:=hD hn4;have HN5:=hD hn5;have HN6:=hD hn6;have HN7:=hD hn7;have hs1:=hs.2.1;have hs2:=hs.2.2.1;clear hs;rw[hn1]at hs1;rw[hn2]at hs2;rw[hn0]at q0 ⊢;rw[hn1]at q1 ⊢;rw[hn2]at q2 ⊢;rw[hn3]at q3 ⊢;rw[hn4]at q4 ⊢;rw[hn5]at q5 ⊢;rw[hn6]at q6 ⊢;rw[hn7]at q7 ⊢;obtain⟨W,hW,hbw,HB8⟩:=Vv w (.slice A0 n0 c0) (.slice A1 n1 c1) (.slice A2 n2 c2) (.slice A3 n3 c3) (.slice A4 n4 c4) (.slice A5 n5 c5) (.slice A6 n6 c6) (.slice A7 n7 c7);have HBW:=hD hbw;have HB8:=hD HB8;have HW:=hD hW;have HKC:Hid (countC m kind=if kind=0 then n1+n2 else if kind=2 then n3 else n4):=hD (by unfold countC;rw[HN1.out,HN2.out,HN3.out,HN4.out]);rw[HKC.out];clear HKC;have e1:IntKind.i64.wrap ((n1:Int)+(n2:Int))=(n1:Int)+(n2:Int):=IntWalk.i64_in _ (by omega);by_cases k0:kind=0
 ·subst k0;rw[if_pos rfl];clear hs1 hs2;clear hbw hW q0 q1 q2 q3 q4 q5 q6 q7 hn0 hn1 hn2 hn3 hn4 hn5 hn6 hn7;go_enter Tryz.func73,Tryz.ntmps73
  go_upto_region 1 with (fail)
  rw[← HW.out];obtain⟨b0,b1,b2,b3,b4,b5,b6,b7⟩:=HB8.out W (bR _ _);go_wp2;go_ret;exact⟨Vd (by omega),HBW.out⟩
 by_cases k2:kind=2
 ·subst k2;rw[if_neg (by decide),if_pos rfl];clear hs1 hs2 e1;exact Zb5
 have d0:(kind==0)=false:=by simpa using k0
 have d2:(kind==2)=false:=by simpa using k2
 rw[if_neg k0,if_neg k2];clear hs1 hs2 e1 k0 k2;exact Zb5
end
section
open Go.RowKit
set_option maxHeartbeats 4000000
set_option maxRecDepth 100000
theorem Zc3 {P:Prop}(h:P:=by
 go_ret;exact⟨x3,HG3.out,HG1.out.2.trans HS3.out,rfl,HP3.out⟩):P:=h
theorem follow_5 {F:Wx} {w:World} {x:Ws} (hF:F.prg) (h:Wk F w x) (h0:0<x.f.length) (hs:x.s.length≤900000) (hrl:x.top.rs.length≤100000) (hpl:x.top.ps.length≤100000) (hfl:x.f.length≤900000) (hh:x.top.h≤x.s.length) (a b n:Int) (l:List Int) (Al:Option Addr) (nl cl:Nat) :
 Calls Tryz.prog 84 #[.pointer (some ⟨F.G,0,none⟩),.agg #[.int .i64 5,.int .i64 a,.int .i64 b,.int .u64 n,.slice Al nl cl]] w (Vy F w x (Wu F.env x.pl ⟨5,a,b,n,l⟩)):=by
 rw[show Wu F.env x.pl ⟨5,a,b,n,l⟩=divideC x.pl by unfold Wu;simp];obtain⟨W,hW⟩:∃ W,W=w.alloc (.cells #[.int .i64 5,.int .i64 a,.int .i64 b,.int .u64 n,.slice Al nl cl] 25):=⟨_,rfl⟩;have k0:W.cell? ⟨w.heap.size,0,none⟩=some (.int .i64 5):=by rw[hW,wN];rfl
 have HG1:=hD (hW ▸ h.alloc (.cells #[.int .i64 5,.int .i64 a,.int .i64 b,.int .u64 n,.slice Al nl cl] 25):Wk F W x∧Wz F w x W x);have HW:=hD hW;have HT:=hD (divide_any hF HG1.out.1 h0 hs hrl hpl hfl hh);clear hW h;generalize divideC x.pl=r at HT ⊢;go_enter Tryz.func84,Tryz.ntmps84
 go_upto_region 1 with (fail)
 rw[← HW.out];go_wp2_with (go_at_call 121;refine HT.out.mono ?_;rintro e w3 ⟨x3,g3,s3,rfl,hp3⟩;have HG3:=hD g3;have HS3:=hD s3;have HP3:=hD hp3;clear g3 s3 hp3)
 exact Zc3
theorem follow_27 {F:Wx} {w:World} {x:Ws} (hF:F.prg) (h:Wk F w x) (h0:0<x.f.length) (hs:x.s.length≤900000) (hh:x.top.h≤x.s.length) (a b n:Int) (l:List Int) (Al:Option Addr) (nl cl:Nat) :
 Calls Tryz.prog 84 #[.pointer (some ⟨F.G,0,none⟩),.agg #[.int .i64 27,.int .i64 a,.int .i64 b,.int .u64 n,.slice Al nl cl]] w (Vy F w x (Wu F.env x.pl ⟨27,a,b,n,l⟩)):=by
 rw[show Wu F.env x.pl ⟨27,a,b,n,l⟩=Uu x.pl by unfold Wu;simp];obtain⟨W,hW⟩:∃ W,W=w.alloc (.cells #[.int .i64 27,.int .i64 a,.int .i64 b,.int .u64 n,.slice Al nl cl] 25):=⟨_,rfl⟩;have k0:W.cell? ⟨w.heap.size,0,none⟩=some (.int .i64 27):=by rw[hW,wN];rfl
 have HG1:=hD (hW ▸ h.alloc (.cells #[.int .i64 27,.int .i64 a,.int .i64 b,.int .u64 n,.slice Al nl cl] 25):Wk F W x∧Wz F w x W x);have HW:=hD hW;have HT:=hD (choose_any hF HG1.out.1 h0 hs hh);clear hW h;generalize Uu x.pl=r at HT ⊢;go_enter Tryz.func84,Tryz.ntmps84
 go_upto_region 1 with (fail)
 rw[← HW.out];go_wp2_with (go_at_call 128;refine HT.out.mono ?_;rintro e w3 ⟨x3,g3,s3,rfl,hp3⟩;have HG3:=hD g3;have HS3:=hD s3;have HP3:=hD hp3;clear g3 s3 hp3)
 exact Zc3
end
section
open Go.RowKit
set_option maxHeartbeats 4000000
set_option maxRecDepth 100000
theorem leave_fol {F:Wx} {w:World} {x:Ws} (hF:F.prg) (h:Wk F w x) (h0:0<x.f.length) (hs:x.s.length≤1000000) (tv:Value) (q:List Int) (hq:Wf (Wq F w x) w tv q) (hql:q.length≤1000000) (hh:x.top.h≤x.s.length) :
 Calls Tryz.prog 123 #[.pointer (some ⟨F.G,0,none⟩),tv] w (Vy F w x (Vo x.pl q)) :=
 (wleave_any hF h h0 hs tv q hq hql hh).mono fun e w' ⟨h1,x',h2,h3,h4⟩=>by
  cases hR:Vm x.top.h x.top.dead x.s q with
  | false =>
   rw[hR]at h1;exact⟨x',h2,h3,by rw[h1,leave_no hR];rfl,fun p hp=>by rw[leave_no hR]at hp;cases hp⟩
  | true =>
   rw[hR]at h1;obtain⟨e1,e2⟩:=h4 hR;refine⟨x',h2,h3,by rw[h1,leave_yes hR];rfl,fun p hp=>?_⟩;rw[leave_yes hR]at hp;obtain rfl:=Option.some.inj hp;unfold Ws.pl;rw[e1,e2]
theorem follow_15 {F:Wx} {w:World} {x:Ws} (hF:F.prg) (h:Wk F w x) (h0:0<x.f.length) (hs:x.s.length≤900000) (hh:x.top.h≤x.s.length) (hro:F.ro.length≤1000000) (a:Int) (b n:Int) (l:List Int) (Al:Option Addr) (nl cl:Nat) :
 Calls Tryz.prog 84 #[.pointer (some ⟨F.G,0,none⟩),.agg #[.int .i64 15,.int .i64 a,.int .i64 b,.int .u64 n,.slice Al nl cl]] w (Vy F w x (Wu F.env x.pl ⟨15,a,b,n,l⟩)):=by
 rw[show Wu F.env x.pl ⟨15,a,b,n,l⟩=Vo x.pl F.ro by unfold Wu;simp[Wx.env]];obtain⟨W,hW⟩:∃ W,W=w.alloc (.cells #[.int .i64 15,.int .i64 a,.int .i64 b,.int .u64 n,.slice Al nl cl] 25):=⟨_,rfl⟩;have k0:W.cell? ⟨w.heap.size,0,none⟩=some (.int .i64 15):=by rw[hW,wN];rfl
 have k1:W.cell? ⟨w.heap.size,1,none⟩=some (.int .i64 a):=by rw[hW,wN];rfl
 have HG1:=hD (hW ▸ h.alloc (.cells #[.int .i64 15,.int .i64 a,.int .i64 b,.int .u64 n,.slice Al nl cl] 25):Wk F W x∧Wz F w x W x);have HNP:=hD (h.new_free (nR _));have HW:=hD hW;have HF:=hD hF;have HH:=hD (⟨h0,hs,hh⟩:0<x.f.length∧x.s.length≤900000∧x.top.h≤x.s.length);clear hW h hF h0 hs hh;have hrv:=HG1.out.1.reads.own;obtain⟨Ar,cr,er,_⟩:=hrv.form;have HER:=hD er;have HRV:=hD hrv;have hq12:=(HG1.out.1.q HF.out).2.2.2.2.2;rw[er]at hq12;have HQ:=hD hq12;have HLV:=hD (fun w2 (g2:Wk F w2 x)=>leave_fol HF.out g2 HH.out.1 (by have:=HH.out.2.1;omega) F.rv F.ro g2.reads.own hro HH.out.2.2);rw[er]at HLV;clear hrv er hq12;generalize Vo x.pl F.ro=r at HLV ⊢;go_enter Tryz.func84,Tryz.ntmps84
 go_upto_region 1 with (fail)
 rw[← HW.out]
 go_upto_region 17 with (fail)
 refine wp_region_held_drew (S:=fun wz=>wz.cell? ⟨F.G,12,none⟩=some (.slice Ar F.ro.length cr)) (by kernel_rfl) HQ.out (fun hS=>?_);show wpAnyH _ _ _ _ _ 9 #[false,false,false,false,false,false,false,false,false] _ _;refine mT 0 55 rfl hS ?_;refine mT 1 56 rfl hS ?_;refine mT 2 57 rfl hS ?_;refine mT 3 58 rfl hS ?_;refine mT 4 59 rfl hS ?_;refine mT 5 60 rfl hS ?_;refine mT 6 61 rfl hS ?_;have hg3:=HG1.out.1.below ((bR W.heap.size W).drew);have HS3:=hD (HG1.out.2.trans hg3.2);have HLW:=hD (HLV.out _ hg3.1);clear hg3;refine mR 7 62 rfl fun K hK=>?_;go_simp;go_at_call 123;refine HLW.out.mono ?_;rintro e w5 ⟨x5,g5,s5,rfl,hp5⟩;go_wp2_with fail
 have hS5:w5.cell? ⟨F.G,12,none⟩=some (.slice Ar F.ro.length cr):=by rw[(g5.q HF.out).2.2.2.2.2,HER.out]
 refine hK.out _ _ hS5 (fun _=>?_);clear hK K hS;try simp only[sA,List.set]
 refine mT 8 4 rfl hS5 ?_;refine wpAnyH_done (by kernel_rfl) ?_ _;have HG5:=hD g5;have HS5:=hD s5;have HP5:=hD hp5;clear g5 s5 hp5 hS5;go_wp2;go_ret;exact⟨x5,HG5.out,HS3.out.trans HS5.out,rfl,HP5.out⟩
theorem follow_12 {F:Wx} {w:World} {x:Ws} (hF:F.prg) (h:Wk F w x) (h0:0<x.f.length) (hs:x.s.length≤900000) (hh:x.top.h≤x.s.length) (k:Nat) (hk:k<x.f.length) (a:Int) (ha:a=(k:Int)) (hll:(Ww x.pl k).length≤1000000) (b n:Int) (l:List Int) (Al:Option Addr) (nl cl:Nat) :
 Calls Tryz.prog 84 #[.pointer (some ⟨F.G,0,none⟩),.agg #[.int .i64 12,.int .i64 a,.int .i64 b,.int .u64 n,.slice Al nl cl]] w (Vy F w x (Wu F.env x.pl ⟨12,a,b,n,l⟩)):=by
 rw[show Wu F.env x.pl ⟨12,a,b,n,l⟩=Vo x.pl (Ww x.pl a.toNat) by unfold Wu;simp];obtain⟨W,hW⟩:∃ W,W=w.alloc (.cells #[.int .i64 12,.int .i64 a,.int .i64 b,.int .u64 n,.slice Al nl cl] 25):=⟨_,rfl⟩;have k0:W.cell? ⟨w.heap.size,0,none⟩=some (.int .i64 12):=by rw[hW,wN];rfl
 have k1:W.cell? ⟨w.heap.size,1,none⟩=some (.int .i64 a):=by rw[hW,wN];rfl
 have HG1:=hD (hW ▸ h.alloc (.cells #[.int .i64 12,.int .i64 a,.int .i64 b,.int .u64 n,.slice Al nl cl] 25):Wk F W x∧Wz F w x W x);have HNP:=hD (h.new_free (nR _));have HW:=hD hW;have HF:=hD hF;have HH:=hD (⟨h0,hs,hh⟩:0<x.f.length∧x.s.length≤900000∧x.top.h≤x.s.length);clear hW h hF h0 hs hh;subst ha;rw[show((k:Int).toNat)=k from rfl];have hS0:W.drew.cell? ⟨w.heap.size,1,none⟩=some (.int .i64 (k:Int)):=k1;have HS0:=hD hS0;have hlt:w.heap.size<W.drew.heap.size:=wL _ _ hS0;have hg3:=HG1.out.1.below ((bR W.heap.size W).drew);have HG3:=hD hg3;have HLB:=hD (label_any HF.out hg3.1 k hk);have HLV:=hD (fun w2 (g2:Wk F w2 x) v hv=>leave_fol HF.out g2 HH.out.1 (by have:=HH.out.2.1;omega) v (Ww x.pl k) hv hll HH.out.2.2);have HLT:=hD hlt;clear hg3 hlt hS0;generalize Ww x.pl k=q at HLB HLV hll ⊢;generalize Vo x.pl q=r at HLV ⊢;go_enter Tryz.func84,Tryz.ntmps84
 go_upto_region 1 with (fail)
 rw[← HW.out]
 go_upto_region 13 with (fail)
 refine wp_region_held_drew (S:=fun wz=>wz.cell? ⟨w.heap.size,1,none⟩=some (.int .i64 (k:Int))) (by kernel_rfl) HS0.out (fun hS=>?_);show wpAnyH _ _ _ _ _ 11 #[false,false,false,false,false,false,false,false,false,false,false] _ _;refine mT 0 37 rfl hS ?_;refine mT 1 38 rfl hS ?_;refine mT 2 39 rfl hS ?_;refine mT 3 40 rfl hS ?_;refine mT 4 41 rfl hS ?_;refine mT 5 42 rfl hS ?_;refine mT 6 43 rfl hS ?_;refine mT 7 44 rfl hS ?_;refine mR 8 45 rfl fun K hK=>?_;go_simp;go_at_call 124;refine HLB.out.mono ?_;rintro e w4 ⟨A4,c4,rfl,g4,s4,hv4⟩;go_wp2_with fail
 have hS4:w4.cell? ⟨w.heap.size,1,none⟩=some (.int .i64 (k:Int)):=(s4.keeps.cell (p:=⟨w.heap.size,1,none⟩) ⟨HLT.out,HNP.out⟩).trans HS0.out;have hlt4:w.heap.size<w4.heap.size:=wL _ _ hS4;refine hK.out _ _ hS4 (fun _=>?_);clear hK K hS;try simp only[sA,List.set]
 have HLW:=hD (HLV.out w4 g4 _ hv4);have HS4:=hD ((HG1.out.2.trans HG3.out.2).trans s4);clear g4 s4 hv4;refine mR 9 46 rfl fun K hK=>?_;go_simp;go_at_call 123;refine HLW.out.mono ?_;rintro e w5 ⟨x5,g5,s5,rfl,hp5⟩;go_wp2_with fail
 have hS5:w5.cell? ⟨w.heap.size,1,none⟩=some (.int .i64 (k:Int)):=(s5.keeps.cell (p:=⟨w.heap.size,1,none⟩) ⟨hlt4,HNP.out⟩).trans hS4;refine hK.out _ _ hS5 (fun _=>?_);clear hK K hS4;try simp only[sA,List.set]
 refine mT 10 4 rfl hS5 ?_;refine wpAnyH_done (by kernel_rfl) ?_ _;have HG5:=hD g5;have HS5:=hD s5;have HP5:=hD hp5;clear g5 s5 hp5 hS5;go_wp2;go_ret;exact⟨x5,HG5.out,HS4.out.trans HS5.out,rfl,HP5.out⟩
end
section
open Go.RowKit
set_option maxHeartbeats 4000000
set_option maxRecDepth 100000
theorem exists_14 {F:Wx} {w:World} {x:Ws} (hF:F.prg) (h:Wk F w x) (a b n:Int) (l:List Int) (Al:Option Addr) (nl cl:Nat) (hl:Wf (Wq F w x) w (.slice Al nl cl) l) :
 Calls Tryz.prog 83 #[.pointer (some ⟨F.G,0,none⟩),.agg #[.int .i64 14,.int .i64 a,.int .i64 b,.int .u64 n,.slice Al nl cl]] w (Wh (Wo F.env x.pl ⟨14,a,b,n,l⟩) w):=by
 rw[show Wo F.env x.pl ⟨14,a,b,n,l⟩=(l.all (fun n=>Wi n x.f.length) && decide (0<l.length)) by unfold Wo Ws.pl Wx.env;simp];obtain⟨k0,k1,k2,k4,⟨A1,c1,p1⟩,⟨A5,c5,p5⟩,⟨A6,c6,p6⟩,⟨A8,c8,p8⟩,⟨A11,c11,p11⟩⟩:=h.exi hF ⟨14,a,b,n,l⟩ Al nl cl;have hb:=(bR w.heap.size w).alloc (nR _) (.cells #[.int .i64 14,.int .i64 a,.int .i64 b,.int .u64 n,.slice Al nl cl] 25);simp only at k0 k1 k2 k4 p1 p5 p6 p8 p11 hb;have HLX:=hD (fun wz (hz:Below w.heap.size w wz)=>labels_any hF (h.below hz).1 _ _ l ((h.below hz).2.ints hl));generalize x.f.length=nf at *;generalize F.m.mems.length=nm at *;generalize F.m.globs.length=ng at *;generalize F.m.datas.length=nd at *;generalize F.lo.length=no at *;generalize (l.all (fun n=>Wi n nf) && decide (0<l.length))=r at HLX ⊢;clear h hF hl;go_enter Tryz.func83,Tryz.ntmps83
 go_upto_region 1 with (fail)
 generalize w.alloc (.cells #[.int .i64 14,.int .i64 a,.int .i64 b,.int .u64 n,.slice Al nl cl] 25)=W at *;have HB:=hD hb;clear hb;go_quiet (fail)
 have HBD:=hD (Wa HB.out (Wt (bR W.heap.size W) nq));go_wp2_with (go_at_call 118;refine(HLX.out _ HBD.out).mono ?_;rintro e w2 ⟨rfl,hb2⟩;have HB2:=hD hb2;clear hb2)
 go_ret;exact⟨rfl,Wa HBD.out HB2.out⟩
end
section
open Go.RowKit
set_option maxHeartbeats 4000000
set_option maxRecDepth 100000
theorem Zcx {P:Prop}(h:P:=by
 refine wpAnyH_done (by kernel_rfl) ?_ _;have HS1:=hD hS;clear hS hS';go_wp2
 go_ret2
 have hb1:=Wa HB.out HS1.out;exact⟨_,_,rfl,.nil _ _,WH _ hb1 _,hb1.alloc hb1.size _⟩):P:=h
theorem effect_32 {F:Wx} {w:World} {x:Ws} (hF:F.prg) (h:Wk F w x) (k:Nat) (hk:k<F.lo.length) (a b n:Int) (ha:a=(k:Int)) (Al:Option Addr) (nl cl:Nat) :
 Calls Tryz.prog 130 #[.pointer (some ⟨F.G,0,none⟩),.agg #[.int .i64 32,.int .i64 a,.int .i64 b,.int .u64 n,.slice Al nl cl]] w (Uv ([],[F.lo.getD k 0]) w):=by
 subst ha;obtain⟨W,hW⟩:∃ W,W=w.alloc (.cells #[.int .i64 32,.int .i64 (k:Int),.int .i64 b,.int .u64 n,.slice Al nl cl] 25):=⟨_,rfl⟩;have k0:W.cell? ⟨w.heap.size,0,none⟩=some (.int .i64 32):=by rw[hW,wN];rfl
 have k1:W.cell? ⟨w.heap.size,1,none⟩=some (.int .i64 (k:Int)):=by rw[hW,wN];rfl
 have hb:Below w.heap.size w W:=hW ▸ (bR _ _).alloc (nR _) _;have hg:=(h.below hb).1;obtain⟨gl,ol,cl2,hlv,hml,_⟩:=hg.reads.loc.some_ (by omega);have hlo:=hg.reads.loc;rw[hlv]at hlo;have c1:=hlo.at_ k hk;have p1:=(hg.q hF).2.2.2.2.1;rw[hlv]at p1;generalize F.lo.getD k 0=t at c1 ⊢;have HK1:=hD (fun wz (hz:Below W.heap.size W wz)=>(hz.cell (wL W _ k1)).trans k1);have HLO:=hD (fun wz (hz:Below W.heap.size W wz)=>(hz.cell (wL W _ p1)).trans p1);have HCE:=hD (fun wz (hz:Below W.heap.size W wz)=>(hz.cell (wL W _ c1)).trans c1);have HW:=hD hW;have HB:=hD hb;clear hW hb hg hlv hlo k1 p1 c1 h hF;generalize F.lo.length=m at *;go_enter Tryz.func130,Tryz.ntmps130
 go_upto_region 1 with (fail)
 rw[← HW.out]
 go_upto_region 9 with (fail)
 refine wp_region_held_drew (S:=fun wz=>Below W.heap.size W wz) (by kernel_rfl) ((bR _ _).drew) (fun hS=>?_);show wpAnyH _ _ _ _ _ 11 #[false,false,false,false,false,false,false,false,false,false,false] _ _;generalize W.drew=w1 at hS ⊢;refine mT 0 42 rfl hS ?_;refine mT 1 43 rfl hS ?_;refine mT 2 44 rfl hS ?_;refine mT 3 45 rfl hS ?_ (hy:=by intro wS hSw;have p1:=HLO.out _ hSw;go_simp;try with_reducible rfl);refine mT 4 46 rfl hS ?_;refine mT 5 47 rfl hS ?_ (hy:=by intro wS hSw;have k1:=HK1.out _ hSw;go_simp;try with_reducible rfl);refine mT 6 48 rfl hS ?_;refine mT 7 49 rfl hS ?_ (hy:=by intro wS hSw;have c1:=HCE.out _ hSw;go_simp;try with_reducible rfl);refine mT 9 4 rfl hS ?_;refine mR 8 50 rfl fun K hK=>?_;go_simp;refine hK.out _ _ (hS.alloc hS.size _) (fun hS'=>?_);clear hK K;try simp only[sA,List.set]
 refine mT 10 5 rfl hS' ?_;exact Zcx
theorem effect_33 {F:Wx} {w:World} {x:Ws} (hF:F.prg) (h:Wk F w x) (k:Nat) (hk:k<F.lo.length) (a b n:Int) (ha:a=(k:Int)) (Al:Option Addr) (nl cl:Nat) :
 Calls Tryz.prog 130 #[.pointer (some ⟨F.G,0,none⟩),.agg #[.int .i64 33,.int .i64 a,.int .i64 b,.int .u64 n,.slice Al nl cl]] w (Uv ([F.lo.getD k 0],[]) w):=by
 subst ha;obtain⟨W,hW⟩:∃ W,W=w.alloc (.cells #[.int .i64 33,.int .i64 (k:Int),.int .i64 b,.int .u64 n,.slice Al nl cl] 25):=⟨_,rfl⟩;have k0:W.cell? ⟨w.heap.size,0,none⟩=some (.int .i64 33):=by rw[hW,wN];rfl
 have k1:W.cell? ⟨w.heap.size,1,none⟩=some (.int .i64 (k:Int)):=by rw[hW,wN];rfl
 have hb:Below w.heap.size w W:=hW ▸ (bR _ _).alloc (nR _) _;have hg:=(h.below hb).1;obtain⟨gl,ol,cl2,hlv,hml,_⟩:=hg.reads.loc.some_ (by omega);have hlo:=hg.reads.loc;rw[hlv]at hlo;have c1:=hlo.at_ k hk;have p1:=(hg.q hF).2.2.2.2.1;rw[hlv]at p1;generalize F.lo.getD k 0=t at c1 ⊢;have HK1:=hD (fun wz (hz:Below W.heap.size W wz)=>(hz.cell (wL W _ k1)).trans k1);have HLO:=hD (fun wz (hz:Below W.heap.size W wz)=>(hz.cell (wL W _ p1)).trans p1);have HCE:=hD (fun wz (hz:Below W.heap.size W wz)=>(hz.cell (wL W _ c1)).trans c1);have HW:=hD hW;have HB:=hD hb;clear hW hb hg hlv hlo k1 p1 c1 h hF;generalize F.lo.length=m at *;go_enter Tryz.func130,Tryz.ntmps130
 go_upto_region 1 with (fail)
 rw[← HW.out]
 go_upto_region 11 with (fail)
 refine wp_region_held_drew (S:=fun wz=>Below W.heap.size W wz) (by kernel_rfl) ((bR _ _).drew) (fun hS=>?_);show wpAnyH _ _ _ _ _ 11 #[false,false,false,false,false,false,false,false,false,false,false] _ _;generalize W.drew=w1 at hS ⊢;refine mT 0 53 rfl hS ?_;refine mT 1 54 rfl hS ?_;refine mT 2 55 rfl hS ?_;refine mT 3 56 rfl hS ?_ (hy:=by intro wS hSw;have p1:=HLO.out _ hSw;go_simp;try with_reducible rfl);refine mT 4 57 rfl hS ?_;refine mT 5 58 rfl hS ?_ (hy:=by intro wS hSw;have k1:=HK1.out _ hSw;go_simp;try with_reducible rfl);refine mT 6 59 rfl hS ?_;refine mT 7 60 rfl hS ?_ (hy:=by intro wS hSw;have c1:=HCE.out _ hSw;go_simp;try with_reducible rfl);refine mR 8 61 rfl fun K hK=>?_;go_simp;refine hK.out _ _ (hS.alloc hS.size _) (fun hS'=>?_);clear hK K;try simp only[sA,List.set]
 refine mT 9 4 rfl hS' ?_;refine mT 10 5 rfl hS' ?_;refine wpAnyH_done (by kernel_rfl) ?_ _;have HS1:=hD hS;clear hS hS';go_wp2
 go_ret2
 have hb1:=Wa HB.out HS1.out;exact⟨_,_,rfl,WH _ hb1 _,.nil _ _,hb1.alloc hb1.size _⟩
end
end Go.Proofs.YtmfpnfdinoofpaaGreatDoor
