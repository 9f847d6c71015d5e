/- A part of the proof. -/
import Derived.Test.YtmfpnfdinoofpaaGreatDoorJ46
import Derived.Test.YtmfpnfdinoofpaaGreatDoorJ37
import Derived.Test.YtmfpnfdinoofpaaGreatDoorJ41
import Derived.Test.YtmfpnfdinoofpaaGreatDoorJ43
import Derived.Test.YtmfpnfdinoofpaaGreatDoorJ42
import Derived.Test.YtmfpnfdinoofpaaGreatDoorJ44
namespace Go.Proofs.YtmfpnfdinoofpaaGreatDoor
section
open Go.RowKit
set_option maxHeartbeats 4000000
set_option maxRecDepth 100000
theorem Z2 {P:Prop}(h:P:=by
 rintro e w3 ⟨x3,g3,s3,rfl,r3⟩;have hS3:w3.cell? ⟨F.G,9,none⟩=some (.slice (some ⟨gl,ol,none⟩) m cl2)∧w3.cell? ⟨w.heap.size,1,none⟩=some (.int .i64 (k:Int))∧w3.cell? ⟨gl,ol+k,none⟩=some (.int .i64 t):=⟨HP9.out _ _ g3,HK1.out _ _ ((HXD.out.trans HX2.out).trans s3),HC1.out _ _ ((HXD.out.trans HX2.out).trans s3)⟩;go_wp2_with fail
 refine hK.out _ _ hS3 (fun _=>?_);clear hK K;try simp only[sA,List.set]
 refine mT 20 4 rfl hS3 ?_;refine wpAnyH_done (by kernel_rfl) ?_ _;have HG3:=hD g3;have HS3:=hD s3;have HR3:=hD r3;clear hS3 g3 s3 r3;go_wp2;go_ret;exact⟨x3,HG3.out,((HG.out.2.trans HXD.out).trans HX2.out).trans HS3.out,rfl,HR3.out⟩):P:=h
theorem dplain_34 {F:Wx} {w:World} {x:Ws} (hF:F.ref) (h:Wk F w x) (h0:0<x.f.length) (hs:x.s.length≤900000) (hh:x.top.h≤x.s.length) (k:Nat) (hk:k<F.lo.length) (a b n:Int) (ha:a=(k:Int)) (Al:Option Addr) (nl cl:Nat) :
 Calls Tryz.prog 140 #[.pointer (some ⟨F.G,0,none⟩),.agg #[.int .i64 34,.int .i64 a,.int .i64 b,.int .u64 n,.slice Al nl cl]] w (VI F w x (VL x.pl [F.lo.getD k 0] [F.lo.getD k 0])):=by
 obtain⟨W,hW⟩:∃ W,W=w.alloc (.cells #[.int .i64 34,.int .i64 a,.int .i64 b,.int .u64 n,.slice Al nl cl] 25):=⟨_,rfl⟩;have k0:W.cell? ⟨w.heap.size,0,none⟩=some (.int .i64 34):=by rw[hW,wN];rfl
 have k1:W.cell? ⟨w.heap.size,1,none⟩=some (.int .i64 a):=by rw[hW,wN];rfl
 have hgs:=h.alloc (.cells #[.int .i64 34,.int .i64 a,.int .i64 b,.int .u64 n,.slice Al nl cl] 25);rw[← hW]at hgs;have HG:=hD hgs;have HW:=hD hW;have HF:=hD hF;subst ha;obtain⟨gl,ol,cl2,hlv,hml,_⟩:=hgs.1.reads.loc.some_ (by omega);have hlo:=hgs.1.reads.loc;rw[hlv]at hlo;have c1:=hlo.at_ k hk;have p9:=hgs.1.d9 hF;rw[hlv]at p9;generalize F.lo.getD k 0=t at c1 ⊢;have hxd:=hgs.1.below (Wb ((bR W.heap.size W).drew) (.cells #[.int .i64 t] 3));have HII:=hD (hgs.1.new_ints (WH W ((bR W.heap.size W).drew) t));have hx2:=hxd.1.alloc (.cells #[.int .i64 t] 3);have HJJ:=hD (hxd.1.new_ints (WH _ (bR (W.drew.alloc (.cells #[.int .i64 t] 3)).heap.size (W.drew.alloc (.cells #[.int .i64 t] 3))) t));have HPA:=hD (dgives_any hF hx2.1 h0 hs hh _ _ [t] [t] (hx2.2.ints HII.out) HJJ.out (by simp) (by simp));have HPB:=hD (dgives_any hF hx2.1 h0 hs hh _ _ [t] [t] HJJ.out (hx2.2.ints HII.out) (by simp) (by simp));rw[Wj]at HPA HPB;have HX2:=hD hx2.2;clear hx2;have HXD:=hD hxd.2;have hwx:Wq F W x w.heap.size:=⟨wL W _ k0,h.new_free (nR _)⟩;have HK1:Hid (∀ wz xz,Wz F W x wz xz→wz.cell? ⟨w.heap.size,1,none⟩=some (.int .i64 (k:Int))):=hD fun wz xz hz=>(hz.keeps.cell (p:=⟨w.heap.size,1,none⟩) hwx).trans k1;have hgl:Wq F W x gl:=by
  exact Zdm
 have HC1:Hid (∀ wz xz,Wz F W x wz xz→wz.cell? ⟨gl,ol+k,none⟩=some (.int .i64 t)):=hD fun wz xz hz=>(hz.keeps.cell (p:=⟨gl,ol+k,none⟩) hgl).trans c1;have HFF:=HF;have HP9:Hid (∀ wz xz,Wk F wz xz→wz.cell? ⟨F.G,9,none⟩=some (.slice (some ⟨gl,ol,none⟩) F.lo.length cl2)):=hD fun wz xz hz=>(hz.d9 HFF.out).trans (by rw[hlv]);clear h h0 hs hh hgs hW hF hlv hlo hxd hwx hgl;generalize F.lo.length=m at *;have hk0:decide ((0:Int)≤(k:Int))=true:=by simp
 have hk1:decide ((k:Int)<(m:Int))=true:=by simp;omega
 have HS0:Hid (∀ wz,Below W.heap.size W wz→wz.cell? ⟨F.G,9,none⟩=some (.slice (some ⟨gl,ol,none⟩) m cl2)∧wz.cell? ⟨w.heap.size,1,none⟩=some (.int .i64 (k:Int))∧wz.cell? ⟨gl,ol+k,none⟩=some (.int .i64 t)):=hD fun wz hz=>⟨HP9.out _ _ (HG.out.1.below hz).1,HK1.out _ _ (HG.out.1.below hz).2,HC1.out _ _ (HG.out.1.below hz).2⟩;have HW1:Hid (Below W.heap.size W (W.drew.alloc (.cells #[.int .i64 t] 3))∧Below W.heap.size W ((W.drew.alloc (.cells #[.int .i64 t] 3)).alloc (.cells #[.int .i64 t] 3))):=hD ⟨Wb ((bR _ _).drew) _,Wb (Wb ((bR _ _).drew) _) _⟩;go_enter Tryz.func140,Tryz.ntmps140
 go_upto_region 1 with (fail)
 rw[← HW.out]
 go_upto_region 12 with (fail)
 refine wp_region_held_drew (S:=(fun wz=>wz.cell? ⟨F.G,9,none⟩=some (.slice (some ⟨gl,ol,none⟩) m cl2)∧wz.cell? ⟨w.heap.size,1,none⟩=some (.int .i64 (k:Int))∧wz.cell? ⟨gl,ol+k,none⟩=some (.int .i64 t))) (by kernel_rfl) (HS0.out _ ((bR _ _).drew)) (fun hS=>?_);show wpAnyH _ _ _ _ _ 21 #[false,false,false,false,false,false,false,false,false,false,false,false,false,false,false,false,false,false,false,false,false] _ _;clear k0 k1 p9 c1;refine mT 0 49 rfl hS ?_;refine mT 1 50 rfl hS ?_;refine mT 2 51 rfl hS ?_;refine mT 3 52 rfl hS ?_;refine mT 4 53 rfl hS ?_ (hy:=by intro wS hSw;obtain⟨p9,k1,c1⟩:=hSw;go_simp;try with_reducible rfl);refine mT 5 54 rfl hS ?_;refine mT 6 55 rfl hS ?_ (hy:=by intro wS hSw;obtain⟨p9,k1,c1⟩:=hSw;go_simp;try with_reducible rfl);refine mT 7 56 rfl hS ?_;refine mT 8 57 rfl hS ?_ (hy:=by intro wS hSw;obtain⟨p9,k1,c1⟩:=hSw;go_simp;try with_reducible rfl);refine mT 10 59 rfl hS ?_;refine mT 11 60 rfl hS ?_;refine mT 12 61 rfl hS ?_;refine mT 13 62 rfl hS ?_ (hy:=by intro wS hSw;obtain⟨p9,k1,c1⟩:=hSw;go_simp;try with_reducible rfl);refine mT 14 63 rfl hS ?_;refine mT 15 64 rfl hS ?_ (hy:=by intro wS hSw;obtain⟨p9,k1,c1⟩:=hSw;go_simp;try with_reducible rfl);refine mT 16 65 rfl hS ?_;refine mT 17 66 rfl hS ?_ (hy:=by intro wS hSw;obtain⟨p9,k1,c1⟩:=hSw;go_simp;try with_reducible rfl);refine wpAnyH_ready (rs:=[9,18]) (by kernel_rfl) (by simp) (AllReadyH.cons (o:=⟨some 58,_,_,_,_,_⟩) rfl (fun K hK=>?_) (AllReadyH.cons (o:=⟨some 67,_,_,_,_,_⟩) rfl (fun K hK=>?_) AllReadyH.nil))
 ·go_simp;refine hK.out _ _ (HS0.out _ HW1.out.1) (fun _=>?_);clear hK K;try simp only[sA,List.set]
  refine mR 18 67 rfl fun K hK=>?_;go_simp;refine hK.out _ _ (HS0.out _ HW1.out.2) (fun _=>?_);clear hK K;try simp only[sA,List.set]
  refine mR 19 68 rfl fun K hK=>?_;go_simp;go_at_call 135;refine HPA.out.mono ?_;exact Z2
 ·go_simp;refine hK.out _ _ (HS0.out _ HW1.out.1) (fun _=>?_);clear hK K;try simp only[sA,List.set]
  refine mR 9 58 rfl fun K hK=>?_;go_simp;refine hK.out _ _ (HS0.out _ HW1.out.2) (fun _=>?_);clear hK K;try simp only[sA,List.set]
  refine mR 19 68 rfl fun K hK=>?_;go_simp;go_at_call 135;refine HPB.out.mono ?_;exact Z2
end
section
open Go.RowKit
theorem dwithinB_nat {n:Int} {m:Nat} (h:Wi n m=true):∃ k:Nat,n=(k:Int)∧k<m:=by
 unfold Wi at h;rw[Bool.and_eq_true]at h;have h1:=of_decide_eq_true h.1;have h2:=of_decide_eq_true h.2;exact⟨n.toNat,by omega,by omega⟩
theorem below_nat {n:Int} {m:Nat} (h0:0≤n) (h:decide (n<(m:Int))=true):∃ k:Nat,n=(k:Int)∧k<m :=
 ⟨n.toNat,by omega,by have:=of_decide_eq_true h;omega⟩
theorem ins_14 {a b n:Int} {l:List Int} (h:WX ⟨14,a,b,n,l⟩=true):l.length≤100000:=by
 unfold WX insB inB at h;simp only[Bool.and_eq_true,decide_eq_true_eq]at h;have hl:(l.length:Int)≤(Wp 14).2.2.2.2.2:=h.1.2.2;have h1:(Wp 14).2.2.2.2.2≤100000:=by decide +kernel
 omega
structure DWalk (F:Wx) (x:Ws):Prop where
 f0:0<x.f.length
 sl:x.s.length≤900000
 hh:x.top.h≤x.s.length
 fl:x.f.length≤900000
 ps:x.top.ps.length≤10000
 rs:x.top.rs.length≤10000
 lb:∀ k,(Ww x.pl k).length≤8
 sh:Vq F.m
 en:EnvOk F.env
theorem DWalk.of {F:Wx} {x:Ws} {n:Nat} (h0:0<x.pl.f.length) (hi:Ur n x.pl) (hn:n≤65536) (hs:Vq F.m) (he:EnvOk F.env):DWalk F x:=by
 obtain⟨t1,t2,t3⟩:=hi.top h0;rw[Ws.pl_top]at t1 t2 t3;have h1:0<x.f.length:=by have:=h0;rw[Ws.pl_f,List.length_map]at this;exact this
 have h2:x.s.length≤900000:=by have:=hi.sl;rw[Ws.pl_s]at this;omega
 have h6:x.f.length≤900000:=by have:=hi.fl;rw[Ws.pl_f,List.length_map]at this;omega
 exact⟨h1,h2,t1,h6,Nat.le_trans t2 (by decide),Nat.le_trans t3 (by decide),fun k=>labelC_len hi k,hs,he⟩
theorem dleave_any {F:Wx} {w:World} {x:Ws} (hF:F.ref) (h:Wk F w x) (d:DWalk F x) (op a b n:Int) (l:List Int) (Al:Option Addr) (nl cl:Nat) (hL:Wf (Wq F w x) w (.slice Al nl cl) l)
 (hv:WX ⟨op,a,b,n,l⟩=true) (hx:V6 F.env x.pl ⟨op,a,b,n,l⟩=true) (hop:op=12∨op=13∨op=14∨op=15∨op=16∨op=18) :
 Calls Tryz.prog 169 #[.pointer (some ⟨F.G,0,none⟩),.agg #[.int .i64 op,.int .i64 a,.int .i64 b,.int .u64 n,.slice Al nl cl]] w (VI F w x (dleaveC F.env x.pl ⟨op,a,b,n,l⟩)):=by
 have hsg:=d.en.sig a;rcases hop with rfl|rfl|rfl|rfl|rfl|rfl
 ·obtain⟨k,rfl,hk⟩:=dwithinB_nat (show Wi a x.pl.f.length=true from hx);rw[Ws.pl_f,List.length_map]at hk;exact dleave_12 hF h d.f0 d.sl d.hh k hk (Nat.le_trans (d.lb k) (by decide)) b n Al nl cl
 ·obtain⟨k,rfl,hk⟩:=dwithinB_nat (show Wi a x.pl.f.length=true from hx);rw[Ws.pl_f,List.length_map]at hk;exact dleave_13 hF h d.f0 d.sl d.hh k hk (Nat.le_trans (d.lb k) (by decide)) b n Al nl cl
 ·have hin:(l.all (fun n=>Wi n x.pl.f.length))=true:=hx;rw[Ws.pl_f,List.length_map]at hin;exact dleave_14 hF h d.f0 d.sl d.hh l a b n _ hL ((ins_nn hv).2.2.1 rfl) (ins_14 hv) (fun z hz=>List.all_eq_true.1 hin z hz) fun k=>Nat.le_trans (d.lb k) (by decide)
 ·exact dleave_15 hF h d.f0 d.sl d.hh (Nat.le_trans d.en.ro (by decide)) a b n Al nl cl
 ·exact dleave_16 hF h d.f0 d.sl d.hh d.sh a b n ⟨Nat.le_trans hsg.1 (by decide),Nat.le_trans hsg.2 (by decide)⟩ Al nl cl
 ·exact dleave_18 hF h d.f0 d.sl d.hh d.sh a b n ⟨Nat.le_trans hsg.1 (by decide),Nat.le_trans hsg.2 (by decide)⟩ Al nl cl
theorem dcontrol_any {F:Wx} {w:World} {x:Ws} (hF:F.ref) (h:Wk F w x) (d:DWalk F x) (op a b n:Int) (l:List Int) (Al:Option Addr) (nl cl:Nat) (hL:Wf (Wq F w x) w (.slice Al nl cl) l)
 (hv:WX ⟨op,a,b,n,l⟩=true) (hx:V6 F.env x.pl ⟨op,a,b,n,l⟩=true) (hop:op=0∨op=1∨op=2∨op=3∨op=4∨op=5∨op=11∨op=12∨op=13∨op=14∨op=15∨op=16∨op=18) :
 Calls Tryz.prog 139 #[.pointer (some ⟨F.G,0,none⟩),.agg #[.int .i64 op,.int .i64 a,.int .i64 b,.int .u64 n,.slice Al nl cl]] w (VI F w x (dcontrolC F.env x.pl ⟨op,a,b,n,l⟩)):=by
 have hbl:=d.en.block a;have hty:((Wv F.m a).getD ([],[])).1.length≤100000∧((Wv F.m a).getD ([],[])).2.length≤100000:=⟨Nat.le_trans hbl.1 (by decide),Nat.le_trans hbl.2 (by decide)⟩;have hlv:=fun ho w1 g1 (s1:Wz F w x w1 x)=>dleave_any hF (w:=w1) g1 d op a b n l Al nl cl (s1.ints hL) hv hx ho;rcases hop with rfl|rfl|rfl|rfl|rfl|rfl|rfl|rfl|rfl|rfl|rfl|rfl|rfl
 ·exact dcontrol_0 hF h d.f0 d.hh a b n Al nl cl
 ·exact dcontrol_1 h a b n Al nl cl
 ·exact dcontrol_2 hF h d.f0 d.sl d.hh d.fl a b n hty Al nl cl
 ·exact dcontrol_3 hF h d.f0 d.sl d.hh d.fl a b n hty Al nl cl
 ·exact dcontrol_4 hF h d.f0 d.sl d.hh d.fl a b n hty Al nl cl
 ·exact dcontrol_5 hF h d.f0 d.sl d.hh d.fl d.ps d.rs a b n Al nl cl
 ·exact dcontrol_11 hF h d.f0 d.sl d.hh d.fl d.ps d.rs a b n Al nl cl
 ·exact dcontrol_12 h a b n Al nl cl _ (hlv (by decide))
 ·exact dcontrol_13 h a b n Al nl cl _ (hlv (by decide))
 ·exact dcontrol_14 h a b n Al nl cl _ (hlv (by decide))
 ·exact dcontrol_15 h a b n Al nl cl _ (hlv (by decide))
 ·exact dcontrol_16 h a b n Al nl cl _ (hlv (by decide))
 ·exact dcontrol_18 h a b n Al nl cl _ (hlv (by decide))
theorem dplain_any {F:Wx} {w:World} {x:Ws} (hF:F.ref) (h:Wk F w x) (d:DWalk F x) (op a b n:Int) (l:List Int) (Al:Option Addr) (nl cl:Nat)
 (hv:WX ⟨op,a,b,n,l⟩=true) (hx:V6 F.env x.pl ⟨op,a,b,n,l⟩=true) :
 Calls Tryz.prog 140 #[.pointer (some ⟨F.G,0,none⟩),.agg #[.int .i64 op,.int .i64 a,.int .i64 b,.int .u64 n,.slice Al nl cl]] w (VI F w x (dplainC F.env x.pl ⟨op,a,b,n,l⟩)):=by
 have hnn:=(ins_nn hv).1;by_cases c1:op=26
 ·subst c1;exact dplain_26 hF h d.f0 d.sl d.hh a b n Al nl cl
 by_cases c2:op=27
 ·subst c2;exact dplain_27 hF h d.f0 d.sl d.hh a b n Al nl cl
 by_cases c3:op=32
 ·subst c3;obtain⟨k,rfl,hk⟩:=below_nat (hnn (by show ¬ ((2:Int)≤32∧(32:Int)≤4);decide)) (show decide (a<(F.lo.length:Int))=true from hx);exact dplain_32 hF h d.f0 d.sl d.hh k hk _ b n rfl Al nl cl
 by_cases c4:op=33
 ·subst c4;obtain⟨k,rfl,hk⟩:=below_nat (hnn (by show ¬ ((2:Int)≤33∧(33:Int)≤4);decide)) (show decide (a<(F.lo.length:Int))=true from hx);exact dplain_33 hF h d.f0 d.sl d.hh k hk _ b n rfl Al nl cl
 by_cases c5:op=34
 ·subst c5;obtain⟨k,rfl,hk⟩:=below_nat (hnn (by show ¬ ((2:Int)≤34∧(34:Int)≤4);decide)) (show decide (a<(F.lo.length:Int))=true from hx);exact dplain_34 hF h d.f0 d.sl d.hh k hk _ b n rfl Al nl cl
 by_cases c6:op=35
 ·subst c6;obtain⟨k,rfl,hk⟩:=below_nat (hnn (by show ¬ ((2:Int)≤35∧(35:Int)≤4);decide)) (show decide (a<(F.m.globs.length:Int))=true from hx);exact dplain_35 hF h d.f0 d.sl d.hh k hk _ b n rfl Al nl cl
 by_cases c7:op=36
 ·subst c7;obtain⟨k,rfl,hk⟩:=below_nat (hnn (by show ¬ ((2:Int)≤36∧(36:Int)≤4);decide)) (show decide (a<(F.m.globs.length:Int))=true from hx);exact dplain_36 hF h d.f0 d.sl d.hh k hk _ b n rfl Al nl cl
 by_cases c8:op=63
 ·subst c8;exact dplain_63 hF h d.f0 d.sl d.hh a b n Al nl cl
 by_cases c9:op=64
 ·subst c9;exact dplain_64 hF h d.f0 d.sl d.hh a b n Al nl cl
 by_cases c10:op=64520
 ·subst c10;exact dplain_64520 hF h d.f0 d.sl d.hh a b n Al nl cl
 by_cases c11:op=64522
 ·subst c11;exact dplain_64522 hF h d.f0 d.sl d.hh a b n Al nl cl
 by_cases c12:op=64523
 ·subst c12;exact dplain_64523 hF h d.f0 d.sl d.hh a b n Al nl cl
 have hd:dplainC F.env x.pl ⟨op,a,b,n,l⟩=some x.pl:=by
  unfold dplainC;rw[if_neg c1,if_neg c2,if_neg c3,if_neg c4,if_neg c5,if_neg c6,if_neg c7,if_neg c8,if_neg c9,if_neg (show ¬ (op=64520∨op=64522∨op=64523) by omega)]
 rw[hd];exact dplain_none hF h d.f0 d.sl d.hh op ⟨c1,c2,c3,c4,c5,c6,c7,c8,c9,c10,c11,c12⟩ a b n Al nl cl
theorem ctl_ops (op:Int):W9 op=true→op≤18→op=0∨op=1∨op=2∨op=3∨op=4∨op=5∨op=11∨op=12∨op=13∨op=14∨op=15∨op=16∨op=18 :=
 VO (fun op=>W9 op=true→op≤18→op=0∨op=1∨op=2∨op=3∨op=4∨op=5∨op=11∨op=12∨op=13∨op=14∨op=15∨op=16∨op=18) (by decide +kernel) (by decide +kernel) (fun op h e=>by rw[far_known op h]at e;cases e) op
theorem dtyped_any {F:Wx} {w:World} {x:Ws} (hF:F.ref) (h:Wk F w x) (d:DWalk F x) (op a b n:Int) (l:List Int) (Al:Option Addr) (nl cl:Nat) (hL:Wf (Wq F w x) w (.slice Al nl cl) l)
 (hv:WX ⟨op,a,b,n,l⟩=true) (hx:V6 F.env x.pl ⟨op,a,b,n,l⟩=true) :
 Calls Tryz.prog 89 #[.pointer (some ⟨F.G,0,none⟩),.agg #[.int .i64 op,.int .i64 a,.int .i64 b,.int .u64 n,.slice Al nl cl]] w (VI F w x (U8 F.env x.pl ⟨op,a,b,n,l⟩)):=by
 have hkn:=(ins_nn hv).2.2.2;unfold U8;by_cases c1:WS op=true
 ·rw[if_pos c1];exact dtyped_num hF h d.f0 d.sl d.hh op a b n c1 Al nl cl
 have c1':WS op=false:=by simpa using c1
 rw[if_neg c1];by_cases c2:0<(WK op).1
 ·rw[if_pos c2];have hr:=acc_range op c2;by_cases c3:54≤op∧op≤62
  ·rw[if_pos c3];exact dtyped_store hF h d.f0 d.sl d.hh op a b n c1' Al nl cl c2 c3
  ·rw[if_neg c3];exact dtyped_load hF h d.f0 d.sl d.hh op a b n c1' Al nl cl c2 (by omega)
 rw[if_neg c2];by_cases c4:WZ op≠0
 ·rw[if_pos c4];exact dtyped_const hF h d.f0 d.sl d.hh op a b n c1' Al nl cl c2 c4
 rw[if_neg c4];have c4':WZ op=0:=Classical.not_not.1 c4;by_cases c5:op≤18
 ·rw[if_pos c5];exact dtyped_ctl hF h op a b n c1' c2 c4' c5 Al nl cl _ fun _ g1 s1=>dcontrol_any hF g1 d op a b n l Al nl cl (s1.ints hL) hv hx (ctl_ops op hkn c5)
 ·rw[if_neg c5];exact dtyped_pln hF h op a b n c1' c2 c4' (by omega) Al nl cl _ fun _ g1 _=>dplain_any hF g1 d op a b n l Al nl cl hv hx
theorem dstep_any {F:Wx} {w:World} {x:Ws} (hF:F.ref) (h:Wk F w x) (d:DWalk F x) (op a b n:Int) (l:List Int) (Al:Option Addr) (nl cl:Nat) (hl:nl=l.length) (hL:Wf (Wq F w x) w (.slice Al nl cl) l) (hv:WX ⟨op,a,b,n,l⟩=true) :
 Calls Tryz.prog 51 #[.pointer (some ⟨F.G,0,none⟩),.agg #[.int .i64 op,.int .i64 a,.int .i64 b,.int .u64 n,.slice Al nl cl]] w (StepPost F w x (VB F.env x.pl ⟨op,a,b,n,l⟩)) :=
 dstep_of hF h op a b n l Al nl cl (fun _ g1 s1=>dindex_any hF g1 d.sh op a b n l Al nl cl hl (s1.ints hL)) fun hx _ g1 s1=>dtyped_any hF g1 d op a b n l Al nl cl (s1.ints hL) hv hx
end
section
open Go.RowKit
def simpleI (i:Vl):Prop:=(restE i.op∧restF i.op∧restG i.op)∨i.op=0∨i.op=11∨i.op=26
theorem simple_restE {i:Vl} (h:simpleI i):restE i.op:=by
 rcases h with h|h|h|h
 ·exact h.1
 ·rw[h];unfold restE;decide
 ·rw[h];unfold restE;decide
 ·rw[h];unfold restE;decide
theorem steps_simple:StepsOk simpleI:=by
 intro F w x n i Al nl cl hF hg hs he hi hn hgood hints;obtain⟨op,a,b,c,l⟩:=i;have hop:=simple_restE hgood;refine step_of hF hg op a b c l Al nl cl (fun _ w1 g1=>exists_rest hF g1 op a b c l hop Al nl cl) fun hin _ w1 g1=>?_;have h0:0<x.pl.f.length:=inPlaceC_pos hin;obtain⟨t1,t2,t3⟩:=hi.top h0;rw[Ws.pl_top]at t1 t2 t3;have h1:0<x.f.length:=by have:=h0;rw[Ws.pl_f,List.length_map]at this;exact this
 have h2:x.s.length≤900000:=by have:=hi.sl;rw[Ws.pl_s]at this;omega
 have h3:x.top.h≤x.s.length:=t1;have h4:x.top.rs.length≤100000:=Nat.le_trans t3 (by decide);rcases hgood with h|h|h|h
 ·exact follow_rest hF g1 h1 h2 h3 op a b c l h.2.1 h.2.2 Al nl cl
 ·obtain rfl:op=0:=h;exact follow_0 hF g1 h1 h2 h3 a b c l Al nl cl
 ·obtain rfl:op=11:=h;exact follow_11 hF g1 h1 h2 h3 h4 a b c l Al nl cl
 ·obtain rfl:op=26:=h;exact follow_26 hF g1 h1 h2 a b c l Al nl cl
end
section
open Go.RowKit
def m00:Vt:=⟨[],[],[],[],[],[],[],[]⟩
def v00:Mv:=⟨.slice none 0 0,.slice none 0 0,.slice none 0 0,.slice none 0 0,.slice none 0 0,.slice none 0 0,.slice none 0 0,.slice none 0 0⟩
theorem VA (K:Nat→Prop) (w:World) (size:Nat) (f:Nat→Nat→Value→Prop):Wd K w (.slice none 0 0) 0 size f:=⟨none,0,rfl,nR _,nZ _,fun _=>rfl,fun h=>absurd h (Nat.lt_irrefl _)⟩
theorem at00 (K:Nat→Prop) (w:World):W7 K w v00 m00:=⟨VA _ _ _ _,VA _ _ _ _,VA _ _ _ _,VA _ _ _ _,VA _ _ _ _,VA _ _ _ _,VA _ _ _ _,VA _ _ _ _⟩
def v22 (g:Nat):Mv:=⟨.slice none 0 0,.slice none 0 0,.slice none 0 0,.slice none 0 0,.slice none 0 0,.slice (some ⟨g,0,none⟩) 2 2,.slice none 0 0,.slice none 0 0⟩
def Two6 (w:World) (g:Nat):Prop:=w.cell? ⟨g,0,none⟩=some (.string ⟨#[97]⟩)∧w.cell? ⟨g,1,none⟩=some (.int .i64 0)∧w.cell? ⟨g,2,none⟩=some (.int .i64 0)∧w.cell? ⟨g,3,none⟩=some (.string ⟨#[97]⟩)∧w.cell? ⟨g,4,none⟩=some (.int .i64 0)∧w.cell? ⟨g,5,none⟩=some (.int .i64 0)
theorem Two6.below {w w':World} {g:Nat} (h:Two6 w g) (hb:Below w.heap.size w w'):Two6 w' g:=by
 have hg:=wL _ _ h.1;have hc:∀ i,w'.cell? ⟨g,i,none⟩=w.cell? ⟨g,i,none⟩:=fun i=>hb.cell (p:=⟨g,i,none⟩) hg;unfold Two6;simp only[hc];exact h
end
section
open Go.RowKit
def cArr (a o:Int):Array Value:=#[.int .i64 a,.int .i64 0,.int .i64 0,.int .u64 0,.slice none 0 0,.int .i64 o,.int .i64 0,.int .i64 0,.int .u64 0,.slice none 0 0,.int .i64 26,.int .i64 0,.int .i64 0,.int .u64 0,.slice none 0 0,.int .i64 11,.int .i64 0,.int .i64 0,.int .u64 0,.slice none 0 0]
structure Dm (w:World) (gt gc gf:Nat) (a o:Int):Prop where
 t:w.heap[gt]?=some (.cells #[.slice none 0 0,.slice none 0 0] 40 (0,0))
 c:w.heap[gc]?=some (.cells (cArr a o) 25 (0,0))
 f:w.heap[gf]?=some (.cells #[.int .i64 0,.slice none 0 0,.slice (some ⟨gc,0,none⟩) 4 4] 68 (0,0))
def vDead (gt gf:Nat):Mv:=⟨.slice (some ⟨gt,0,none⟩) 1 1,.slice none 0 0,.slice (some ⟨gf,0,none⟩) 1 1,.slice none 0 0,.slice none 0 0,.slice none 0 0,.slice none 0 0,.slice none 0 0⟩
theorem heap_lt {w:World} {g:Nat} {o:Obj} (h:w.heap[g]?=some o):g<w.heap.size:=(Array.getElem?_eq_some_iff.1 h).1
theorem Dm.below {w w':World} {gt gc gf:Nat} {a o:Int} (h:Dm w gt gc gf a o) (hb:Below w.heap.size w w'):Dm w' gt gc gf a o :=
 ⟨(hb.block _ (heap_lt h.t)).trans h.t,(hb.block _ (heap_lt h.c)).trans h.c,(hb.block _ (heap_lt h.f)).trans h.f⟩
theorem Dm.new (w:World) (a o:Int):Dm (((w.alloc (.cells #[.slice none 0 0,.slice none 0 0] 40)).alloc (.cells (cArr a o) 25)).alloc (.cells #[.int .i64 0,.slice none 0 0,.slice (some ⟨w.heap.size+1,0,none⟩) 4 4] 68)) w.heap.size (w.heap.size+1) (w.heap.size+2) a o:=by
 have h1:=Vj w (.cells #[.slice none 0 0,.slice none 0 0] 40);have b1:=Wb (bR (w.alloc (.cells #[.slice none 0 0,.slice none 0 0] 40)).heap.size (w.alloc (.cells #[.slice none 0 0,.slice none 0 0] 40))) (.cells (cArr a o) 25);have h2:=Vj (w.alloc (.cells #[.slice none 0 0,.slice none 0 0] 40)) (.cells (cArr a o) 25);have b2:=Wb (bR ((w.alloc (.cells #[.slice none 0 0,.slice none 0 0] 40)).alloc (.cells (cArr a o) 25)).heap.size ((w.alloc (.cells #[.slice none 0 0,.slice none 0 0] 40)).alloc (.cells (cArr a o) 25))) (.cells #[.int .i64 0,.slice none 0 0,.slice (some ⟨w.heap.size+1,0,none⟩) 4 4] 68);have h3:=Vj ((w.alloc (.cells #[.slice none 0 0,.slice none 0 0] 40)).alloc (.cells (cArr a o) 25)) (.cells #[.int .i64 0,.slice none 0 0,.slice (some ⟨w.heap.size+1,0,none⟩) 4 4] 68);rw[Wj]at h2;rw[Wj,Wj]at h3;exact⟨(b2.block _ (heap_lt ((b1.block _ (heap_lt h1)).trans h1))).trans ((b1.block _ (heap_lt h1)).trans h1),(b2.block _ (heap_lt h2)).trans h2,h3⟩
theorem Dm.at_ {w:World} {gt gc gf:Nat} {a o:Int} (h:Dm w gt gc gf a o):W7 (fun k=>k<w.heap.size) w (vDead gt gf) (mDead a o):=by
 have ht:=fun j=>WG h.t j;have hc:=fun j=>WG h.c j;have hf:=fun j=>WG h.f j;refine⟨?_,VA _ _ _ _,?_,VA _ _ _ _,VA _ _ _ _,VA _ _ _ _,VA _ _ _ _,VA _ _ _ _⟩
 ·refine⟨_,1,rfl,nR _,by unfold maxLen;omega,(fun h=>by cases h),fun _=>⟨gt,0,rfl,heap_lt h.t,fun j i hj hi=>?_⟩⟩;have hj2:j<1:=hj;rcases(show j=0∧(i=0∨i=1) by omega) with ⟨rfl,rfl|rfl⟩
  ·exact⟨_,ht 0,Wf.nil _ _⟩
  ·exact⟨_,ht 1,Wf.nil _ _⟩
 ·refine⟨_,1,rfl,nR _,by unfold maxLen;omega,(fun h=>by cases h),fun _=>⟨gf,0,rfl,heap_lt h.f,fun j i hj hi=>?_⟩⟩;have hj2:j<1:=hj;rcases(show j=0∧(i=0∨i=1∨i=2) by omega) with ⟨rfl,rfl|rfl|rfl⟩
  ·exact⟨_,hf 0,rfl⟩
  ·exact⟨_,hf 1,Wf.nil _ _⟩
  ·refine⟨_,hf 2,?_⟩;refine⟨_,4,rfl,nR _,by unfold maxLen;omega,(fun h=>by cases h),fun _=>⟨gc,0,rfl,heap_lt h.c,fun j i hj hi=>?_⟩⟩;have hj4:j<4:=hj;have wz:wordZ 0:=⟨by omega,by omega⟩;have fz:fitN 0:=by unfold fitN;omega
   rcases(show(j=0∨j=1∨j=2∨j=3)∧(i=0∨i=1∨i=2∨i=3∨i=4) by omega) with ⟨rfl|rfl|rfl|rfl,rfl|rfl|rfl|rfl|rfl⟩
   ·exact⟨_,hc 0,rfl⟩
   ·exact⟨_,hc 1,rfl⟩
   ·exact⟨_,hc 2,rfl⟩
   ·exact⟨_,hc 3,rfl,wz⟩
   ·exact⟨_,hc 4,Wf.nil _ _,fz⟩
   ·exact⟨_,hc 5,rfl⟩
   ·exact⟨_,hc 6,rfl⟩
   ·exact⟨_,hc 7,rfl⟩
   ·exact⟨_,hc 8,rfl,wz⟩
   ·exact⟨_,hc 9,Wf.nil _ _,fz⟩
   ·exact⟨_,hc 10,rfl⟩
   ·exact⟨_,hc 11,rfl⟩
   ·exact⟨_,hc 12,rfl⟩
   ·exact⟨_,hc 13,rfl,wz⟩
   ·exact⟨_,hc 14,Wf.nil _ _,fz⟩
   ·exact⟨_,hc 15,rfl⟩
   ·exact⟨_,hc 16,rfl⟩
   ·exact⟨_,hc 17,rfl⟩
   ·exact⟨_,hc 18,rfl,wz⟩
   ·exact⟨_,hc 19,Wf.nil _ _,fz⟩
theorem simple_nums {o:Int} (h:37≤o∧o≤255∧o≠63∧o≠64):simpleI (insL o):=by
 refine .inl ⟨?_,?_,?_⟩
 ·show restE o;unfold restE;omega
 ·show restF o;unfold restF;omega
 ·show restG o;unfold restG;omega
theorem simple_dead {a o:Int} (ha:a=0∨a=1∨a=65) (ho:69≤o∧o≤196):∀ f ∈ (mDead a o).funs,∀ i ∈ f.code,simpleI i:=by
 intro f hf i hi;have hf:f ∈ [(⟨0,[],[insL a,insL o,insL 26,insL 11]⟩:Fnc)]:=hf;rw[List.mem_singleton]at hf;subst hf;have hi:i ∈ [insL a,insL o,insL 26,insL 11]:=hi;simp only[List.mem_cons,List.not_mem_nil,or_false]at hi;rcases hi with rfl|rfl|rfl|rfl
 ·rcases ha with rfl|rfl|rfl
  ·exact .inr (.inl rfl)
  ·refine .inl ⟨?_,?_,?_⟩
   ·show restE 1;unfold restE;omega
   ·show restF 1;unfold restF;omega
   ·show restG 1;unfold restG;omega
  ·exact simple_nums (by omega)
 ·exact simple_nums (by omega)
 ·exact .inr (.inr (.inr rfl))
 ·exact .inr (.inr (.inl rfl))
theorem few_dead (a o:Int):Few (mDead a o):=by unfold Few mDead;simp
theorem short_dead (a o:Int):Vq (mDead a o):=by
 unfold Vq mDead;refine⟨by simp,by simp,by simp,fun t ht=>?_,fun f hf=>?_⟩
 ·rw[List.mem_singleton]at ht;subst ht;exact⟨by simp,by simp⟩
 ·rw[List.mem_singleton]at hf;subst hf;simp
theorem types_dead (a o:Int):∀ t ∈ (mDead a o).types,t.1.length≤8∧t.2.length≤8:=fun t ht=>by
 have ht:t ∈ [(([]:List Int),([]:List Int))]:=ht;rw[List.mem_singleton]at ht;subst ht;exact⟨by simp,by simp⟩
theorem func_dead {w:World} {gt gc gf:Nat} {a o:Int} (h:Dm w gt gc gf a o) (ha:a=0∨a=1∨a=65) (ho:69≤o∧o≤196) (prof:Int) (r:Int×Int) (hr:Uq (mDead a o) 0 prof=r) :
 Calls Tryz.prog 21 #[.agg (vDead gt gf).cells,.int .i64 0,.int .i64 prof] w (FuncPost r w):=by
 have h1:=func_ok steps_simple w _ _ h.at_ (short_dead a o) (types_dead a o) 0 (by show 0<1;omega) ([],[]) rfl prof (by show 4≤65536;omega) (simple_dead ha ho _ (by show _ ∈ [_];exact List.mem_singleton.2 rfl));rw[← hr];exact h1
theorem module_dead {w:World} {gt gc gf:Nat} {a o:Int} (h:Dm w gt gc gf a o) (ht:Tab w) (ha:a=0∨a=1∨a=65) (ho:69≤o∧o≤196) (prof z:Int) (hr:UW (mDead a o) prof=z) :
 Calls Tryz.prog 19 #[.agg (vDead gt gf).cells,.int .i64 prof] w (ModlPost z w):=by
 have h1:=module_ok steps_simple w ht _ _ h.at_ (few_dead a o) prof (fun _=>simple_dead ha ho);rw[← hr];exact h1
theorem module_none (w:World) (ht:Tab w):Calls Tryz.prog 19 #[.agg v00.cells,.int .i64 1] w (ModlPost 0 w):=by
 have h1:=module_ok steps_simple w ht v00 m00 (at00 _ _) (by unfold Few m00;simp) 1 (fun _ f hf=>by cases hf);rw[show UW m00 1=0 from dead_known.2.2.2]at h1;exact h1
end
section
open Go.RowKit
set_option maxHeartbeats 4000000
set_option maxRecDepth 100000
theorem Dm.set0 {w:World} {gt gc gf:Nat} {a o:Int} (h:Dm w gt gc gf a o) (h1:gt≠gc) (h2:gf≠gc):Dm (((((w.setCell ⟨gc,0,none⟩ (.int .i64 0)).setCell ⟨gc,1,none⟩ (.int .i64 0)).setCell ⟨gc,2,none⟩ (.int .i64 0)).setCell ⟨gc,3,none⟩ (.int .u64 0)).setCell ⟨gc,4,none⟩ (.slice none 0 0)) gt gc gf 0 o:=by
 have hk:=keeps5 w gc (.int .i64 0) (.int .i64 0) (.int .i64 0) (.int .u64 0) (.slice none 0 0);refine⟨(hk.block gt h1).trans h.t,?_,(hk.block gf h2).trans h.f⟩;have s1:=Wg w gc 0 _ _ (.int .i64 0) h.c;have s2:=Wg _ gc 1 _ _ (.int .i64 0) s1;have s3:=Wg _ gc 2 _ _ (.int .i64 0) s2;have s4:=Wg _ gc 3 _ _ (.int .u64 0) s3;have s5:=Wg _ gc 4 _ _ (.slice none 0 0) s4;exact s5
theorem known10_any (w:World) (ht:Tab w):Calls Tryz.prog 9 #[] w (Wh true w):=by
 have ho:(69:Int)≤106∧(106:Int)≤196:=⟨by decide,by decide⟩;obtain⟨W3,hW3⟩:∃ W3,W3=((w.alloc (.cells #[.slice none 0 0,.slice none 0 0] 40)).alloc (.cells #[.int .i64 65,.int .i64 0,.int .i64 0,.int .u64 0,.slice none 0 0,.int .i64 106,.int .i64 0,.int .i64 0,.int .u64 0,.slice none 0 0,.int .i64 26,.int .i64 0,.int .i64 0,.int .u64 0,.slice none 0 0,.int .i64 11,.int .i64 0,.int .i64 0,.int .u64 0,.slice none 0 0] 25)).alloc (.cells #[.int .i64 0,.slice none 0 0,.slice (some ⟨w.heap.size+1,0,none⟩) 4 4] 68):=⟨_,rfl⟩;have hdm:Dm W3 w.heap.size (w.heap.size+1) (w.heap.size+2) 65 106:=by rw[hW3];exact Dm.new w 65 106
 have hzm:W3.heap.size=w.heap.size+3:=by rw[hW3];simp
 have hbm3:Below w.heap.size w W3:=by rw[hW3];exact Wb (Wb (Wb (bR _ _) _) _) _
 obtain⟨W,hW⟩:∃ W4,W4=W3.alloc (.cells #[.slice (some ⟨w.heap.size,0,none⟩) 1 1,.slice none 0 0,.slice (some ⟨w.heap.size+2,0,none⟩) 1 1,.slice none 0 0,.slice none 0 0,.slice none 0 0,.slice none 0 0,.slice none 0 0] 37):=⟨_,rfl⟩;have HXm:Hid (W=((((w.alloc (.cells #[.slice none 0 0,.slice none 0 0] 40)).alloc (.cells #[.int .i64 65,.int .i64 0,.int .i64 0,.int .u64 0,.slice none 0 0,.int .i64 106,.int .i64 0,.int .i64 0,.int .u64 0,.slice none 0 0,.int .i64 26,.int .i64 0,.int .i64 0,.int .u64 0,.slice none 0 0,.int .i64 11,.int .i64 0,.int .i64 0,.int .u64 0,.slice none 0 0] 25)).alloc (.cells #[.int .i64 0,.slice none 0 0,.slice (some ⟨w.heap.size+1,0,none⟩) 4 4] 68)).alloc (.cells #[.slice (some ⟨w.heap.size,0,none⟩) 1 1,.slice none 0 0,.slice (some ⟨w.heap.size+2,0,none⟩) 1 1,.slice none 0 0,.slice none 0 0,.slice none 0 0,.slice none 0 0,.slice none 0 0] 37))):=hD (by rw[hW,hW3]);have HBm:Hid (Below w.heap.size w W):=hD (by rw[hW];exact Wb hbm3 _);have HDm:Hid (∀ wz,Below W.heap.size W wz→Dm wz w.heap.size (w.heap.size+1) (w.heap.size+2) 65 106):=hD fun wz hz=>(hdm.below (by rw[hW];exact Wb (bR _ _) _)).below hz;have HQm:Hid (∀ wz,Below W.heap.size W wz→Box8 wz (w.heap.size+3) (.slice (some ⟨w.heap.size,0,none⟩) 1 1) (.slice none 0 0) (.slice (some ⟨w.heap.size+2,0,none⟩) 1 1) (.slice none 0 0) (.slice none 0 0) (.slice none 0 0) (.slice none 0 0) (.slice none 0 0)):=hD fun wz hz=>by rw[← hzm];rw[hW]at hz;exact UB W3 _ _ _ _ _ _ _ _ hz
 clear hW hdm hbm3 hzm hW3;have HF:=hD (fun wz (hb:Below W.heap.size W wz)=>func_dead (HDm.out wz hb) (.inr (.inr rfl)) ho 2 (1,14) dead_known.1);have HM0:=hD (fun wz (hb:Below w.heap.size w wz)=>module_none wz (ht.below hb));have HM1:=hD (fun wz gt gc gf (hb:Below w.heap.size w wz) (hd:Dm wz gt gc gf 0 106)=>module_dead hd (ht.below hb) (.inl rfl) ho 1 0 dead_known.2.1);have HM3:=hD (fun wz gt gc gf (hb:Below w.heap.size w wz) (hd:Dm wz gt gc gf 0 106)=>module_dead hd (ht.below hb) (.inl rfl) ho 3 1 dead_known.2.2.1);unfold v00 at HM0;unfold vDead at HF HM1 HM3;unfold FuncPost at HF;unfold ModlPost at HM0 HM1 HM3;simp only[Mv.cells]at HF HM0 HM1 HM3;clear ht ho;go_enter Tryz.func9,Tryz.ntmps9
 go_upto_region 2 with (fail)
 rw[← HXm.out];obtain⟨b0,b1,b2,b3,b4,b5,b6,b7⟩:=HQm.out W (bR _ _)
 go_upto_region 3 with (first|(go_at_call 21;refine(HF.out W (bR _ _)).mono ?_;rintro e w1 ⟨rfl,hb1⟩))
 clear b0 b1 b2 b3 b4 b5 b6 b7;obtain⟨b0,b1,b2,b3,b4,b5,b6,b7⟩:=HQm.out w1 hb1;have hd1:=HDm.out w1 hb1;have HQ1:=hD (HQm.out w1 hb1);have f2:=WG hd1.f 2;simp only[List.getElem?_toArray,List.getElem?_cons_zero,List.getElem?_cons_succ]at f2;have z0:=Va hd1.c 0;have z1:=Va hd1.c 1;have z2:=Va hd1.c 2;have z3:=Va hd1.c 3;have z4:=Va hd1.c 4;have g0:=WG hd1.c 0;have g1:=WG hd1.c 1;have g2:=WG hd1.c 2;have g3:=WG hd1.c 3;have g4:=WG hd1.c 4;unfold cArr at g0 g1 g2 g3 g4;simp only[List.getElem?_toArray,List.getElem?_cons_zero,List.getElem?_cons_succ]at g0 g1 g2 g3 g4;obtain⟨W5,hW5⟩:∃ W5,W5=(((((w1.setCell ⟨w.heap.size+1,0,none⟩ (.int .i64 0)).setCell ⟨w.heap.size+1,1,none⟩ (.int .i64 0)).setCell ⟨w.heap.size+1,2,none⟩ (.int .i64 0)).setCell ⟨w.heap.size+1,3,none⟩ (.int .u64 0)).setCell ⟨w.heap.size+1,4,none⟩ (.slice none 0 0)):=⟨_,rfl⟩;have hd5:Dm W5 w.heap.size (w.heap.size+1) (w.heap.size+2) 0 106:=by rw[hW5];exact hd1.set0 (by omega) (by omega)
 have hk5:=keeps5 w1 (w.heap.size+1) (.int .i64 0) (.int .i64 0) (.int .i64 0) (.int .u64 0) (.slice none 0 0);rw[← hW5]at hk5;have hb5:Below w.heap.size w W5:=(HBm.out.trans (hb1.mono HBm.out.size)).trans (hk5.to_below fun k hk=>by omega);have hq5:Box8 W5 (w.heap.size+3) (.slice (some ⟨w.heap.size,0,none⟩) 1 1) (.slice none 0 0) (.slice (some ⟨w.heap.size+2,0,none⟩) 1 1) (.slice none 0 0) (.slice none 0 0) (.slice none 0 0) (.slice none 0 0) (.slice none 0 0):=by
  have hc:∀ i,W5.cell? ⟨w.heap.size+3,i,none⟩=w1.cell? ⟨w.heap.size+3,i,none⟩:=fun i=>hk5.cell (p:=⟨w.heap.size+3,i,none⟩) (by show w.heap.size+3≠w.heap.size+1;omega);have h:=HQ1.out;unfold Box8 at h ⊢;simp only[hc];exact h
 have HB5:=hD hb5;have HW5:=hD hW5;have HD5:=hD (fun wz (hb:Below W5.heap.size W5 wz)=>hd5.below hb);have HQ5:Hid (∀ wz,Below W5.heap.size W5 wz→Box8 wz (w.heap.size+3) (.slice (some ⟨w.heap.size,0,none⟩) 1 1) (.slice none 0 0) (.slice (some ⟨w.heap.size+2,0,none⟩) 1 1) (.slice none 0 0) (.slice none 0 0) (.slice none 0 0) (.slice none 0 0) (.slice none 0 0)):=hD fun wz hz=>hq5.below (wL _ _ hq5.1) hz;clear hd1 hb1 hW5 hd5 hk5 hb5 hq5
 go_upto_region 4 with (fail)
 rw[← HW5.out];clear b0 b1 b2 b3 b4 b5 b6 b7 f2 z0 z1 z2 z3 z4 g0 g1 g2 g3 g4;go_wp2_with (first|(go_at_call 19;(with_reducible refine(HM0.out _ HB5.out).mono ?_);rintro e w6 ⟨rfl,hb6⟩;have HB6:=hD hb6;obtain⟨b0,b1,b2,b3,b4,b5,b6,b7⟩:=HQ5.out w6 hb6;clear hb6)|(go_at_call 19;(with_reducible refine(HM1.out _ _ _ _ (Wa HB5.out HB6.out) (HD5.out _ HB6.out)).mono ?_);rintro e w7 ⟨rfl,hb7⟩;have HB7:=hD (Wa HB6.out hb7);obtain⟨b0,b1,b2,b3,b4,b5,b6,b7⟩:=HQ5.out w7 HB7.out;clear hb7)|(go_at_call 19;(with_reducible refine(HM3.out _ _ _ _ (Wa HB5.out HB7.out) (HD5.out _ HB7.out)).mono ?_);rintro e w8 ⟨rfl,hb8⟩;have HB8:=hD (Wa HB7.out hb8);clear hb8))
 go_ret;exact⟨rfl,Wa HB5.out HB8.out⟩
end
end Go.Proofs.YtmfpnfdinoofpaaGreatDoor
