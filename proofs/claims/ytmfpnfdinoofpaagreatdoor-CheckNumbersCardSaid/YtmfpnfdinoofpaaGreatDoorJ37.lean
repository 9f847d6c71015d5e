/- A part of the proof. -/
import Derived.Test.YtmfpnfdinoofpaaGreatDoorJ19
import Derived.Test.YtmfpnfdinoofpaaGreatDoorJ34
namespace Go.Proofs.YtmfpnfdinoofpaaGreatDoor
section
open Go.RowKit
set_option maxHeartbeats 4000000
set_option maxRecDepth 100000
theorem Zcz {P:Prop}(h:P:=by
 go_ret;exact⟨x3,HG3.out,((HG.out.2.trans HG2.out.2).trans HG5.out).trans HS3.out,rfl,HR3.out⟩):P:=h
theorem Zdi {P:Prop}(h:P:=by
 go_ret;exact⟨x3,HG3.out,(HG.out.2.trans (HG.out.1.below HB2.out).2).trans HS3.out,rfl,HR3.out⟩):P:=h
theorem rownew_ints {w w':World} {v:Value} {xs:List Int} (h:RowNew w w' v xs):Wf (fun k=>w.heap.size≤k∧k<w'.heap.size) w' v xs:=by
 obtain⟨h1,h2⟩:=h;rcases h1 with ⟨rfl,rfl⟩|⟨g,cap,rfl,h3,h4,h5,h6⟩
 ·exact⟨none,0,rfl,by show 0≤_;exact nZ _,fun _=>rfl,fun h=>absurd h (Nat.lt_irrefl _)⟩
 ·refine⟨_,cap,rfl,by unfold maxLen;omega,fun h=>(by cases h),fun _=>⟨g,0,rfl,⟨h2 g rfl,h3⟩,fun j hj=>?_⟩⟩;rw[Nat.zero_add];exact h6 j hj
theorem dtyped_num {F:Wx} {w:World} {x:Ws} (hF:F.ref) (h:Wk F w x) (h0:0<x.f.length) (hs:x.s.length≤900000) (hh:x.top.h≤x.s.length) (op a b n:Int) (hop:WS op=true) (Al:Option Addr) (nl cl:Nat) :
 Calls Tryz.prog 89 #[.pointer (some ⟨F.G,0,none⟩),.agg #[.int .i64 op,.int .i64 a,.int .i64 b,.int .u64 n,.slice Al nl cl]] w (VI F w x (VL x.pl (Vw op) (Vf op))):=by
 obtain⟨W,hW⟩:∃ W,W=w.alloc (.cells #[.int .i64 op,.int .i64 a,.int .i64 b,.int .u64 n,.slice Al nl cl] 25):=⟨_,rfl⟩;have hk:∀ j:Nat,W.cell? ⟨w.heap.size,j,none⟩=(#[.int .i64 op,.int .i64 a,.int .i64 b,.int .u64 n,.slice Al nl cl]:Array Value)[j]?:=fun j=>by rw[hW,wN]
 have HKX:Hid (∀ wz,Below W.heap.size W wz→wz.cell? ⟨w.heap.size,0,none⟩=some (.int .i64 op)∧wz.cell? ⟨w.heap.size,1,none⟩=some (.int .i64 a)∧wz.cell? ⟨w.heap.size,2,none⟩=some (.int .i64 b)∧wz.cell? ⟨w.heap.size,3,none⟩=some (.int .u64 n)∧wz.cell? ⟨w.heap.size,4,none⟩=some (.slice Al nl cl)):=hD fun wz hz =>
  ⟨(hz.cell (wL W _ (hk 0))).trans (hk 0),(hz.cell (wL W _ (hk 1))).trans (hk 1),(hz.cell (wL W _ (hk 2))).trans (hk 2),(hz.cell (wL W _ (hk 3))).trans (hk 3),(hz.cell (wL W _ (hk 4))).trans (hk 4)⟩
 have hgs:=h.alloc (.cells #[.int .i64 op,.int .i64 a,.int .i64 b,.int .u64 n,.slice Al nl cl] 25);rw[← hW]at hgs;have HG:=hD hgs;have HW:=hD hW;have HF:=hD hF;obtain⟨k0,k1,k2,k3,k4⟩:=HKX.out W (bR _ _);have HNU:=hD (fun w=>rnum_any op w);have HX:=hD (⟨h0,hs,hh⟩:0<x.f.length∧x.s.length≤900000∧x.top.h≤x.s.length);have HLN:Hid ((Vw op).length≤100000∧(Vf op).length≤100000):=hD (by
  have h1:Vw op=List.replicate (VH op).1 (VH op).2.1:=by unfold Vw;rw[hop];rfl
  have h2:Vf op=[(VH op).2.2]:=by unfold Vf;rw[hop];rfl
  have h3:=sig_count op hop;rw[h1,h2,List.length_replicate];simp;omega)
 unfold WJ at HNU;rw[hop]at HNU;obtain⟨R,hR⟩:∃ R,VL x.pl (Vw op) (Vf op)=R:=⟨_,rfl⟩;rw[hR];have HRR:=hD hR;clear h h0 hs hh hgs hW hF hR hop hk;go_enter Tryz.func89,Tryz.ntmps89
 go_upto_region 1 with (fail)
 rw[← HW.out]
 go_upto_region 2 with (go_at_call 134;refine(HNU.out _).mono ?_;rintro e w2 ⟨p,q,rfl,hp,hq,hb2⟩;have HP:=hD (rownew_ints hp);have HQ:=hD (rownew_ints hq);have HB2:=hD hb2;obtain⟨Ap,np,cp,rfl⟩:=hp.slice;obtain⟨Aq,nq,cq,rfl⟩:=hq.slice;clear hp hq hb2)
 have hg2:=HG.out.1.below HB2.out;have HGI:=hD (dgives_any HF.out hg2.1 HX.out.1 HX.out.2.1 HX.out.2.2 _ _ (Vw op) (Vf op) (HG.out.1.new_ints HP.out) (HG.out.1.new_ints HQ.out) HLN.out.1 HLN.out.2);rw[HRR.out]at HGI;have HG2:=hD hg2.2;clear hg2 HNU;go_wp2_with (go_at_call 135;refine(HGI.out).mono ?_;rintro e w3 ⟨x3,g3,s3,rfl,r3⟩;have HG3:=hD g3;have HS3:=hD s3;have HR3:=hD r3;clear g3 s3 r3)
 go_ret;exact⟨x3,HG3.out,(HG.out.2.trans HG2.out).trans HS3.out,rfl,HR3.out⟩
theorem dtyped_ctl {F:Wx} {w:World} {x:Ws} (hF:F.ref) (h:Wk F w x) (op a b n:Int) (hop:WS op=false) (hac:¬ 0<(WK op).1) (hco:WZ op=0) (hle:op≤18) (Al:Option Addr) (nl cl:Nat) (r:Option Pl)
 (hC:∀ w1,Wk F w1 x→Wz F w x w1 x→Calls Tryz.prog 139 #[.pointer (some ⟨F.G,0,none⟩),.agg #[.int .i64 op,.int .i64 a,.int .i64 b,.int .u64 n,.slice Al nl cl]] w1 (VI F w1 x r)) :
 Calls Tryz.prog 89 #[.pointer (some ⟨F.G,0,none⟩),.agg #[.int .i64 op,.int .i64 a,.int .i64 b,.int .u64 n,.slice Al nl cl]] w (VI F w x r):=by
 obtain⟨W,hW⟩:∃ W,W=w.alloc (.cells #[.int .i64 op,.int .i64 a,.int .i64 b,.int .u64 n,.slice Al nl cl] 25):=⟨_,rfl⟩;have hk:∀ j:Nat,W.cell? ⟨w.heap.size,j,none⟩=(#[.int .i64 op,.int .i64 a,.int .i64 b,.int .u64 n,.slice Al nl cl]:Array Value)[j]?:=fun j=>by rw[hW,wN]
 have HKX:Hid (∀ wz,Below W.heap.size W wz→wz.cell? ⟨w.heap.size,0,none⟩=some (.int .i64 op)∧wz.cell? ⟨w.heap.size,1,none⟩=some (.int .i64 a)∧wz.cell? ⟨w.heap.size,2,none⟩=some (.int .i64 b)∧wz.cell? ⟨w.heap.size,3,none⟩=some (.int .u64 n)∧wz.cell? ⟨w.heap.size,4,none⟩=some (.slice Al nl cl)):=hD fun wz hz =>
  ⟨(hz.cell (wL W _ (hk 0))).trans (hk 0),(hz.cell (wL W _ (hk 1))).trans (hk 1),(hz.cell (wL W _ (hk 2))).trans (hk 2),(hz.cell (wL W _ (hk 3))).trans (hk 3),(hz.cell (wL W _ (hk 4))).trans (hk 4)⟩
 have hgs:=h.alloc (.cells #[.int .i64 op,.int .i64 a,.int .i64 b,.int .u64 n,.slice Al nl cl] 25);rw[← hW]at hgs;have HG:=hD hgs;have HW:=hD hW;have HF:=hD hF;obtain⟨k0,k1,k2,k3,k4⟩:=HKX.out W (bR _ _);have HNU:=hD (fun w=>rnum_at op false hop w);have HAC:=hD (fun w=>Wn op w);have HCO:=hD (fun w=>WD op w);have HCC:=hD hC;rw[hco]at HCO;obtain⟨⟨a1,a2,a3,a4⟩,ha⟩:∃ q,WK op=q:=⟨_,rfl⟩;rw[ha]at HAC hac;simp only at HAC hac;have d1:decide (0<a1)=false:=decide_eq_false hac;have d2:decide (op≤18)=true:=by simp;omega
 unfold RNumAt at HNU;clear h hgs hW hF hop hk hC hac hco hle ha;go_enter Tryz.func89,Tryz.ntmps89
 go_upto_region 1 with (fail)
 rw[← HW.out]
 go_upto_region 2 with (go_at_call 134;refine(HNU.out _).mono ?_;rintro e w2 ⟨Ap,np,cp,Aq,nq,cq,rfl,hb2⟩;have HB2:=hD hb2;clear hb2)
 obtain⟨j0,j1,j2,j3,j4⟩:=HKX.out w2 HB2.out;have HCD:=hD (HCC.out w2 (HG.out.1.below HB2.out).1 (HG.out.2.trans (HG.out.1.below HB2.out).2));clear k0 k1 k2 k3 k4;go_wp2_with (first
  | (go_at_call 131;refine(HAC.out _).mono ?_;rintro e w3 ⟨rfl,rfl⟩)
  | (go_at_call 138;refine(HCO.out _).mono ?_;rintro e w3 ⟨rfl,rfl⟩)
  | (go_at_call 139;refine(HCD.out).mono ?_;rintro e w4 ⟨x3,g3,s3,rfl,r3⟩;have HG3:=hD g3;have HS3:=hD s3;have HR3:=hD r3;clear g3 s3 r3))
 exact Zdi
theorem dtyped_pln {F:Wx} {w:World} {x:Ws} (hF:F.ref) (h:Wk F w x) (op a b n:Int) (hop:WS op=false) (hac:¬ 0<(WK op).1) (hco:WZ op=0) (hle:18<op) (Al:Option Addr) (nl cl:Nat) (r:Option Pl)
 (hC:∀ w1,Wk F w1 x→Wz F w x w1 x→Calls Tryz.prog 140 #[.pointer (some ⟨F.G,0,none⟩),.agg #[.int .i64 op,.int .i64 a,.int .i64 b,.int .u64 n,.slice Al nl cl]] w1 (VI F w1 x r)) :
 Calls Tryz.prog 89 #[.pointer (some ⟨F.G,0,none⟩),.agg #[.int .i64 op,.int .i64 a,.int .i64 b,.int .u64 n,.slice Al nl cl]] w (VI F w x r):=by
 obtain⟨W,hW⟩:∃ W,W=w.alloc (.cells #[.int .i64 op,.int .i64 a,.int .i64 b,.int .u64 n,.slice Al nl cl] 25):=⟨_,rfl⟩;have hk:∀ j:Nat,W.cell? ⟨w.heap.size,j,none⟩=(#[.int .i64 op,.int .i64 a,.int .i64 b,.int .u64 n,.slice Al nl cl]:Array Value)[j]?:=fun j=>by rw[hW,wN]
 have HKX:Hid (∀ wz,Below W.heap.size W wz→wz.cell? ⟨w.heap.size,0,none⟩=some (.int .i64 op)∧wz.cell? ⟨w.heap.size,1,none⟩=some (.int .i64 a)∧wz.cell? ⟨w.heap.size,2,none⟩=some (.int .i64 b)∧wz.cell? ⟨w.heap.size,3,none⟩=some (.int .u64 n)∧wz.cell? ⟨w.heap.size,4,none⟩=some (.slice Al nl cl)):=hD fun wz hz =>
  ⟨(hz.cell (wL W _ (hk 0))).trans (hk 0),(hz.cell (wL W _ (hk 1))).trans (hk 1),(hz.cell (wL W _ (hk 2))).trans (hk 2),(hz.cell (wL W _ (hk 3))).trans (hk 3),(hz.cell (wL W _ (hk 4))).trans (hk 4)⟩
 have hgs:=h.alloc (.cells #[.int .i64 op,.int .i64 a,.int .i64 b,.int .u64 n,.slice Al nl cl] 25);rw[← hW]at hgs;have HG:=hD hgs;have HW:=hD hW;have HF:=hD hF;obtain⟨k0,k1,k2,k3,k4⟩:=HKX.out W (bR _ _);have HNU:=hD (fun w=>rnum_at op false hop w);have HAC:=hD (fun w=>Wn op w);have HCO:=hD (fun w=>WD op w);have HCC:=hD hC;rw[hco]at HCO;obtain⟨⟨a1,a2,a3,a4⟩,ha⟩:∃ q,WK op=q:=⟨_,rfl⟩;rw[ha]at HAC hac;simp only at HAC hac;have d1:decide (0<a1)=false:=decide_eq_false hac;have d2:decide (op≤18)=false:=by simp;omega
 unfold RNumAt at HNU;clear h hgs hW hF hop hk hC hac hco hle ha;go_enter Tryz.func89,Tryz.ntmps89
 go_upto_region 1 with (fail)
 rw[← HW.out]
 go_upto_region 2 with (go_at_call 134;refine(HNU.out _).mono ?_;rintro e w2 ⟨Ap,np,cp,Aq,nq,cq,rfl,hb2⟩;have HB2:=hD hb2;clear hb2)
 obtain⟨j0,j1,j2,j3,j4⟩:=HKX.out w2 HB2.out;have HCD:=hD (HCC.out w2 (HG.out.1.below HB2.out).1 (HG.out.2.trans (HG.out.1.below HB2.out).2));clear k0 k1 k2 k3 k4;go_wp2_with (first
  | (go_at_call 131;refine(HAC.out _).mono ?_;rintro e w3 ⟨rfl,rfl⟩)
  | (go_at_call 138;refine(HCO.out _).mono ?_;rintro e w3 ⟨rfl,rfl⟩)
  | (go_at_call 140;refine(HCD.out).mono ?_;rintro e w4 ⟨x3,g3,s3,rfl,r3⟩;have HG3:=hD g3;have HS3:=hD s3;have HR3:=hD r3;clear g3 s3 r3))
 exact Zdi
theorem dstore_any (op:Int) (w:World):Calls Tryz.prog 136 #[.int .i64 op] w fun e w'=>e=.returned (.bool (decide (54≤op) && decide (op≤62)))∧w'=w:=by
 go_enter Tryz.func136,Tryz.ntmps136;go_wp2
 all_goals go_ret
 all_goals exact⟨WV (by simp;omega),rfl⟩
theorem ints_new2' (w:World) {W:World} (hb:Below w.heap.size w W) (a b:Int):Wf (fun k=>w.heap.size≤k∧k<(W.alloc (.cells #[.int .i64 a,.int .i64 b] 3)).heap.size) (W.alloc (.cells #[.int .i64 a,.int .i64 b] 3)) (.slice (some ⟨W.heap.size,0,none⟩) 2 2) [a,b] :=
 ⟨_,2,rfl,(show(2:Nat)≤maxLen by decide),fun h=>(by cases h),fun _=>⟨W.heap.size,0,rfl,⟨hb.size,by simp⟩,fun j hj=>by
  have hj:j<2:=hj;rw[Nat.zero_add,wN];rcases j with _|_|j
  ·rfl
  ·rfl
  ·omega⟩⟩
theorem ints_nil (K:Nat→Prop) (w:World):Wf K w (.slice none 0 0) []:=⟨none,0,rfl,nZ _,fun _=>rfl,fun h=>absurd h (Nat.lt_irrefl _)⟩
theorem dtyped_store {F:Wx} {w:World} {x:Ws} (hF:F.ref) (h:Wk F w x) (h0:0<x.f.length) (hs:x.s.length≤900000) (hh:x.top.h≤x.s.length) (op a b n:Int) (hop:WS op=false) (Al:Option Addr) (nl cl:Nat) (hac:0<(WK op).1) (hst:54≤op∧op≤62) :
 Calls Tryz.prog 89 #[.pointer (some ⟨F.G,0,none⟩),.agg #[.int .i64 op,.int .i64 a,.int .i64 b,.int .u64 n,.slice Al nl cl]] w (VI F w x (WC x.pl [127,(WK op).2.1])):=by
 obtain⟨W,hW⟩:∃ W,W=w.alloc (.cells #[.int .i64 op,.int .i64 a,.int .i64 b,.int .u64 n,.slice Al nl cl] 25):=⟨_,rfl⟩;have hk:∀ j:Nat,W.cell? ⟨w.heap.size,j,none⟩=(#[.int .i64 op,.int .i64 a,.int .i64 b,.int .u64 n,.slice Al nl cl]:Array Value)[j]?:=fun j=>by rw[hW,wN]
 have HKX:Hid (∀ wz,Below W.heap.size W wz→wz.cell? ⟨w.heap.size,0,none⟩=some (.int .i64 op)∧wz.cell? ⟨w.heap.size,1,none⟩=some (.int .i64 a)∧wz.cell? ⟨w.heap.size,2,none⟩=some (.int .i64 b)∧wz.cell? ⟨w.heap.size,3,none⟩=some (.int .u64 n)∧wz.cell? ⟨w.heap.size,4,none⟩=some (.slice Al nl cl)):=hD fun wz hz =>
  ⟨(hz.cell (wL W _ (hk 0))).trans (hk 0),(hz.cell (wL W _ (hk 1))).trans (hk 1),(hz.cell (wL W _ (hk 2))).trans (hk 2),(hz.cell (wL W _ (hk 3))).trans (hk 3),(hz.cell (wL W _ (hk 4))).trans (hk 4)⟩
 have hgs:=h.alloc (.cells #[.int .i64 op,.int .i64 a,.int .i64 b,.int .u64 n,.slice Al nl cl] 25);rw[← hW]at hgs;have HG:=hD hgs;have HW:=hD hW;have HF:=hD hF;obtain⟨k0,k1,k2,k3,k4⟩:=HKX.out W (bR _ _);have HNU:=hD (fun w=>rnum_at op false hop w);have HAC:=hD (fun w=>Wn op w);have HSO:=hD (fun w=>dstore_any op w);have HCO:=hD (fun w=>WD op w);have HX:=hD (⟨h0,hs,hh⟩:0<x.f.length∧x.s.length≤900000∧x.top.h≤x.s.length);obtain⟨⟨a1,a2,a3,a4⟩,ha⟩:∃ q,WK op=q:=⟨_,rfl⟩;rw[ha]at HAC hac ⊢;simp only at HAC hac ⊢;unfold RNumAt at HNU;have d1:decide (0<a1)=true:=decide_eq_true hac;rw[decide_eq_true hst.1,decide_eq_true hst.2]at HSO;clear h h0 hs hh hgs hW hF hop hk ha hac hst HCO;go_enter Tryz.func89,Tryz.ntmps89
 go_upto_region 1 with (fail)
 rw[← HW.out]
 go_upto_region 2 with (go_at_call 134;refine(HNU.out _).mono ?_;rintro e w2 ⟨Ap,np,cp,Aq,nq,cq,rfl,hb2⟩;have HB2:=hD hb2;clear hb2)
 obtain⟨j0,j1,j2,j3,j4⟩:=HKX.out w2 HB2.out;have hg2:=HG.out.1.below HB2.out;have HG2:=hD hg2;clear k0 k1 k2 k3 k4;have hg5:=hg2.1.alloc (.cells #[.int .i64 127,.int .i64 a2] 3);have HPP:=hD ((VD HF.out hg5.1 HX.out.1 (by have:=HX.out.2.1;omega) HX.out.2.2 _ [127,a2] (hg2.1.new_ints (ints_new2' w2 (bR w2.heap.size w2) 127 a2)) (by simp)).mono fun e w' h=>h.fol);have HG5:=hD hg5.2;clear hg5 hg2;go_wp2_with (first
  | (go_at_call 131;refine(HAC.out _).mono ?_;rintro e w3 ⟨rfl,rfl⟩)
  | (go_at_call 136;refine(HSO.out _).mono ?_;rintro e w3 ⟨rfl,rfl⟩)
  | (go_at_call 137;refine(HPP.out).mono ?_;rintro e w4 ⟨x3,g3,s3,rfl,r3⟩;have HG3:=hD g3;have HS3:=hD s3;have HR3:=hD r3;clear g3 s3 r3))
 exact Zcz
theorem dtyped_load {F:Wx} {w:World} {x:Ws} (hF:F.ref) (h:Wk F w x) (h0:0<x.f.length) (hs:x.s.length≤900000) (hh:x.top.h≤x.s.length) (op a b n:Int) (hop:WS op=false) (Al:Option Addr) (nl cl:Nat) (hac:0<(WK op).1) (hst:¬ 54≤op) :
 Calls Tryz.prog 89 #[.pointer (some ⟨F.G,0,none⟩),.agg #[.int .i64 op,.int .i64 a,.int .i64 b,.int .u64 n,.slice Al nl cl]] w (VI F w x (VL x.pl [127] [(WK op).2.1])):=by
 obtain⟨W,hW⟩:∃ W,W=w.alloc (.cells #[.int .i64 op,.int .i64 a,.int .i64 b,.int .u64 n,.slice Al nl cl] 25):=⟨_,rfl⟩;have hk:∀ j:Nat,W.cell? ⟨w.heap.size,j,none⟩=(#[.int .i64 op,.int .i64 a,.int .i64 b,.int .u64 n,.slice Al nl cl]:Array Value)[j]?:=fun j=>by rw[hW,wN]
 have HKX:Hid (∀ wz,Below W.heap.size W wz→wz.cell? ⟨w.heap.size,0,none⟩=some (.int .i64 op)∧wz.cell? ⟨w.heap.size,1,none⟩=some (.int .i64 a)∧wz.cell? ⟨w.heap.size,2,none⟩=some (.int .i64 b)∧wz.cell? ⟨w.heap.size,3,none⟩=some (.int .u64 n)∧wz.cell? ⟨w.heap.size,4,none⟩=some (.slice Al nl cl)):=hD fun wz hz =>
  ⟨(hz.cell (wL W _ (hk 0))).trans (hk 0),(hz.cell (wL W _ (hk 1))).trans (hk 1),(hz.cell (wL W _ (hk 2))).trans (hk 2),(hz.cell (wL W _ (hk 3))).trans (hk 3),(hz.cell (wL W _ (hk 4))).trans (hk 4)⟩
 have hgs:=h.alloc (.cells #[.int .i64 op,.int .i64 a,.int .i64 b,.int .u64 n,.slice Al nl cl] 25);rw[← hW]at hgs;have HG:=hD hgs;have HW:=hD hW;have HF:=hD hF;obtain⟨k0,k1,k2,k3,k4⟩:=HKX.out W (bR _ _);have HNU:=hD (fun w=>rnum_at op false hop w);have HAC:=hD (fun w=>Wn op w);have HSO:=hD (fun w=>dstore_any op w);have HCO:=hD (fun w=>WD op w);have HX:=hD (⟨h0,hs,hh⟩:0<x.f.length∧x.s.length≤900000∧x.top.h≤x.s.length);obtain⟨⟨a1,a2,a3,a4⟩,ha⟩:∃ q,WK op=q:=⟨_,rfl⟩;rw[ha]at HAC hac ⊢;simp only at HAC hac ⊢;unfold RNumAt at HNU;have d1:decide (0<a1)=true:=decide_eq_true hac;rw[decide_eq_false hst]at HSO;clear h h0 hs hh hgs hW hF hop hk ha hac hst HCO;go_enter Tryz.func89,Tryz.ntmps89
 go_upto_region 1 with (fail)
 rw[← HW.out]
 go_upto_region 2 with (go_at_call 134;refine(HNU.out _).mono ?_;rintro e w2 ⟨Ap,np,cp,Aq,nq,cq,rfl,hb2⟩;have HB2:=hD hb2;clear hb2)
 obtain⟨j0,j1,j2,j3,j4⟩:=HKX.out w2 HB2.out;have hg2:=HG.out.1.below HB2.out;have HG2:=hD hg2;clear k0 k1 k2 k3 k4;have hg4:=hg2.1.alloc (.cells #[.int .i64 127] 3);have hg5:=hg4.1.alloc (.cells #[.int .i64 a2] 3);have hpp:=dgives_any HF.out hg5.1 HX.out.1 HX.out.2.1 HX.out.2.2 _ _ [127] [a2] (hg5.2.ints (hg2.1.new_ints (WH w2 (bR w2.heap.size w2) 127))) (hg4.1.new_ints (WH _ (bR (w2.alloc (.cells #[.int .i64 127] 3)).heap.size (w2.alloc (.cells #[.int .i64 127] 3))) a2)) (by simp) (by simp);rw[Wj]at hpp;have HPP:=hD hpp;have HG5:=hD (hg4.2.trans hg5.2);clear hg5 hg4 hg2 hpp;go_wp2_with (first
  | (go_at_call 131;refine(HAC.out _).mono ?_;rintro e w3 ⟨rfl,rfl⟩)
  | (go_at_call 136;refine(HSO.out _).mono ?_;rintro e w3 ⟨rfl,rfl⟩)
  | (go_at_call 135;refine(HPP.out).mono ?_;rintro e w4 ⟨x3,g3,s3,rfl,r3⟩;have HG3:=hD g3;have HS3:=hD s3;have HR3:=hD r3;clear g3 s3 r3))
 exact Zcz
theorem dtyped_const {F:Wx} {w:World} {x:Ws} (hF:F.ref) (h:Wk F w x) (h0:0<x.f.length) (hs:x.s.length≤900000) (hh:x.top.h≤x.s.length) (op a b n:Int) (hop:WS op=false) (Al:Option Addr) (nl cl:Nat) (hac:¬ 0<(WK op).1) (hco:WZ op≠0) :
 Calls Tryz.prog 89 #[.pointer (some ⟨F.G,0,none⟩),.agg #[.int .i64 op,.int .i64 a,.int .i64 b,.int .u64 n,.slice Al nl cl]] w (VI F w x (VL x.pl [] [WZ op])):=by
 obtain⟨W,hW⟩:∃ W,W=w.alloc (.cells #[.int .i64 op,.int .i64 a,.int .i64 b,.int .u64 n,.slice Al nl cl] 25):=⟨_,rfl⟩;have hk:∀ j:Nat,W.cell? ⟨w.heap.size,j,none⟩=(#[.int .i64 op,.int .i64 a,.int .i64 b,.int .u64 n,.slice Al nl cl]:Array Value)[j]?:=fun j=>by rw[hW,wN]
 have HKX:Hid (∀ wz,Below W.heap.size W wz→wz.cell? ⟨w.heap.size,0,none⟩=some (.int .i64 op)∧wz.cell? ⟨w.heap.size,1,none⟩=some (.int .i64 a)∧wz.cell? ⟨w.heap.size,2,none⟩=some (.int .i64 b)∧wz.cell? ⟨w.heap.size,3,none⟩=some (.int .u64 n)∧wz.cell? ⟨w.heap.size,4,none⟩=some (.slice Al nl cl)):=hD fun wz hz =>
  ⟨(hz.cell (wL W _ (hk 0))).trans (hk 0),(hz.cell (wL W _ (hk 1))).trans (hk 1),(hz.cell (wL W _ (hk 2))).trans (hk 2),(hz.cell (wL W _ (hk 3))).trans (hk 3),(hz.cell (wL W _ (hk 4))).trans (hk 4)⟩
 have hgs:=h.alloc (.cells #[.int .i64 op,.int .i64 a,.int .i64 b,.int .u64 n,.slice Al nl cl] 25);rw[← hW]at hgs;have HG:=hD hgs;have HW:=hD hW;have HF:=hD hF;obtain⟨k0,k1,k2,k3,k4⟩:=HKX.out W (bR _ _);have HNU:=hD (fun w=>rnum_at op false hop w);have HAC:=hD (fun w=>Wn op w);have HSO:=hD (fun w=>dstore_any op w);have HCO:=hD (fun w=>WD op w);have HX:=hD (⟨h0,hs,hh⟩:0<x.f.length∧x.s.length≤900000∧x.top.h≤x.s.length);obtain⟨⟨a1,a2,a3,a4⟩,ha⟩:∃ q,WK op=q:=⟨_,rfl⟩;rw[ha]at HAC hac;simp only at HAC hac;unfold RNumAt at HNU;have d1:decide (0<a1)=false:=decide_eq_false hac;have d2:(WZ op != 0)=true:=by simpa using hco
 generalize WZ op=t at *;clear h h0 hs hh hgs hW hF hop hk ha hac hco HSO;go_enter Tryz.func89,Tryz.ntmps89
 go_upto_region 1 with (fail)
 rw[← HW.out]
 go_upto_region 2 with (go_at_call 134;refine(HNU.out _).mono ?_;rintro e w2 ⟨Ap,np,cp,Aq,nq,cq,rfl,hb2⟩;have HB2:=hD hb2;clear hb2)
 obtain⟨j0,j1,j2,j3,j4⟩:=HKX.out w2 HB2.out;have hg2:=HG.out.1.below HB2.out;have HG2:=hD hg2;clear k0 k1 k2 k3 k4;have hg5:=hg2.1.alloc (.cells #[.int .i64 t] 3);have HPP:=hD (dgives_any HF.out hg5.1 HX.out.1 HX.out.2.1 HX.out.2.2 (.slice none 0 0) _ [] [t] (ints_nil _ _) (hg2.1.new_ints (WH w2 (bR w2.heap.size w2) t)) (by simp) (by simp));have HG5:=hD hg5.2;clear hg5 hg2;go_wp2_with (first
  | (go_at_call 131;refine(HAC.out _).mono ?_;rintro e w3 ⟨rfl,rfl⟩)
  | (go_at_call 138;refine(HCO.out _).mono ?_;rintro e w3 ⟨rfl,rfl⟩)
  | (go_at_call 135;refine(HPP.out).mono ?_;rintro e w4 ⟨x3,g3,s3,rfl,r3⟩;have HG3:=hD g3;have HS3:=hD s3;have HR3:=hD r3;clear g3 s3 r3))
 exact Zcz
end
section
def mostC (m:Vt) (kind:Int):Nat:=if kind=2 then m.mems.length else if kind=3 then m.globs.length else m.imps.length+m.funs.length
def dsigsC (m:Vt):Bool:=(List.range (m.imps.length+m.funs.length)).all fun k=>(WB m (k:Int)).isSome
def dexpIn (m:Vt) (e:ByteArray×Int×Int):Bool:=decide (e.2.2<(mostC m e.2.1:Int))
def ddatIn (n:Nat) (d:Dat):Bool:=!d.act || decide (d.mem<(n:Int))
def V8 (m:Vt) (prof:Int):Int :=
 if dsigsC m=false then 23
 else if m.exps.all (dexpIn m)=false then 23
 else if m.datas.all (ddatIn m.mems.length)=false then 23
 else if prof=1∧plainC m=false then 24
 else 0
def VC (m:Vt) (prof:Int):Int :=
 if prof≠1∧prof≠2 then 1
 else if WU m≠0 then WU m
 else if Vp UO m.funs≠0 then Vp UO m.funs
 else if V8 m prof≠0 then V8 m prof
 else Vp (fun k:Nat=>(VJ m (k:Int) prof).2) (List.range m.funs.length)
theorem right_all {m:Vt} (h:WU m=0):m.imps.all impB=true∧m.funs.all fncB=true∧(∀ e ∈ m.exps,exOneB e=true)∧m.datas.all datB=true:=by
 have hp:UG m=true:=by
  unfold WU at h
  split at h
  ·split at h
   ·assumption
   ·cases h
  ·cases h
 unfold UG at hp;simp only[Bool.and_eq_true]at hp;obtain⟨⟨⟨⟨⟨⟨⟨_,hi⟩,hf⟩,_⟩,_⟩,he⟩,hd⟩,_⟩:=hp;refine⟨hi,hf,fun e hm=>?_,hd⟩;obtain⟨j,hj,rfl⟩:=List.mem_iff_getElem.1 hm;have h1:=List.all_eq_true.1 he j (List.mem_range.2 hj);unfold exAtB at h1;rw[Bool.and_eq_true,List.getD_eq_getElem?_getD,List.getElem?_eq_getElem hj]at h1;exact h1.1
theorem typeB_isin (m:Vt) (k:Int):(Uo m k).isSome=Wi k m.types.length:=by
 unfold Uo Wi;by_cases h:0≤k∧k<m.types.length
 ·rw[if_pos h];simp[h.1,h.2]
 ·rw[if_neg h];by_cases h1:0≤k
  ·have:¬ k<m.types.length:=fun h2=>h ⟨h1,h2⟩;simp[this]
  ·simp[h1]
theorem fsig_imp (m:Vt) (k:Nat) (hk:k<m.imps.length):(WB m (k:Int)).isSome=impIn m.types.length (m.imps.getD k (ByteArray.empty,ByteArray.empty,0)):=by
 unfold WB impIn;rw[if_neg (by omega),if_pos (by omega),typeB_isin,Int.toNat_natCast]
theorem fsig_fun (m:Vt) (k:Nat) (hk:k<m.funs.length):(WB m ((m.imps.length:Int)+k)).isSome=funIn m.types.length (m.funs.getD k WW):=by
 unfold WB funIn;rw[if_neg (by omega),if_neg (by omega),typeB_isin,show((m.imps.length:Int)+k - m.imps.length).toNat=k by omega]
theorem dsigs_eq (m:Vt):dsigsC m=Ub m:=by
 rw[Bool.eq_iff_iff];unfold dsigsC Ub;rw[Bool.and_eq_true,List.all_eq_true];constructor
 ·intro h;refine⟨all_yes (d:=(ByteArray.empty,ByteArray.empty,0)) fun j hj=>?_,all_yes (d:=WW) fun j hj=>?_⟩
  ·rw[← fsig_imp m j hj];exact h j (List.mem_range.2 (by omega))
  ·rw[← fsig_fun m j hj,show(m.imps.length:Int)+j=((m.imps.length+j:Nat):Int) by omega];exact h _ (List.mem_range.2 (by omega))
 ·intro⟨h1,h2⟩ k hk;have hk:=List.mem_range.1 hk;by_cases hc:k<m.imps.length
  ·rw[fsig_imp m k hc];exact List.all_eq_true.1 h1 _ (WA _ _ _ hc)
  ·rw[show((k:Nat):Int)=(m.imps.length:Int)+((k - m.imps.length:Nat):Int) by omega,fsig_fun m _ (by omega)];exact List.all_eq_true.1 h2 _ (WA _ _ _ (by omega))
theorem all_same {α:Type} {p q:α→Bool} {l:List α} (h:∀ a ∈ l,p a=q a):l.all p=l.all q:=by
 rw[Bool.eq_iff_iff,List.all_eq_true,List.all_eq_true];exact⟨fun k a ha=>by rw[← h a ha];exact k a ha,fun k a ha=>by rw[h a ha];exact k a ha⟩
theorem dexps_eq {m:Vt} (h:WU m=0):m.exps.all (dexpIn m)=m.exps.all (expIn m):=all_same fun e he=>by
 have h1:=(right_all h).2.2.1 e he;unfold exOneB idxB inB at h1;simp only[Bool.and_eq_true,decide_eq_true_eq]at h1;unfold dexpIn expIn;rw[show mostC m e.2.1=countC m e.2.1 by
  unfold mostC countC;rcases h1.2 with h2|h2|h2
  ·rw[if_neg (by omega),if_neg (by omega),if_pos h2]
  ·rw[if_pos h2,if_neg (by omega),if_pos h2]
  ·rw[if_neg (by omega),if_pos h2,if_neg (by omega),if_neg (by omega)]]
 exact VW h1.1.2.1
theorem ddats_eq {m:Vt} (h:WU m=0):m.datas.all (ddatIn m.mems.length)=m.datas.all (datIn m.mems.length):=all_same fun d hd=>by
 have h1:=List.all_eq_true.1 (right_all h).2.2.2 d hd;unfold datB inB at h1;unfold ddatIn datIn;cases ha:d.act with
 | false=>rfl
 | true =>
  rw[ha]at h1;simp only[if_true,Bool.and_eq_true,decide_eq_true_eq]at h1;rw[VW h1.1.1.1]
theorem firstC_same {α:Type} {f g:α→Int}:∀ {l:List α},(∀ a ∈ l,f a=g a)→Vp f l=Vp g l
 | [],_=>rfl
 | a :: l,h=>by
  unfold Vp;rw[h a (by simp),firstC_same (l:=l) fun b hb=>h b (by simp[hb])]
theorem firstC_all {α:Type} {g:α→Int}:∀ {l:List α},Vp g l=0→∀ a ∈ l,g a=0
 | [],_,a,ha=>by cases ha
 | b :: l,h,a,ha=>by
  unfold Vp at h;by_cases h0:g b=0
  ·rw[if_pos h0]at h;rcases List.mem_cons.1 ha with rfl|h1
   ·exact h0
   ·exact firstC_all h a h1
  ·rw[if_neg h0]at h;exact absurd h h0
theorem dmodule_eq (m:Vt) (prof:Int):VC m prof=UW m prof:=by
 unfold VC UW;by_cases c1:prof≠1∧prof≠2
 ·rw[if_pos c1,if_pos c1]
 rw[if_neg c1,if_neg c1];by_cases c2:WU m≠0
 ·rw[if_pos c2,if_pos c2]
 rw[if_neg c2,if_neg c2];have c2:=Classical.not_not.1 c2;by_cases c3:Vp UO m.funs≠0
 ·rw[if_pos c3,if_pos c3]
 rw[if_neg c3,if_neg c3];have c3:=Classical.not_not.1 c3;unfold V8;rw[dsigs_eq,dexps_eq c2,ddats_eq c2];cases h1:Ub m with
 | false=>rfl
 | true =>
  cases h2:m.exps.all (expIn m) with
  | false=>rfl
  | true =>
   cases h3:m.datas.all (datIn m.mems.length) with
   | false=>rfl
   | true =>
    simp only[Bool.and_self,Bool.true_eq_false,if_false];by_cases c4:prof=1∧plainC m=false
    ·rw[if_pos c4,if_pos c4];rfl
    rw[if_neg c4,if_neg c4];show(if (0:Int)≠0 then _ else _)=_;rw[if_neg (by decide)];unfold funcsC;refine firstC_same fun k hk=>?_;have hk:=List.mem_range.1 hk;have hs:(WB m ((m.imps.length:Int)+k)).isSome=true:=by
     unfold Ub at h1;rw[Bool.and_eq_true]at h1;rw[fsig_fun m k hk];exact List.all_eq_true.1 h1.2 _ (WA _ _ _ hk)
    rw[dfunc_eq c2 hk hs (firstC_all c3 _ (WA _ _ _ hk))]
end
end Go.Proofs.YtmfpnfdinoofpaaGreatDoor
