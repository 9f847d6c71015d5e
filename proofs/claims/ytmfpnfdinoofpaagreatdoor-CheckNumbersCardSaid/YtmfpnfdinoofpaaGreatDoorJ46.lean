/- A part of the proof. -/
import Derived.Test.YtmfpnfdinoofpaaGreatDoorJ36
namespace Go.Proofs.YtmfpnfdinoofpaaGreatDoor
open Go.RowKit
set_option maxHeartbeats 4000000
set_option maxRecDepth 100000
theorem ZG {P:Prop}(h:P:=by
 rw[← hW]at hgs;have HG:=hD hgs;have HW:=hD hW;have HF:=hD hF;have hg2:=hgs.1.alloc (.cells #[.int .i64 127,.int .i64 127,.int .i64 127] 3);have HPP:=hD (VD hF hg2.1 h0 (by omega) hh _ [127,127,127] (hgs.1.new_ints (dints_new3 W (bR W.heap.size W) 127 127 127)) (by simp));have HG2:=hD hg2.2;clear h h0 hs hh hgs hW hF hg2;go_enter Tryz.func140,Tryz.ntmps140
 go_upto_region 1 with (fail)
 rw[← HW.out];go_wp2_with (go_at_call 137;refine(HPP.out).mono ?_;rintro e w3 ⟨x3,g3,s3,rfl,-,r3⟩;have HG3:=hD g3;have HS3:=hD s3;have HR3:=hD r3;clear g3 s3 r3)
 go_ret;exact⟨x3,HG3.out,(HG.out.2.trans HG2.out).trans HS3.out,rfl,HR3.out⟩):P:=h
theorem Zbc {P:Prop}(h:P:=by
 obtain⟨g9,o9,e8,hk9,_⟩:=h9 (by omega);rw[e8]at e9;simp only[vI,Option.some.injEq,Addr.mk.injEq]at e9;rw[e9.1.1];exact hk9):P:=h
theorem ZcS {P:Prop}(h:P:=by
 go_wp2;go_ret;exact⟨x3,HG3.out,(HG.out.2.trans HXD.out).trans HS3.out,rfl,fun _=>by unfold Vg Ws.pl;rw[HR3.out.1,HR3.out.2]⟩):P:=h
theorem Zdm {P:Prop}(h:P:=by
 obtain⟨A9,c9,e9,_,_,h9⟩:=hlo;exact Zbc):P:=h
theorem Zdn {P:Prop}(h:P:=by
 go_wp2;go_ret;exact⟨x3,HG3.out,(HG.out.2.trans HXD.out).trans HS3.out,rfl,HR3.out⟩):P:=h
theorem dplain_26 {F:Wx} {w:World} {x:Ws} (hF:F.ref) (h:Wk F w x) (h0:0<x.f.length) (hs:x.s.length≤900000) (hh:x.top.h≤x.s.length) (a b n:Int) (Al:Option Addr) (nl cl:Nat) :
 Calls Tryz.prog 140 #[.pointer (some ⟨F.G,0,none⟩),.agg #[.int .i64 26,.int .i64 a,.int .i64 b,.int .u64 n,.slice Al nl cl]] w (VI F w x ((UL x.pl 0).map Prod.snd)):=by
 obtain⟨W,hW⟩:∃ W,W=w.alloc (.cells #[.int .i64 26,.int .i64 a,.int .i64 b,.int .u64 n,.slice Al nl cl] 25):=⟨_,rfl⟩;have k0:W.cell? ⟨w.heap.size,0,none⟩=some (.int .i64 26):=by rw[hW,wN];rfl
 have k1:W.cell? ⟨w.heap.size,1,none⟩=some (.int .i64 a):=by rw[hW,wN];rfl
 have hgs:=h.alloc (.cells #[.int .i64 26,.int .i64 a,.int .i64 b,.int .u64 n,.slice Al nl cl] 25);rw[← hW]at hgs;have HG:=hD hgs;have HW:=hD hW;have HF:=hD hF;have HPP:=hD (dpop_any hF hgs.1 h0 (by omega) hh 0);clear h h0 hs hh hgs hW hF;go_enter Tryz.func140,Tryz.ntmps140
 go_upto_region 1 with (fail)
 rw[← HW.out];go_wp2_with (go_at_call 164;refine HPP.out.mono ?_;rintro e w3 ⟨t3,b3,x3,rfl,g3,s3,-,-,-,r3⟩;have HG3:=hD g3;have HS3:=hD s3;have HR3:=hD r3;clear g3 s3 r3)
 go_ret;refine⟨x3,HG3.out,HG.out.2.trans HS3.out,?_,?_⟩
 ·rw[HR3.out];cases b3 <;> rfl
 ·rw[HR3.out];cases b3
  ·intro hx;cases hx
  ·intro _;rfl
theorem dplain_27 {F:Wx} {w:World} {x:Ws} (hF:F.ref) (h:Wk F w x) (h0:0<x.f.length) (hs:x.s.length≤900000) (hh:x.top.h≤x.s.length) (a b n:Int) (Al:Option Addr) (nl cl:Nat) :
 Calls Tryz.prog 140 #[.pointer (some ⟨F.G,0,none⟩),.agg #[.int .i64 27,.int .i64 a,.int .i64 b,.int .u64 n,.slice Al nl cl]] w (VI F w x (U6 x.pl)):=by
 obtain⟨W,hW⟩:∃ W,W=w.alloc (.cells #[.int .i64 27,.int .i64 a,.int .i64 b,.int .u64 n,.slice Al nl cl] 25):=⟨_,rfl⟩;have k0:W.cell? ⟨w.heap.size,0,none⟩=some (.int .i64 27):=by rw[hW,wN];rfl
 have k1:W.cell? ⟨w.heap.size,1,none⟩=some (.int .i64 a):=by rw[hW,wN];rfl
 have hgs:=h.alloc (.cells #[.int .i64 27,.int .i64 a,.int .i64 b,.int .u64 n,.slice Al nl cl] 25);rw[← hW]at hgs;have HG:=hD hgs;have HW:=hD hW;have HF:=hD hF;have HPP:=hD (dchoose_any hF hgs.1 h0 hs hh);clear h h0 hs hh hgs hW hF;go_enter Tryz.func140,Tryz.ntmps140
 go_upto_region 1 with (fail)
 rw[← HW.out];go_wp2_with (go_at_call 170;refine(HPP.out).mono ?_;rintro e w3 ⟨x3,g3,s3,rfl,r3⟩;have HG3:=hD g3;have HS3:=hD s3;have HR3:=hD r3;clear g3 s3 r3)
 go_ret;exact⟨x3,HG3.out,HG.out.2.trans HS3.out,rfl,HR3.out⟩
theorem dplain_63 {F:Wx} {w:World} {x:Ws} (hF:F.ref) (h:Wk F w x) (_h0:0<x.f.length) (hs:x.s.length≤900000) (_hh:x.top.h≤x.s.length) (a b n:Int) (Al:Option Addr) (nl cl:Nat) :
 Calls Tryz.prog 140 #[.pointer (some ⟨F.G,0,none⟩),.agg #[.int .i64 63,.int .i64 a,.int .i64 b,.int .u64 n,.slice Al nl cl]] w (VI F w x (some (Vg x.pl [127]))):=by
 obtain⟨W,hW⟩:∃ W,W=w.alloc (.cells #[.int .i64 63,.int .i64 a,.int .i64 b,.int .u64 n,.slice Al nl cl] 25):=⟨_,rfl⟩;have k0:W.cell? ⟨w.heap.size,0,none⟩=some (.int .i64 63):=by rw[hW,wN];rfl
 have k1:W.cell? ⟨w.heap.size,1,none⟩=some (.int .i64 a):=by rw[hW,wN];rfl
 have hgs:=h.alloc (.cells #[.int .i64 63,.int .i64 a,.int .i64 b,.int .u64 n,.slice Al nl cl] 25);rw[← hW]at hgs;have HG:=hD hgs;have HW:=hD hW;have HF:=hD hF;have hg2:=hgs.1.alloc (.cells #[.int .i64 127] 3);have HPP:=hD (U4 hF hg2.1 _ [127] (hgs.1.new_ints (WH W (bR W.heap.size W) 127)) (by simp;omega));have HG2:=hD hg2.2;clear h hs hgs hW hF hg2;go_enter Tryz.func140,Tryz.ntmps140
 go_upto_region 1 with (fail)
 rw[← HW.out];go_wp2_with (go_at_call 163;refine HPP.out.mono ?_;rintro e w3 ⟨rfl,x3,g3,s3,r3⟩;have HG3:=hD g3;have HS3:=hD s3;have HR3:=hD r3;clear g3 s3 r3)
 go_ret;exact⟨x3,HG3.out,(HG.out.2.trans HG2.out).trans HS3.out,rfl,fun _=>by unfold Vg Ws.pl;rw[HR3.out.1,HR3.out.2]⟩
theorem dplain_64 {F:Wx} {w:World} {x:Ws} (hF:F.ref) (h:Wk F w x) (h0:0<x.f.length) (hs:x.s.length≤900000) (hh:x.top.h≤x.s.length) (a b n:Int) (Al:Option Addr) (nl cl:Nat) :
 Calls Tryz.prog 140 #[.pointer (some ⟨F.G,0,none⟩),.agg #[.int .i64 64,.int .i64 a,.int .i64 b,.int .u64 n,.slice Al nl cl]] w (VI F w x (VL x.pl [127] [127])):=by
 obtain⟨W,hW⟩:∃ W,W=w.alloc (.cells #[.int .i64 64,.int .i64 a,.int .i64 b,.int .u64 n,.slice Al nl cl] 25):=⟨_,rfl⟩;have k0:W.cell? ⟨w.heap.size,0,none⟩=some (.int .i64 64):=by rw[hW,wN];rfl
 have k1:W.cell? ⟨w.heap.size,1,none⟩=some (.int .i64 a):=by rw[hW,wN];rfl
 have hgs:=h.alloc (.cells #[.int .i64 64,.int .i64 a,.int .i64 b,.int .u64 n,.slice Al nl cl] 25);rw[← hW]at hgs;have HG:=hD hgs;have HW:=hD hW;have HF:=hD hF;have hg2:=hgs.1.alloc (.cells #[.int .i64 127] 3);have hg3:=hg2.1.alloc (.cells #[.int .i64 127] 3);have HPP:=hD (dgives_any hF hg3.1 h0 hs hh _ _ [127] [127] (hg3.2.ints (hgs.1.new_ints (WH W (bR W.heap.size W) 127))) (hg2.1.new_ints (WH _ (bR (W.alloc (.cells #[.int .i64 127] 3)).heap.size (W.alloc (.cells #[.int .i64 127] 3))) 127)) (by simp) (by simp));rw[Wj]at HPP;have HG2:=hD (hg2.2.trans hg3.2);clear h h0 hs hh hgs hW hF hg2 hg3;go_enter Tryz.func140,Tryz.ntmps140
 go_upto_region 1 with (fail)
 rw[← HW.out];go_wp2_with (go_at_call 135;refine(HPP.out).mono ?_;rintro e w3 ⟨x3,g3,s3,rfl,r3⟩;have HG3:=hD g3;have HS3:=hD s3;have HR3:=hD r3;clear g3 s3 r3)
 go_ret;exact⟨x3,HG3.out,(HG.out.2.trans HG2.out).trans HS3.out,rfl,HR3.out⟩
theorem dints_new3 (w:World) {W:World} (hb:Below w.heap.size w W) (a b c:Int):Wf (fun k=>w.heap.size≤k∧k<(W.alloc (.cells #[.int .i64 a,.int .i64 b,.int .i64 c] 3)).heap.size) (W.alloc (.cells #[.int .i64 a,.int .i64 b,.int .i64 c] 3)) (.slice (some ⟨W.heap.size,0,none⟩) 3 3) [a,b,c] :=
 ⟨_,3,rfl,(show(3:Nat)≤maxLen by decide),fun h=>(by cases h),fun _=>⟨W.heap.size,0,rfl,⟨hb.size,by simp⟩,fun j hj=>by
  have hj:j<3:=hj;rw[Nat.zero_add,wN];rcases j with _|_|_|j
  ·rfl
  ·rfl
  ·rfl
  ·omega⟩⟩
theorem dplain_64520 {F:Wx} {w:World} {x:Ws} (hF:F.ref) (h:Wk F w x) (h0:0<x.f.length) (hs:x.s.length≤900000) (hh:x.top.h≤x.s.length) (a b n:Int) (Al:Option Addr) (nl cl:Nat) :
 Calls Tryz.prog 140 #[.pointer (some ⟨F.G,0,none⟩),.agg #[.int .i64 64520,.int .i64 a,.int .i64 b,.int .u64 n,.slice Al nl cl]] w (VI F w x (WC x.pl [127,127,127])):=by
 obtain⟨W,hW⟩:∃ W,W=w.alloc (.cells #[.int .i64 64520,.int .i64 a,.int .i64 b,.int .u64 n,.slice Al nl cl] 25):=⟨_,rfl⟩;have k0:W.cell? ⟨w.heap.size,0,none⟩=some (.int .i64 64520):=by rw[hW,wN];rfl
 have k1:W.cell? ⟨w.heap.size,1,none⟩=some (.int .i64 a):=by rw[hW,wN];rfl
 have hgs:=h.alloc (.cells #[.int .i64 64520,.int .i64 a,.int .i64 b,.int .u64 n,.slice Al nl cl] 25);exact ZG
theorem dplain_64522 {F:Wx} {w:World} {x:Ws} (hF:F.ref) (h:Wk F w x) (h0:0<x.f.length) (hs:x.s.length≤900000) (hh:x.top.h≤x.s.length) (a b n:Int) (Al:Option Addr) (nl cl:Nat) :
 Calls Tryz.prog 140 #[.pointer (some ⟨F.G,0,none⟩),.agg #[.int .i64 64522,.int .i64 a,.int .i64 b,.int .u64 n,.slice Al nl cl]] w (VI F w x (WC x.pl [127,127,127])):=by
 obtain⟨W,hW⟩:∃ W,W=w.alloc (.cells #[.int .i64 64522,.int .i64 a,.int .i64 b,.int .u64 n,.slice Al nl cl] 25):=⟨_,rfl⟩;have k0:W.cell? ⟨w.heap.size,0,none⟩=some (.int .i64 64522):=by rw[hW,wN];rfl
 have k1:W.cell? ⟨w.heap.size,1,none⟩=some (.int .i64 a):=by rw[hW,wN];rfl
 have hgs:=h.alloc (.cells #[.int .i64 64522,.int .i64 a,.int .i64 b,.int .u64 n,.slice Al nl cl] 25);exact ZG
theorem dplain_64523 {F:Wx} {w:World} {x:Ws} (hF:F.ref) (h:Wk F w x) (h0:0<x.f.length) (hs:x.s.length≤900000) (hh:x.top.h≤x.s.length) (a b n:Int) (Al:Option Addr) (nl cl:Nat) :
 Calls Tryz.prog 140 #[.pointer (some ⟨F.G,0,none⟩),.agg #[.int .i64 64523,.int .i64 a,.int .i64 b,.int .u64 n,.slice Al nl cl]] w (VI F w x (WC x.pl [127,127,127])):=by
 obtain⟨W,hW⟩:∃ W,W=w.alloc (.cells #[.int .i64 64523,.int .i64 a,.int .i64 b,.int .u64 n,.slice Al nl cl] 25):=⟨_,rfl⟩;have k0:W.cell? ⟨w.heap.size,0,none⟩=some (.int .i64 64523):=by rw[hW,wN];rfl
 have k1:W.cell? ⟨w.heap.size,1,none⟩=some (.int .i64 a):=by rw[hW,wN];rfl
 have hgs:=h.alloc (.cells #[.int .i64 64523,.int .i64 a,.int .i64 b,.int .u64 n,.slice Al nl cl] 25);exact ZG
theorem dplain_none {F:Wx} {w:World} {x:Ws} (hF:F.ref) (h:Wk F w x) (_h0:0<x.f.length) (_hs:x.s.length≤900000) (_hh:x.top.h≤x.s.length) (op:Int) (hop:op≠26∧op≠27∧op≠32∧op≠33∧op≠34∧op≠35∧op≠36∧op≠63∧op≠64∧op≠64520∧op≠64522∧op≠64523) (a b n:Int) (Al:Option Addr) (nl cl:Nat) :
 Calls Tryz.prog 140 #[.pointer (some ⟨F.G,0,none⟩),.agg #[.int .i64 op,.int .i64 a,.int .i64 b,.int .u64 n,.slice Al nl cl]] w (VI F w x (some x.pl)):=by
 obtain⟨W,hW⟩:∃ W,W=w.alloc (.cells #[.int .i64 op,.int .i64 a,.int .i64 b,.int .u64 n,.slice Al nl cl] 25):=⟨_,rfl⟩;have k0:W.cell? ⟨w.heap.size,0,none⟩=some (.int .i64 op):=by rw[hW,wN];rfl
 have k1:W.cell? ⟨w.heap.size,1,none⟩=some (.int .i64 a):=by rw[hW,wN];rfl
 have hgs:=h.alloc (.cells #[.int .i64 op,.int .i64 a,.int .i64 b,.int .u64 n,.slice Al nl cl] 25);rw[← hW]at hgs;have HG:=hD hgs;have HW:=hD hW;have HF:=hD hF;obtain⟨g26,g27,g32,g33,g34,g35,g36,g63,g64,g64520,g64522,g64523⟩:=hop;have d26:(op==26)=false:=by simpa using g26
 have d27:(op==27)=false:=by simpa using g27
 have d32:(op==32)=false:=by simpa using g32
 have d33:(op==33)=false:=by simpa using g33
 have d34:(op==34)=false:=by simpa using g34
 have d35:(op==35)=false:=by simpa using g35
 have d36:(op==36)=false:=by simpa using g36
 have d63:(op==63)=false:=by simpa using g63
 have d64:(op==64)=false:=by simpa using g64
 have d64520:(op==64520)=false:=by simpa using g64520
 have d64522:(op==64522)=false:=by simpa using g64522
 have d64523:(op==64523)=false:=by simpa using g64523
 clear h hgs hW hF g26 g27 g32 g33 g34 g35 g36 g63 g64 g64520 g64522 g64523;go_enter Tryz.func140,Tryz.ntmps140
 go_upto_region 1 with (fail)
 rw[← HW.out];go_wp2;go_ret;exact⟨x,HG.out.1,HG.out.2,rfl,fun _=>rfl⟩
theorem Wk.d9 {F:Wx} {w:World} {x:Ws} (h:Wk F w x) (hF:F.ref):w.cell? ⟨F.G,9,none⟩=some F.lov:=by
 exact ZbT
theorem dplain_32 {F:Wx} {w:World} {x:Ws} (hF:F.ref) (h:Wk F w x) (_h0:0<x.f.length) (hs:x.s.length≤900000) (_hh:x.top.h≤x.s.length) (k:Nat) (hk:k<F.lo.length) (a b n:Int) (ha:a=(k:Int)) (Al:Option Addr) (nl cl:Nat) :
 Calls Tryz.prog 140 #[.pointer (some ⟨F.G,0,none⟩),.agg #[.int .i64 32,.int .i64 a,.int .i64 b,.int .u64 n,.slice Al nl cl]] w (VI F w x (some (Vg x.pl [F.lo.getD k 0]))):=by
 obtain⟨W,hW⟩:∃ W,W=w.alloc (.cells #[.int .i64 32,.int .i64 a,.int .i64 b,.int .u64 n,.slice Al nl cl] 25):=⟨_,rfl⟩;have k0:W.cell? ⟨w.heap.size,0,none⟩=some (.int .i64 32):=by rw[hW,wN];rfl
 have k1:W.cell? ⟨w.heap.size,1,none⟩=some (.int .i64 a):=by rw[hW,wN];rfl
 have hgs:=h.alloc (.cells #[.int .i64 32,.int .i64 a,.int .i64 b,.int .u64 n,.slice Al nl cl] 25);rw[← hW]at hgs;have HG:=hD hgs;have HW:=hD hW;have HF:=hD hF;subst ha;obtain⟨gl,ol,cl2,hlv,hml,_⟩:=hgs.1.reads.loc.some_ (by omega);have hlo:=hgs.1.reads.loc;rw[hlv]at hlo;have c1:=hlo.at_ k hk;have p9:=hgs.1.d9 hF;rw[hlv]at p9;generalize F.lo.getD k 0=t at c1 ⊢;have hxd:=hgs.1.below (Wb ((bR W.heap.size W).drew) (.cells #[.int .i64 t] 3));have HII:=hD (hgs.1.new_ints (WH W ((bR W.heap.size W).drew) t));have HPP:=hD (U4 hF hxd.1 _ [t] HII.out (by simp;omega));have HXD:=hD hxd.2;have hwx:Wq F W x w.heap.size:=⟨wL W _ k0,h.new_free (nR _)⟩;have HK1:Hid (∀ wz xz,Wz F W x wz xz→wz.cell? ⟨w.heap.size,1,none⟩=some (.int .i64 (k:Int))):=hD fun wz xz hz=>(hz.keeps.cell (p:=⟨w.heap.size,1,none⟩) hwx).trans k1;have hgl:Wq F W x gl:=by
  exact Zdm
 have HC1:Hid (∀ wz xz,Wz F W x wz xz→wz.cell? ⟨gl,ol+k,none⟩=some (.int .i64 t)):=hD fun wz xz hz=>(hz.keeps.cell (p:=⟨gl,ol+k,none⟩) hgl).trans c1;have HFF:=HF;have HP9:Hid (∀ wz xz,Wk F wz xz→wz.cell? ⟨F.G,9,none⟩=some (.slice (some ⟨gl,ol,none⟩) F.lo.length cl2)):=hD fun wz xz hz=>(hz.d9 HFF.out).trans (by rw[hlv]);clear h hs hgs hW hF hlv hlo hxd hwx hgl;generalize F.lo.length=m at *;have hk0:decide ((0:Int)≤(k:Int))=true:=by simp
 have hk1:decide ((k:Int)<(m:Int))=true:=by simp;omega
 go_enter Tryz.func140,Tryz.ntmps140
 go_upto_region 1 with (fail)
 rw[← HW.out]
 go_upto_region 8 with (fail)
 clear k0
 go_region_held3 (fun wz=>wz.cell? ⟨F.G,9,none⟩=some (.slice (some ⟨gl,ol,none⟩) m cl2)∧wz.cell? ⟨w.heap.size,1,none⟩=some (.int .i64 (k:Int))∧wz.cell? ⟨gl,ol+k,none⟩=some (.int .i64 t))
  (first|go_keep|exact⟨p9,k1,c1⟩|exact⟨HP9.out _ _ HG3.out,HK1.out _ _ (HXD.out.trans HS3.out),HC1.out _ _ (HXD.out.trans HS3.out)⟩)
  ((go_at_call 163;refine HPP.out.mono ?_;rintro e w3 ⟨rfl,x3,g3,s3,r3⟩;have HG3:=hD g3;have HS3:=hD s3;have HR3:=hD r3;clear g3 s3 r3))
 exact ZcS
theorem dplain_33 {F:Wx} {w:World} {x:Ws} (hF:F.ref) (h:Wk F w x) (h0:0<x.f.length) (hs:x.s.length≤900000) (hh:x.top.h≤x.s.length) (k:Nat) (hk:k<F.lo.length) (a b n:Int) (ha:a=(k:Int)) (Al:Option Addr) (nl cl:Nat) :
 Calls Tryz.prog 140 #[.pointer (some ⟨F.G,0,none⟩),.agg #[.int .i64 33,.int .i64 a,.int .i64 b,.int .u64 n,.slice Al nl cl]] w (VI F w x (WC x.pl [F.lo.getD k 0])):=by
 obtain⟨W,hW⟩:∃ W,W=w.alloc (.cells #[.int .i64 33,.int .i64 a,.int .i64 b,.int .u64 n,.slice Al nl cl] 25):=⟨_,rfl⟩;have k0:W.cell? ⟨w.heap.size,0,none⟩=some (.int .i64 33):=by rw[hW,wN];rfl
 have k1:W.cell? ⟨w.heap.size,1,none⟩=some (.int .i64 a):=by rw[hW,wN];rfl
 have hgs:=h.alloc (.cells #[.int .i64 33,.int .i64 a,.int .i64 b,.int .u64 n,.slice Al nl cl] 25);rw[← hW]at hgs;have HG:=hD hgs;have HW:=hD hW;have HF:=hD hF;subst ha;obtain⟨gl,ol,cl2,hlv,hml,_⟩:=hgs.1.reads.loc.some_ (by omega);have hlo:=hgs.1.reads.loc;rw[hlv]at hlo;have c1:=hlo.at_ k hk;have p9:=hgs.1.d9 hF;rw[hlv]at p9;generalize F.lo.getD k 0=t at c1 ⊢;have hxd:=hgs.1.below (Wb ((bR W.heap.size W).drew) (.cells #[.int .i64 t] 3));have HII:=hD (hgs.1.new_ints (WH W ((bR W.heap.size W).drew) t));have HPP:=hD (VD hF hxd.1 h0 (by omega) hh _ [t] HII.out (by simp));have HXD:=hD hxd.2;have hwx:Wq F W x w.heap.size:=⟨wL W _ k0,h.new_free (nR _)⟩;have HK1:Hid (∀ wz xz,Wz F W x wz xz→wz.cell? ⟨w.heap.size,1,none⟩=some (.int .i64 (k:Int))):=hD fun wz xz hz=>(hz.keeps.cell (p:=⟨w.heap.size,1,none⟩) hwx).trans k1;have hgl:Wq F W x gl:=by
  exact Zdm
 have HC1:Hid (∀ wz xz,Wz F W x wz xz→wz.cell? ⟨gl,ol+k,none⟩=some (.int .i64 t)):=hD fun wz xz hz=>(hz.keeps.cell (p:=⟨gl,ol+k,none⟩) hgl).trans c1;have HFF:=HF;have HP9:Hid (∀ wz xz,Wk F wz xz→wz.cell? ⟨F.G,9,none⟩=some (.slice (some ⟨gl,ol,none⟩) F.lo.length cl2)):=hD fun wz xz hz=>(hz.d9 HFF.out).trans (by rw[hlv]);clear h h0 hs hh hgs hW hF hlv hlo hxd hwx hgl;generalize F.lo.length=m at *;have hk0:decide ((0:Int)≤(k:Int))=true:=by simp
 have hk1:decide ((k:Int)<(m:Int))=true:=by simp;omega
 go_enter Tryz.func140,Tryz.ntmps140
 go_upto_region 1 with (fail)
 rw[← HW.out]
 go_upto_region 10 with (fail)
 clear k0
 go_region_held3 (fun wz=>wz.cell? ⟨F.G,9,none⟩=some (.slice (some ⟨gl,ol,none⟩) m cl2)∧wz.cell? ⟨w.heap.size,1,none⟩=some (.int .i64 (k:Int))∧wz.cell? ⟨gl,ol+k,none⟩=some (.int .i64 t))
  (first|go_keep|exact⟨p9,k1,c1⟩|exact⟨HP9.out _ _ HG3.out,HK1.out _ _ (HXD.out.trans HS3.out),HC1.out _ _ (HXD.out.trans HS3.out)⟩)
  ((go_at_call 137;refine HPP.out.mono ?_;rintro e w3 ⟨x3,g3,s3,rfl,-,r3⟩;have HG3:=hD g3;have HS3:=hD s3;have HR3:=hD r3;clear g3 s3 r3))
 exact Zdn
theorem Wk.d4 {F:Wx} {w:World} {x:Ws} (h:Wk F w x) (hF:F.ref):w.cell? ⟨F.G,4,none⟩=some F.v.m4:=by
 exact ZbT
theorem dplain_35 {F:Wx} {w:World} {x:Ws} (hF:F.ref) (h:Wk F w x) (_h0:0<x.f.length) (hs:x.s.length≤900000) (_hh:x.top.h≤x.s.length) (k:Nat) (hk:k<F.m.globs.length) (a b n:Int) (ha:a=(k:Int)) (Al:Option Addr) (nl cl:Nat) :
 Calls Tryz.prog 140 #[.pointer (some ⟨F.G,0,none⟩),.agg #[.int .i64 35,.int .i64 a,.int .i64 b,.int .u64 n,.slice Al nl cl]] w (VI F w x (some (Vg x.pl [(F.m.globs.getD k glob0).1]))):=by
 obtain⟨W,hW⟩:∃ W,W=w.alloc (.cells #[.int .i64 35,.int .i64 a,.int .i64 b,.int .u64 n,.slice Al nl cl] 25):=⟨_,rfl⟩;have k0:W.cell? ⟨w.heap.size,0,none⟩=some (.int .i64 35):=by rw[hW,wN];rfl
 have k1:W.cell? ⟨w.heap.size,1,none⟩=some (.int .i64 a):=by rw[hW,wN];rfl
 have hgs:=h.alloc (.cells #[.int .i64 35,.int .i64 a,.int .i64 b,.int .u64 n,.slice Al nl cl] 25);rw[← hW]at hgs;have HG:=hD hgs;have HW:=hD hW;have HF:=hD hF;subst ha;have hm:=hgs.1.reads.mod.globs;obtain⟨gl,ol,cl2,hgv,hn1,hml⟩:=Wd.some_ hm (by omega);rw[hgv]at hm;obtain⟨u0,d0,hu0⟩:=Wd.at_ hm k 0 hk (by decide);obtain⟨u1,d1,hu1⟩:=Wd.at_ hm k 1 hk (by decide);have hgl:Wq F W x gl:=by
  obtain⟨A9,c9,e9,_,_,_,h9⟩:=hm;exact Zbc
 generalize hgg:F.m.globs.getD k (0,false,0)=gg at hu0 hu1;rw[show F.m.globs.getD k glob0=gg from hgg];clear hgg;obtain⟨t,v,z⟩:=gg;obtain rfl:u0=.int .i64 t:=hu0;obtain rfl:u1=.bool v:=hu1;have p4:=hgs.1.d4 hF;rw[hgv]at p4;rw[Nat.add_zero]at d0;have hxd:=hgs.1.below (Wb ((bR W.heap.size W).drew) (.cells #[.int .i64 t] 3));have HII:=hD (hgs.1.new_ints (WH W ((bR W.heap.size W).drew) t));have HPP:=hD (U4 hF hxd.1 _ [t] HII.out (by simp;omega));have HXD:=hD hxd.2;have hwx:Wq F W x w.heap.size:=⟨wL W _ k0,h.new_free (nR _)⟩;have HK1:Hid (∀ wz xz,Wz F W x wz xz→wz.cell? ⟨w.heap.size,1,none⟩=some (.int .i64 (k:Int))):=hD fun wz xz hz=>(hz.keeps.cell (p:=⟨w.heap.size,1,none⟩) hwx).trans k1;have HC0:Hid (∀ wz xz,Wz F W x wz xz→wz.cell? ⟨gl,ol+k * 3,none⟩=some (.int .i64 t)):=hD fun wz xz hz=>(hz.keeps.cell (p:=⟨gl,ol+k * 3,none⟩) hgl).trans d0;have HC1:Hid (∀ wz xz,Wz F W x wz xz→wz.cell? ⟨gl,ol+k * 3+1,none⟩=some (.bool v)):=hD fun wz xz hz=>(hz.keeps.cell (p:=⟨gl,ol+k * 3+1,none⟩) hgl).trans d1;have HFF:=HF;have HP4:Hid (∀ wz xz,Wk F wz xz→wz.cell? ⟨F.G,4,none⟩=some (.slice (some ⟨gl,ol,none⟩) F.m.globs.length cl2)):=hD fun wz xz hz=>(hz.d4 HFF.out).trans (by rw[hgv]);clear h hs hgs hW hF hgv hm hxd hwx hgl;unfold maxLen at hml;generalize F.m.globs.length=m at *;have hk0:decide ((0:Int)≤(k:Int))=true:=by simp
 have hk1:decide ((k:Int)<(m:Int))=true:=by simp;omega
 go_enter Tryz.func140,Tryz.ntmps140
 go_upto_region 1 with (fail)
 rw[← HW.out]
 go_upto_region 14 with (fail)
 clear k0
 go_region_held3 (fun wz=>wz.cell? ⟨F.G,4,none⟩=some (.slice (some ⟨gl,ol,none⟩) m cl2)∧wz.cell? ⟨w.heap.size,1,none⟩=some (.int .i64 (k:Int))∧wz.cell? ⟨gl,ol+k * 3,none⟩=some (.int .i64 t)∧wz.cell? ⟨gl,ol+k * 3+1,none⟩=some (.bool v))
  (first|go_keep|exact⟨p4,k1,d0,d1⟩|exact⟨HP4.out _ _ HG3.out,HK1.out _ _ (HXD.out.trans HS3.out),HC0.out _ _ (HXD.out.trans HS3.out),HC1.out _ _ (HXD.out.trans HS3.out)⟩)
  ((go_at_call 163;refine HPP.out.mono ?_;rintro e w3 ⟨rfl,x3,g3,s3,r3⟩;have HG3:=hD g3;have HS3:=hD s3;have HR3:=hD r3;clear g3 s3 r3))
 exact ZcS
theorem dplain_36 {F:Wx} {w:World} {x:Ws} (hF:F.ref) (h:Wk F w x) (h0:0<x.f.length) (hs:x.s.length≤900000) (hh:x.top.h≤x.s.length) (k:Nat) (hk:k<F.m.globs.length) (a b n:Int) (ha:a=(k:Int)) (Al:Option Addr) (nl cl:Nat) :
 Calls Tryz.prog 140 #[.pointer (some ⟨F.G,0,none⟩),.agg #[.int .i64 36,.int .i64 a,.int .i64 b,.int .u64 n,.slice Al nl cl]] w (VI F w x (if (F.m.globs.getD k glob0).2.1 then WC x.pl [(F.m.globs.getD k glob0).1] else none)):=by
 obtain⟨W,hW⟩:∃ W,W=w.alloc (.cells #[.int .i64 36,.int .i64 a,.int .i64 b,.int .u64 n,.slice Al nl cl] 25):=⟨_,rfl⟩;have k0:W.cell? ⟨w.heap.size,0,none⟩=some (.int .i64 36):=by rw[hW,wN];rfl
 have k1:W.cell? ⟨w.heap.size,1,none⟩=some (.int .i64 a):=by rw[hW,wN];rfl
 have hgs:=h.alloc (.cells #[.int .i64 36,.int .i64 a,.int .i64 b,.int .u64 n,.slice Al nl cl] 25);rw[← hW]at hgs;have HG:=hD hgs;have HW:=hD hW;have HF:=hD hF;subst ha;have hm:=hgs.1.reads.mod.globs;obtain⟨gl,ol,cl2,hgv,hn1,hml⟩:=Wd.some_ hm (by omega);rw[hgv]at hm;obtain⟨u0,d0,hu0⟩:=Wd.at_ hm k 0 hk (by decide);obtain⟨u1,d1,hu1⟩:=Wd.at_ hm k 1 hk (by decide);have hgl:Wq F W x gl:=by
  obtain⟨A9,c9,e9,_,_,_,h9⟩:=hm;exact Zbc
 generalize hgg:F.m.globs.getD k (0,false,0)=gg at hu0 hu1;rw[show F.m.globs.getD k glob0=gg from hgg];clear hgg;obtain⟨t,v,z⟩:=gg;obtain rfl:u0=.int .i64 t:=hu0;obtain rfl:u1=.bool v:=hu1;have p4:=hgs.1.d4 hF;rw[hgv]at p4;rw[Nat.add_zero]at d0;have hxd:=hgs.1.below (Wb ((bR W.heap.size W).drew) (.cells #[.int .i64 t] 3));have HII:=hD (hgs.1.new_ints (WH W ((bR W.heap.size W).drew) t));have HPP:=hD (VD hF hxd.1 h0 (by omega) hh _ [t] HII.out (by simp));have HXD:=hD hxd.2;have hwx:Wq F W x w.heap.size:=⟨wL W _ k0,h.new_free (nR _)⟩;have HK1:Hid (∀ wz xz,Wz F W x wz xz→wz.cell? ⟨w.heap.size,1,none⟩=some (.int .i64 (k:Int))):=hD fun wz xz hz=>(hz.keeps.cell (p:=⟨w.heap.size,1,none⟩) hwx).trans k1;have HC0:Hid (∀ wz xz,Wz F W x wz xz→wz.cell? ⟨gl,ol+k * 3,none⟩=some (.int .i64 t)):=hD fun wz xz hz=>(hz.keeps.cell (p:=⟨gl,ol+k * 3,none⟩) hgl).trans d0;have HC1:Hid (∀ wz xz,Wz F W x wz xz→wz.cell? ⟨gl,ol+k * 3+1,none⟩=some (.bool v)):=hD fun wz xz hz=>(hz.keeps.cell (p:=⟨gl,ol+k * 3+1,none⟩) hgl).trans d1;have HFF:=HF;have HP4:Hid (∀ wz xz,Wk F wz xz→wz.cell? ⟨F.G,4,none⟩=some (.slice (some ⟨gl,ol,none⟩) F.m.globs.length cl2)):=hD fun wz xz hz=>(hz.d4 HFF.out).trans (by rw[hgv]);clear h h0 hs hh hgs hW hF hgv hm hxd hwx hgl;unfold maxLen at hml;generalize F.m.globs.length=m at *;have hk0:decide ((0:Int)≤(k:Int))=true:=by simp
 have hk1:decide ((k:Int)<(m:Int))=true:=by simp;omega
 have HS0:Hid (∀ wz,Below W.heap.size W wz→wz.cell? ⟨F.G,4,none⟩=some (.slice (some ⟨gl,ol,none⟩) m cl2)∧wz.cell? ⟨w.heap.size,1,none⟩=some (.int .i64 (k:Int))∧wz.cell? ⟨gl,ol+k * 3,none⟩=some (.int .i64 t)∧wz.cell? ⟨gl,ol+k * 3+1,none⟩=some (.bool v)):=hD fun wz hz=>⟨HP4.out _ _ (HG.out.1.below hz).1,HK1.out _ _ (HG.out.1.below hz).2,HC0.out _ _ (HG.out.1.below hz).2,HC1.out _ _ (HG.out.1.below hz).2⟩;cases v with
 | false =>
  go_enter Tryz.func140,Tryz.ntmps140
  go_upto_region 1 with (fail)
  rw[← HW.out]
  go_upto_region 16 with (fail)
  refine wp_region_held_drew (S:=fun wz=>Below W.heap.size W wz) (by kernel_rfl) ((bR _ _).drew) (fun hS=>?_);show wpAnyH _ _ _ _ _ 26 #[false,false,false,false,false,false,false,false,false,false,false,false,false,false,false,false,false,false,false,false,false,false,false,false,false,false] _ _;clear k0 k1 p4 d0 d1;generalize W.drew=wX at hS ⊢;refine mT 0 86 rfl hS ?_;refine mT 1 87 rfl hS ?_;refine mT 2 88 rfl hS ?_;refine mT 3 89 rfl hS ?_;refine mT 4 90 rfl hS ?_ (hy:=by intro wS hSw;obtain⟨p4,k1,d0,d1⟩:=HS0.out _ hSw;go_simp;try with_reducible rfl);refine mT 5 91 rfl hS ?_;refine mT 6 92 rfl hS ?_ (hy:=by intro wS hSw;obtain⟨p4,k1,d0,d1⟩:=HS0.out _ hSw;go_simp;try with_reducible rfl);refine mT 7 93 rfl hS ?_;refine mT 8 94 rfl hS ?_;refine mT 9 95 rfl hS ?_ (hy:=by intro wS hSw;obtain⟨p4,k1,d0,d1⟩:=HS0.out _ hSw;go_simp;try with_reducible rfl);refine mT 10 96 rfl hS ?_;refine mN 11 97 rfl hS ?_;refine mN 12 98 rfl hS ?_;refine mN 13 99 rfl hS ?_;refine mN 14 100 rfl hS ?_;refine mN 15 101 rfl hS ?_;refine mN 16 102 rfl hS ?_;refine mN 17 103 rfl hS ?_;refine mN 18 104 rfl hS ?_;refine mN 19 105 rfl hS ?_;refine mN 20 106 rfl hS ?_;refine mN 21 107 rfl hS ?_;refine mN 22 108 rfl hS ?_;refine mN 23 109 rfl hS ?_;refine mT 24 110 rfl hS ?_;refine mT 25 4 rfl hS ?_;refine wpAnyH_done (by kernel_rfl) ?_ _;have HB5:=hD hS;clear hS;go_wp2;go_ret;exact⟨x,(HG.out.1.below HB5.out).1,HG.out.2.trans (HG.out.1.below HB5.out).2,rfl,fun hx=>(by cases hx)⟩
 | true =>
  go_enter Tryz.func140,Tryz.ntmps140
  go_upto_region 1 with (fail)
  rw[← HW.out]
  go_upto_region 16 with (fail)
  clear k0
  go_region_held3 (fun wz=>wz.cell? ⟨F.G,4,none⟩=some (.slice (some ⟨gl,ol,none⟩) m cl2)∧wz.cell? ⟨w.heap.size,1,none⟩=some (.int .i64 (k:Int))∧wz.cell? ⟨gl,ol+k * 3,none⟩=some (.int .i64 t)∧wz.cell? ⟨gl,ol+k * 3+1,none⟩=some (.bool true))
   (first|go_keep|exact⟨p4,k1,d0,d1⟩|exact⟨HP4.out _ _ HG3.out,HK1.out _ _ (HXD.out.trans HS3.out),HC0.out _ _ (HXD.out.trans HS3.out),HC1.out _ _ (HXD.out.trans HS3.out)⟩)
   ((go_at_call 137;refine HPP.out.mono ?_;rintro e w3 ⟨x3,g3,s3,rfl,-,r3⟩;have HG3:=hD g3;have HS3:=hD s3;have HR3:=hD r3;clear g3 s3 r3))
  exact Zdn
end Go.Proofs.YtmfpnfdinoofpaaGreatDoor
