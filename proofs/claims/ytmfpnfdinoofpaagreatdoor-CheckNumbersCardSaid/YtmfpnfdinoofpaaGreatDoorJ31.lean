/- A part of the proof. -/
import Derived.Test.YtmfpnfdinoofpaaGreatDoorJ27
import Derived.Test.YtmfpnfdinoofpaaGreatDoorJ28
import Derived.Test.YtmfpnfdinoofpaaGreatDoorJ26
import Derived.Test.YtmfpnfdinoofpaaGreatDoorJ29
namespace Go.Proofs.YtmfpnfdinoofpaaGreatDoor
section
open Go.RowKit
set_option maxHeartbeats 4000000
set_option maxRecDepth 100000
theorem Zbf {P:Prop}(h:P:=by
 have HDD:=hD (ddead_any HF.out HG3.out (by rw[HL3.out.1];exact HX.out.1) (by rw[Ws.top_of HL3.out.1];exact HL3.out.2.2));go_wp2_with ((go_at_call 165;refine(HDD.out).mono ?_;rintro e w9 ⟨rfl,x9,g9,s9,a9,b9⟩;have HG9:=hD g9;have HS9:=hD s9;have HA9:=hD a9;have HB9:=hD b9;clear g9 s9 a9 b9))
 go_ret;refine⟨x9,HG9.out,((HG.out.2).trans HS3.out).trans HS9.out,rfl,fun _=>?_⟩;have h1:=HR3.out rfl;simp only[Option.some.injEq]at h1;rw[Option.map_some,h1,dead_pl HA9.out HB9.out]):P:=h
theorem dead_pl {x y:Ws} (hs:y.s=x.s.take x.top.h) (hf:y.f=x.deadF):y.pl=VP x.pl:=by
 unfold VP;rw[Ws.pl_top,← Ws.pl_top,← deadF_pl];unfold Ws.pl;rw[hs,hf];simp only[← Ws.top_fr];rfl
theorem Wk.d10 {F:Wx} {w:World} {x:Ws} (h:Wk F w x) (hF:F.ref):w.cell? ⟨F.G,10,none⟩=some F.rv:=by
 exact ZbT
theorem dleave_15 {F:Wx} {w:World} {x:Ws} (hF:F.ref) (h:Wk F w x) (h0:0<x.f.length) (hs:x.s.length≤900000) (hh:x.top.h≤x.s.length) (hro:F.ro.length≤100000) (a b n:Int) (Al:Option Addr) (nl cl:Nat) :
 Calls Tryz.prog 169 #[.pointer (some ⟨F.G,0,none⟩),.agg #[.int .i64 15,.int .i64 a,.int .i64 b,.int .u64 n,.slice Al nl cl]] w (VI F w x ((WC x.pl F.ro).map VP)):=by
 obtain⟨W,hW⟩:∃ W,W=w.alloc (.cells #[.int .i64 15,.int .i64 a,.int .i64 b,.int .u64 n,.slice Al nl cl] 25):=⟨_,rfl⟩;have k0:W.cell? ⟨w.heap.size,0,none⟩=some (.int .i64 15):=by rw[hW,wN];rfl
 have k1:W.cell? ⟨w.heap.size,1,none⟩=some (.int .i64 a):=by rw[hW,wN];rfl
 have k4:W.cell? ⟨w.heap.size,4,none⟩=some (.slice Al nl cl):=by rw[hW,wN];rfl
 have hgs:=h.alloc (.cells #[.int .i64 15,.int .i64 a,.int .i64 b,.int .u64 n,.slice Al nl cl] 25);rw[← hW]at hgs;have HG:=hD hgs;have HW:=hD hW;have HF:=hD hF;have HX:=hD (⟨h0,hs,hh⟩:0<x.f.length∧x.s.length≤900000∧x.top.h≤x.s.length);have p10:=hgs.1.d10 hF;obtain⟨Ar,cr,er,_⟩:=hgs.1.reads.own.form;have HPP:=hD (VD hF hgs.1 h0 (by omega) hh _ F.ro hgs.1.reads.own (by omega));rw[er]at p10 HPP;generalize F.ro.length=nr at *;obtain⟨R,hR⟩:∃ R,WC x.pl F.ro=R:=⟨_,rfl⟩;rw[hR]at HPP ⊢;clear h h0 hs hh hgs hW hF er hR hro;cases R with
 | none =>
  go_enter Tryz.func169,Tryz.ntmps169
  go_upto_region 1 with (fail)
  rw[← HW.out];go_wp2_with ((go_at_call 137;refine(HPP.out).mono ?_;rintro e w3 ⟨x3,g3,s3,rfl,l3,r3⟩;have HG3:=hD g3;have HS3:=hD s3;have HL3:=hD l3;have HR3:=hD r3;clear g3 s3 l3 r3))
  go_ret;exact⟨x3,HG3.out,(HG.out.2).trans HS3.out,rfl,fun hx=>by cases hx⟩
 | some p1 =>
  go_enter Tryz.func169,Tryz.ntmps169
  go_upto_region 1 with (fail)
  rw[← HW.out]
  go_upto_region 25 with ((go_at_call 137;refine(HPP.out).mono ?_;rintro e w3 ⟨x3,g3,s3,rfl,l3,r3⟩;have HG3:=hD g3;have HS3:=hD s3;have HL3:=hD l3;have HR3:=hD r3;clear g3 s3 l3 r3))
  exact Zbf
theorem dleave_12 {F:Wx} {w:World} {x:Ws} (hF:F.ref) (h:Wk F w x) (h0:0<x.f.length) (hs:x.s.length≤900000) (hh:x.top.h≤x.s.length) (k:Nat) (hk:k<x.f.length) (hlq:(Ww x.pl k).length≤100000) (b n:Int) (Al:Option Addr) (nl cl:Nat) :
 Calls Tryz.prog 169 #[.pointer (some ⟨F.G,0,none⟩),.agg #[.int .i64 12,.int .i64 (k:Int),.int .i64 b,.int .u64 n,.slice Al nl cl]] w (VI F w x ((WC x.pl (Ww x.pl k)).map VP)):=by
 obtain⟨W,hW⟩:∃ W,W=w.alloc (.cells #[.int .i64 12,.int .i64 (k:Int),.int .i64 b,.int .u64 n,.slice Al nl cl] 25):=⟨_,rfl⟩;have k0:W.cell? ⟨w.heap.size,0,none⟩=some (.int .i64 12):=by rw[hW,wN];rfl
 have k1:W.cell? ⟨w.heap.size,1,none⟩=some (.int .i64 (k:Int)):=by rw[hW,wN];rfl
 have k4:W.cell? ⟨w.heap.size,4,none⟩=some (.slice Al nl cl):=by rw[hW,wN];rfl
 have hgs:=h.alloc (.cells #[.int .i64 12,.int .i64 (k:Int),.int .i64 b,.int .u64 n,.slice Al nl cl] 25);rw[← hW]at hgs;have HG:=hD hgs;have HW:=hD hW;have HF:=hD hF;have HX:=hD (⟨h0,hs,hh⟩:0<x.f.length∧x.s.length≤900000∧x.top.h≤x.s.length);have HLB:=hD (dlabel_yes hF hgs.1 k hk);obtain⟨q,hq⟩:∃ q,Ww x.pl k=q:=⟨_,rfl⟩;rw[hq]at HLB hlq ⊢;have HQL:Hid (q.length≤100000):=hD hlq;generalize q.length=nq at HLB;obtain⟨R,hR⟩:∃ R,WC x.pl q=R:=⟨_,rfl⟩;rw[hR];have HRR:=hD hR;clear h h0 hs hh hgs hW hF hR hq hlq hk;cases R with
 | none =>
  go_enter Tryz.func169,Tryz.ntmps169
  go_upto_region 1 with (fail)
  rw[← HW.out]
  go_upto_region 4 with ((go_at_call 133;refine HLB.out.mono ?_;rintro e w2 ⟨A2,c2,rfl,g2,s2,i2⟩;have HG2:=hD g2;have HS2:=hD s2;have HI2:=hD i2;clear g2 s2 i2))
  have HPP:=hD (VD HF.out HG2.out HX.out.1 (by have:=HX.out.2.1;omega) HX.out.2.2 _ q HI2.out (by have:=HQL.out;omega));rw[HRR.out]at HPP;go_wp2_with ((go_at_call 137;refine(HPP.out).mono ?_;rintro e w3 ⟨x3,g3,s3,rfl,l3,r3⟩;have HG3:=hD g3;have HS3:=hD s3;have HL3:=hD l3;have HR3:=hD r3;clear g3 s3 l3 r3))
  go_ret;exact⟨x3,HG3.out,(HG.out.2.trans HS2.out).trans HS3.out,rfl,fun hx=>by cases hx⟩
 | some p1 =>
  go_enter Tryz.func169,Tryz.ntmps169
  go_upto_region 1 with (fail)
  rw[← HW.out]
  go_upto_region 4 with ((go_at_call 133;refine HLB.out.mono ?_;rintro e w2 ⟨A2,c2,rfl,g2,s2,i2⟩;have HG2:=hD g2;have HS2:=hD s2;have HI2:=hD i2;clear g2 s2 i2))
  have HPP:=hD (VD HF.out HG2.out HX.out.1 (by have:=HX.out.2.1;omega) HX.out.2.2 _ q HI2.out (by have:=HQL.out;omega));rw[HRR.out]at HPP
  go_upto_region 25 with ((go_at_call 137;refine(HPP.out).mono ?_;rintro e w3 ⟨x3,g3,s3,rfl,l3,r3⟩;have HG3:=hD g3;have HS3:=hD s3;have HL3:=hD l3;have HR3:=hD r3;clear g3 s3 l3 r3))
  have HDD:=hD (ddead_any HF.out HG3.out (by rw[HL3.out.1];exact HX.out.1) (by rw[Ws.top_of HL3.out.1];exact HL3.out.2.2));go_wp2_with ((go_at_call 165;refine(HDD.out).mono ?_;rintro e w9 ⟨rfl,x9,g9,s9,a9,b9⟩;have HG9:=hD g9;have HS9:=hD s9;have HA9:=hD a9;have HB9:=hD b9;clear g9 s9 a9 b9))
  go_ret;refine⟨x9,HG9.out,((HG.out.2.trans HS2.out).trans HS3.out).trans HS9.out,rfl,fun _=>?_⟩;have h1:=HR3.out rfl;simp only[Option.some.injEq]at h1;rw[Option.map_some,h1,dead_pl HA9.out HB9.out]
theorem dleave_14 {F:Wx} {w:World} {x:Ws} (hF:F.ref) (h:Wk F w x) (h0:0<x.f.length) (hs:x.s.length≤900000) (hh:x.top.h≤x.s.length) (l:List Int) (a b n:Int) (lv:Value) (hq:Wf (Wq F w x) w lv l) (hl0:0<l.length) (hll:l.length≤100000) (hin:∀ z ∈ l,Wi z x.f.length=true) (hrl:∀ n,(Ww x.pl n).length≤100000) :
 Calls Tryz.prog 169 #[.pointer (some ⟨F.G,0,none⟩),.agg #[.int .i64 14,.int .i64 a,.int .i64 b,.int .u64 n,lv]] w (VI F w x ((UJ x.pl l).map VP)):=by
 obtain⟨Al,cl,rfl,_⟩:=hq.form;obtain⟨W,hW⟩:∃ W,W=w.alloc (.cells #[.int .i64 14,.int .i64 a,.int .i64 b,.int .u64 n,.slice Al l.length cl] 25):=⟨_,rfl⟩;have k0:W.cell? ⟨w.heap.size,0,none⟩=some (.int .i64 14):=by rw[hW,wN];rfl
 have k1:W.cell? ⟨w.heap.size,1,none⟩=some (.int .i64 a):=by rw[hW,wN];rfl
 have k4:W.cell? ⟨w.heap.size,4,none⟩=some (.slice Al l.length cl):=by rw[hW,wN];rfl
 have hgs:=h.alloc (.cells #[.int .i64 14,.int .i64 a,.int .i64 b,.int .u64 n,.slice Al l.length cl] 25);rw[← hW]at hgs;have HG:=hD hgs;have HW:=hD hW;have HF:=hD hF;have HX:=hD (⟨h0,hs,hh⟩:0<x.f.length∧x.s.length≤900000∧x.top.h≤x.s.length);have HPP:=hD (dtable_any hF hgs.1 h0 hs hh hrl _ l (hgs.2.ints hq) hl0 hll hin);generalize l.length=nl at *;obtain⟨R,hR⟩:∃ R,UJ x.pl l=R:=⟨_,rfl⟩;rw[hR]at HPP ⊢;clear h h0 hs hh hgs hW hF hR hq hin hrl hl0 hll;cases R with
 | none =>
  go_enter Tryz.func169,Tryz.ntmps169
  go_upto_region 1 with (fail)
  rw[← HW.out];go_wp2_with ((go_at_call 182;refine(HPP.out).mono ?_;rintro e w3 ⟨x3,g3,s3,rfl,l3,r3⟩;have HG3:=hD g3;have HS3:=hD s3;have HL3:=hD l3;have HR3:=hD r3;clear g3 s3 l3 r3))
  go_ret;exact⟨x3,HG3.out,(HG.out.2).trans HS3.out,rfl,fun hx=>by cases hx⟩
 | some p1 =>
  go_enter Tryz.func169,Tryz.ntmps169
  go_upto_region 1 with (fail)
  rw[← HW.out]
  go_upto_region 25 with ((go_at_call 182;refine(HPP.out).mono ?_;rintro e w3 ⟨x3,g3,s3,rfl,l3,r3⟩;have HG3:=hD g3;have HS3:=hD s3;have HL3:=hD l3;have HR3:=hD r3;clear g3 s3 l3 r3))
  exact Zbf
theorem dleave_13 {F:Wx} {w:World} {x:Ws} (hF:F.ref) (h:Wk F w x) (h0:0<x.f.length) (hs:x.s.length≤900000) (hh:x.top.h≤x.s.length) (k:Nat) (hk:k<x.f.length) (hlq:(Ww x.pl k).length≤100000) (b n:Int) (Al:Option Addr) (nl cl:Nat) :
 Calls Tryz.prog 169 #[.pointer (some ⟨F.G,0,none⟩),.agg #[.int .i64 13,.int .i64 (k:Int),.int .i64 b,.int .u64 n,.slice Al nl cl]] w (VI F w x ((WC x.pl [127]).bind fun q=>VL q (Ww x.pl k) (Ww x.pl k))):=by
 obtain⟨W,hW⟩:∃ W,W=w.alloc (.cells #[.int .i64 13,.int .i64 (k:Int),.int .i64 b,.int .u64 n,.slice Al nl cl] 25):=⟨_,rfl⟩;have k0:W.cell? ⟨w.heap.size,0,none⟩=some (.int .i64 13):=by rw[hW,wN];rfl
 have k1:W.cell? ⟨w.heap.size,1,none⟩=some (.int .i64 (k:Int)):=by rw[hW,wN];rfl
 have k4:W.cell? ⟨w.heap.size,4,none⟩=some (.slice Al nl cl):=by rw[hW,wN];rfl
 have hgs:=h.alloc (.cells #[.int .i64 13,.int .i64 (k:Int),.int .i64 b,.int .u64 n,.slice Al nl cl] 25);rw[← hW]at hgs;have HG:=hD hgs;have HW:=hD hW;have HF:=hD hF;have HX:=hD (⟨h0,hs,hh⟩:0<x.f.length∧x.s.length≤900000∧x.top.h≤x.s.length);have HLB:=hD (dlabel_yes hF hgs.1 k hk);obtain⟨q,hq⟩:∃ q,Ww x.pl k=q:=⟨_,rfl⟩;rw[hq]at HLB hlq ⊢;have HQL:Hid (q.length≤100000):=hD hlq;generalize q.length=nq at HLB;obtain⟨R,hR⟩:∃ R,WC x.pl [127]=R:=⟨_,rfl⟩;rw[hR];have HRR:=hD hR;clear h h0 hs hh hgs hW hF hR hq hlq hk;cases R with
 | none =>
  go_enter Tryz.func169,Tryz.ntmps169
  go_upto_region 1 with (fail)
  rw[← HW.out]
  go_upto_region 8 with ((go_at_call 133;refine HLB.out.mono ?_;rintro e w2 ⟨A2,c2,rfl,g2,s2,i2⟩;have HG2:=hD g2;have HS2:=hD s2;have HI2:=hD i2;clear g2 s2 i2))
  have hg5:=HG2.out.alloc (.cells #[.int .i64 127] 3);have HPP:=hD (VD HF.out hg5.1 HX.out.1 (by have:=HX.out.2.1;omega) HX.out.2.2 _ [127] (HG2.out.new_ints (WH w2 (bR w2.heap.size w2) 127)) (by simp));rw[HRR.out]at HPP;have HI5:=hD (hg5.2.ints HI2.out);have HS5:=hD ((HG.out.2.trans HS2.out).trans hg5.2);clear hg5;go_wp2_with ((go_at_call 137;refine(HPP.out).mono ?_;rintro e w3 ⟨x3,g3,s3,rfl,l3,r3⟩;have HG3:=hD g3;have HS3:=hD s3;have HL3:=hD l3;have HR3:=hD r3;clear g3 s3 l3 r3))
  go_ret;exact⟨x3,HG3.out,HS5.out.trans HS3.out,rfl,fun hx=>by cases hx⟩
 | some p1 =>
  rw[Option.bind_some];unfold VL;obtain⟨R2,hR2⟩:∃ R2,WC p1 q=R2:=⟨_,rfl⟩;rw[hR2];have HR2:=hD hR2;clear hR2;cases R2 with
  | none =>
   go_enter Tryz.func169,Tryz.ntmps169
   go_upto_region 1 with (fail)
   rw[← HW.out]
   go_upto_region 8 with ((go_at_call 133;refine HLB.out.mono ?_;rintro e w2 ⟨A2,c2,rfl,g2,s2,i2⟩;have HG2:=hD g2;have HS2:=hD s2;have HI2:=hD i2;clear g2 s2 i2))
   have hg5:=HG2.out.alloc (.cells #[.int .i64 127] 3);have HPP:=hD (VD HF.out hg5.1 HX.out.1 (by have:=HX.out.2.1;omega) HX.out.2.2 _ [127] (HG2.out.new_ints (WH w2 (bR w2.heap.size w2) 127)) (by simp));rw[HRR.out]at HPP;have HI5:=hD (hg5.2.ints HI2.out);have HS5:=hD ((HG.out.2.trans HS2.out).trans hg5.2);clear hg5;go_wp2_with (first|(go_at_call 137;refine(HPP.out).mono ?_;rintro e w3 ⟨x3,g3,s3,rfl,l3,r3⟩;have HR3:Hid (p1=x3.pl):=hD (Option.some.inj (r3 rfl));have hpq:=VD HF.out g3 (by rw[l3.1];exact HX.out.1) (by have:=l3.2.1;have:=HX.out.2.1;omega) (by rw[Ws.top_of l3.1];exact l3.2.2) _ q (s3.ints HI5.out) (by have:=HQL.out;omega);rw[← HR3.out,HR2.out]at hpq;have HPQ:=hD hpq;have HI3:=hD (s3.ints HI5.out);have HG3:=hD g3;have HS3:=hD s3;have HL3:=hD l3;clear g3 s3 l3 r3 HPP hpq)|(go_at_call 137;refine(HPQ.out).mono ?_;rintro e w4 ⟨x4,g4,s4,rfl,l4,r4⟩;have HPU:=hD (U4 HF.out g4 _ q (s4.ints HI3.out) (by have:=l4.2.1;have:=HL3.out.2.1;have:=HX.out.2.1;have:=HQL.out;omega));have HG4:=hD g4;have HS4:=hD s4;have HL4:=hD l4;have HR4:=hD r4;clear g4 s4 l4 r4))
   go_ret;exact⟨x4,HG4.out,(HS5.out.trans HS3.out).trans HS4.out,rfl,fun hx=>by cases hx⟩
  | some p2 =>
   go_enter Tryz.func169,Tryz.ntmps169
   go_upto_region 1 with (fail)
   rw[← HW.out]
   go_upto_region 8 with ((go_at_call 133;refine HLB.out.mono ?_;rintro e w2 ⟨A2,c2,rfl,g2,s2,i2⟩;have HG2:=hD g2;have HS2:=hD s2;have HI2:=hD i2;clear g2 s2 i2))
   have hg5:=HG2.out.alloc (.cells #[.int .i64 127] 3);have HPP:=hD (VD HF.out hg5.1 HX.out.1 (by have:=HX.out.2.1;omega) HX.out.2.2 _ [127] (HG2.out.new_ints (WH w2 (bR w2.heap.size w2) 127)) (by simp));rw[HRR.out]at HPP;have HI5:=hD (hg5.2.ints HI2.out);have HS5:=hD ((HG.out.2.trans HS2.out).trans hg5.2);clear hg5;go_wp2_with (first|(go_at_call 137;refine(HPP.out).mono ?_;rintro e w3 ⟨x3,g3,s3,rfl,l3,r3⟩;have HR3:Hid (p1=x3.pl):=hD (Option.some.inj (r3 rfl));have hpq:=VD HF.out g3 (by rw[l3.1];exact HX.out.1) (by have:=l3.2.1;have:=HX.out.2.1;omega) (by rw[Ws.top_of l3.1];exact l3.2.2) _ q (s3.ints HI5.out) (by have:=HQL.out;omega);rw[← HR3.out,HR2.out]at hpq;have HPQ:=hD hpq;have HI3:=hD (s3.ints HI5.out);have HG3:=hD g3;have HS3:=hD s3;have HL3:=hD l3;clear g3 s3 l3 r3 HPP hpq)|(go_at_call 137;refine(HPQ.out).mono ?_;rintro e w4 ⟨x4,g4,s4,rfl,l4,r4⟩;have HPU:=hD (U4 HF.out g4 _ q (s4.ints HI3.out) (by have:=l4.2.1;have:=HL3.out.2.1;have:=HX.out.2.1;have:=HQL.out;omega));have HG4:=hD g4;have HS4:=hD s4;have HL4:=hD l4;have HR4:=hD r4;clear g4 s4 l4 r4)|(go_at_call 163;refine HPU.out.mono ?_;rintro e w6 ⟨rfl,x6,g6,s6,a6,b6⟩;have HG6:=hD g6;have HS6:=hD s6;have HA6:=hD a6;have HB6:=hD b6;clear g6 s6 a6 b6))
   go_ret;refine⟨x6,HG6.out,((HS5.out.trans HS3.out).trans HS4.out).trans HS6.out,rfl,fun _=>?_⟩;have h1:=HR4.out (by trivial);simp only[Option.some.injEq]at h1;rw[Option.map_some,h1];unfold Vg Ws.pl;rw[HA6.out,HB6.out]
end
section
open Go.RowKit
set_option maxHeartbeats 4000000
set_option maxRecDepth 100000
theorem Zs {P:Prop}(h:P:=by
 rw[← hW]at hgs;have HG:=hD hgs;have HW:=hD hW;have HCD:=hD (hC W hgs.1 hgs.2);clear h hgs hW hk hC;go_enter Tryz.func139,Tryz.ntmps139
 go_upto_region 1 with (fail)
 rw[← HW.out];go_wp2_with (go_at_call 169;refine(HCD.out).mono ?_;rintro e w4 ⟨x3,g3,s3,rfl,r3⟩;have HG3:=hD g3;have HS3:=hD s3;have HR3:=hD r3;clear g3 s3 r3)
 go_ret;exact⟨x3,HG3.out,HG.out.2.trans HS3.out,rfl,HR3.out⟩):P:=h
theorem dcontrol_1 {F:Wx} {w:World} {x:Ws} (h:Wk F w x) (a b n:Int) (Al:Option Addr) (nl cl:Nat) :
 Calls Tryz.prog 139 #[.pointer (some ⟨F.G,0,none⟩),.agg #[.int .i64 1,.int .i64 a,.int .i64 b,.int .u64 n,.slice Al nl cl]] w (VI F w x (some x.pl)):=by
 obtain⟨W,hW⟩:∃ W,W=w.alloc (.cells #[.int .i64 1,.int .i64 a,.int .i64 b,.int .u64 n,.slice Al nl cl] 25):=⟨_,rfl⟩;have hk:∀ j:Nat,W.cell? ⟨w.heap.size,j,none⟩=(#[.int .i64 1,.int .i64 a,.int .i64 b,.int .u64 n,.slice Al nl cl]:Array Value)[j]?:=fun j=>by rw[hW,wN]
 have k0:=hk 0;have k1:=hk 1;have k2:=hk 2;have k3:=hk 3;have k4:=hk 4;simp only[List.getElem?_toArray,List.getElem?_cons_zero,List.getElem?_cons_succ]at k0 k1 k2 k3 k4;have hgs:=h.alloc (.cells #[.int .i64 1,.int .i64 a,.int .i64 b,.int .u64 n,.slice Al nl cl] 25);rw[← hW]at hgs;have HG:=hD hgs;have HW:=hD hW;clear h hgs hW hk;go_enter Tryz.func139,Tryz.ntmps139
 go_upto_region 1 with (fail)
 rw[← HW.out];go_wp2;go_ret;exact⟨x,HG.out.1,HG.out.2,rfl,fun _=>rfl⟩
theorem dcontrol_12 {F:Wx} {w:World} {x:Ws} (h:Wk F w x) (a b n:Int) (Al:Option Addr) (nl cl:Nat) (r:Option Pl)
 (hC:∀ w1,Wk F w1 x→Wz F w x w1 x→Calls Tryz.prog 169 #[.pointer (some ⟨F.G,0,none⟩),.agg #[.int .i64 12,.int .i64 a,.int .i64 b,.int .u64 n,.slice Al nl cl]] w1 (VI F w1 x r)) :
 Calls Tryz.prog 139 #[.pointer (some ⟨F.G,0,none⟩),.agg #[.int .i64 12,.int .i64 a,.int .i64 b,.int .u64 n,.slice Al nl cl]] w (VI F w x r):=by
 obtain⟨W,hW⟩:∃ W,W=w.alloc (.cells #[.int .i64 12,.int .i64 a,.int .i64 b,.int .u64 n,.slice Al nl cl] 25):=⟨_,rfl⟩;have hk:∀ j:Nat,W.cell? ⟨w.heap.size,j,none⟩=(#[.int .i64 12,.int .i64 a,.int .i64 b,.int .u64 n,.slice Al nl cl]:Array Value)[j]?:=fun j=>by rw[hW,wN]
 have k0:=hk 0;have k1:=hk 1;have k2:=hk 2;have k3:=hk 3;have k4:=hk 4;simp only[List.getElem?_toArray,List.getElem?_cons_zero,List.getElem?_cons_succ]at k0 k1 k2 k3 k4;have hgs:=h.alloc (.cells #[.int .i64 12,.int .i64 a,.int .i64 b,.int .u64 n,.slice Al nl cl] 25);exact Zs
theorem dcontrol_13 {F:Wx} {w:World} {x:Ws} (h:Wk F w x) (a b n:Int) (Al:Option Addr) (nl cl:Nat) (r:Option Pl)
 (hC:∀ w1,Wk F w1 x→Wz F w x w1 x→Calls Tryz.prog 169 #[.pointer (some ⟨F.G,0,none⟩),.agg #[.int .i64 13,.int .i64 a,.int .i64 b,.int .u64 n,.slice Al nl cl]] w1 (VI F w1 x r)) :
 Calls Tryz.prog 139 #[.pointer (some ⟨F.G,0,none⟩),.agg #[.int .i64 13,.int .i64 a,.int .i64 b,.int .u64 n,.slice Al nl cl]] w (VI F w x r):=by
 obtain⟨W,hW⟩:∃ W,W=w.alloc (.cells #[.int .i64 13,.int .i64 a,.int .i64 b,.int .u64 n,.slice Al nl cl] 25):=⟨_,rfl⟩;have hk:∀ j:Nat,W.cell? ⟨w.heap.size,j,none⟩=(#[.int .i64 13,.int .i64 a,.int .i64 b,.int .u64 n,.slice Al nl cl]:Array Value)[j]?:=fun j=>by rw[hW,wN]
 have k0:=hk 0;have k1:=hk 1;have k2:=hk 2;have k3:=hk 3;have k4:=hk 4;simp only[List.getElem?_toArray,List.getElem?_cons_zero,List.getElem?_cons_succ]at k0 k1 k2 k3 k4;have hgs:=h.alloc (.cells #[.int .i64 13,.int .i64 a,.int .i64 b,.int .u64 n,.slice Al nl cl] 25);exact Zs
theorem dcontrol_14 {F:Wx} {w:World} {x:Ws} (h:Wk F w x) (a b n:Int) (Al:Option Addr) (nl cl:Nat) (r:Option Pl)
 (hC:∀ w1,Wk F w1 x→Wz F w x w1 x→Calls Tryz.prog 169 #[.pointer (some ⟨F.G,0,none⟩),.agg #[.int .i64 14,.int .i64 a,.int .i64 b,.int .u64 n,.slice Al nl cl]] w1 (VI F w1 x r)) :
 Calls Tryz.prog 139 #[.pointer (some ⟨F.G,0,none⟩),.agg #[.int .i64 14,.int .i64 a,.int .i64 b,.int .u64 n,.slice Al nl cl]] w (VI F w x r):=by
 obtain⟨W,hW⟩:∃ W,W=w.alloc (.cells #[.int .i64 14,.int .i64 a,.int .i64 b,.int .u64 n,.slice Al nl cl] 25):=⟨_,rfl⟩;have hk:∀ j:Nat,W.cell? ⟨w.heap.size,j,none⟩=(#[.int .i64 14,.int .i64 a,.int .i64 b,.int .u64 n,.slice Al nl cl]:Array Value)[j]?:=fun j=>by rw[hW,wN]
 have k0:=hk 0;have k1:=hk 1;have k2:=hk 2;have k3:=hk 3;have k4:=hk 4;simp only[List.getElem?_toArray,List.getElem?_cons_zero,List.getElem?_cons_succ]at k0 k1 k2 k3 k4;have hgs:=h.alloc (.cells #[.int .i64 14,.int .i64 a,.int .i64 b,.int .u64 n,.slice Al nl cl] 25);exact Zs
theorem dcontrol_15 {F:Wx} {w:World} {x:Ws} (h:Wk F w x) (a b n:Int) (Al:Option Addr) (nl cl:Nat) (r:Option Pl)
 (hC:∀ w1,Wk F w1 x→Wz F w x w1 x→Calls Tryz.prog 169 #[.pointer (some ⟨F.G,0,none⟩),.agg #[.int .i64 15,.int .i64 a,.int .i64 b,.int .u64 n,.slice Al nl cl]] w1 (VI F w1 x r)) :
 Calls Tryz.prog 139 #[.pointer (some ⟨F.G,0,none⟩),.agg #[.int .i64 15,.int .i64 a,.int .i64 b,.int .u64 n,.slice Al nl cl]] w (VI F w x r):=by
 obtain⟨W,hW⟩:∃ W,W=w.alloc (.cells #[.int .i64 15,.int .i64 a,.int .i64 b,.int .u64 n,.slice Al nl cl] 25):=⟨_,rfl⟩;have hk:∀ j:Nat,W.cell? ⟨w.heap.size,j,none⟩=(#[.int .i64 15,.int .i64 a,.int .i64 b,.int .u64 n,.slice Al nl cl]:Array Value)[j]?:=fun j=>by rw[hW,wN]
 have k0:=hk 0;have k1:=hk 1;have k2:=hk 2;have k3:=hk 3;have k4:=hk 4;simp only[List.getElem?_toArray,List.getElem?_cons_zero,List.getElem?_cons_succ]at k0 k1 k2 k3 k4;have hgs:=h.alloc (.cells #[.int .i64 15,.int .i64 a,.int .i64 b,.int .u64 n,.slice Al nl cl] 25);exact Zs
theorem dcontrol_16 {F:Wx} {w:World} {x:Ws} (h:Wk F w x) (a b n:Int) (Al:Option Addr) (nl cl:Nat) (r:Option Pl)
 (hC:∀ w1,Wk F w1 x→Wz F w x w1 x→Calls Tryz.prog 169 #[.pointer (some ⟨F.G,0,none⟩),.agg #[.int .i64 16,.int .i64 a,.int .i64 b,.int .u64 n,.slice Al nl cl]] w1 (VI F w1 x r)) :
 Calls Tryz.prog 139 #[.pointer (some ⟨F.G,0,none⟩),.agg #[.int .i64 16,.int .i64 a,.int .i64 b,.int .u64 n,.slice Al nl cl]] w (VI F w x r):=by
 obtain⟨W,hW⟩:∃ W,W=w.alloc (.cells #[.int .i64 16,.int .i64 a,.int .i64 b,.int .u64 n,.slice Al nl cl] 25):=⟨_,rfl⟩;have hk:∀ j:Nat,W.cell? ⟨w.heap.size,j,none⟩=(#[.int .i64 16,.int .i64 a,.int .i64 b,.int .u64 n,.slice Al nl cl]:Array Value)[j]?:=fun j=>by rw[hW,wN]
 have k0:=hk 0;have k1:=hk 1;have k2:=hk 2;have k3:=hk 3;have k4:=hk 4;simp only[List.getElem?_toArray,List.getElem?_cons_zero,List.getElem?_cons_succ]at k0 k1 k2 k3 k4;have hgs:=h.alloc (.cells #[.int .i64 16,.int .i64 a,.int .i64 b,.int .u64 n,.slice Al nl cl] 25);exact Zs
theorem dcontrol_18 {F:Wx} {w:World} {x:Ws} (h:Wk F w x) (a b n:Int) (Al:Option Addr) (nl cl:Nat) (r:Option Pl)
 (hC:∀ w1,Wk F w1 x→Wz F w x w1 x→Calls Tryz.prog 169 #[.pointer (some ⟨F.G,0,none⟩),.agg #[.int .i64 18,.int .i64 a,.int .i64 b,.int .u64 n,.slice Al nl cl]] w1 (VI F w1 x r)) :
 Calls Tryz.prog 139 #[.pointer (some ⟨F.G,0,none⟩),.agg #[.int .i64 18,.int .i64 a,.int .i64 b,.int .u64 n,.slice Al nl cl]] w (VI F w x r):=by
 obtain⟨W,hW⟩:∃ W,W=w.alloc (.cells #[.int .i64 18,.int .i64 a,.int .i64 b,.int .u64 n,.slice Al nl cl] 25):=⟨_,rfl⟩;have hk:∀ j:Nat,W.cell? ⟨w.heap.size,j,none⟩=(#[.int .i64 18,.int .i64 a,.int .i64 b,.int .u64 n,.slice Al nl cl]:Array Value)[j]?:=fun j=>by rw[hW,wN]
 have k0:=hk 0;have k1:=hk 1;have k2:=hk 2;have k3:=hk 3;have k4:=hk 4;simp only[List.getElem?_toArray,List.getElem?_cons_zero,List.getElem?_cons_succ]at k0 k1 k2 k3 k4;have hgs:=h.alloc (.cells #[.int .i64 18,.int .i64 a,.int .i64 b,.int .u64 n,.slice Al nl cl] 25);exact Zs
end
section
open Go.RowKit
set_option maxHeartbeats 4000000
set_option maxRecDepth 100000
theorem matched_any (w:World) (v:Value) (l:List Fnc) (h:FunsK (fun k=>k<w.heap.size) w v l) (hl:∀ f ∈ l,f.code.length≤950000):Calls Tryz.prog 37 #[v] w (fun e w'=>e=.returned (.int .i64 (Vp UO l))∧Below w.heap.size w w'):=by
 obtain⟨A,c,hv,hnc,hcm⟩:=Wd.form h;have H:=hD h;have HL:=hD hl;rw[hv]at H ⊢;clear h hv hl;unfold maxLen at hcm;obtain⟨n,hn⟩:∃ n,l.length=n:=⟨_,rfl⟩;have HN:=hD hn;rw[hn]at H hnc ⊢;clear hn;go_enter Tryz.func37,Tryz.ntmps37;go_wp2_with fail
 go_loopw [9] (fun i wr=>∃ k:Nat,k≤n∧i=.int .i64 (k:Int)∧Hid (Below w.heap.size w wr)∧Hid (∀ j,j<k→UO (l.getD j WW)=0)) (fun i _=>n - (intOf i).toNat)
 case atStart=>exact⟨0,nZ _,rfl,hD (bR _ _),hD fun j hj=>absurd hj (Nat.not_lt_zero _)⟩
 case round =>
  obtain⟨w0,rfl⟩:∃ w0,w0=wr:=⟨_,rfl⟩;obtain⟨k,hk,rfl,HB,HA⟩:=hrel;by_cases hlt:k<n
  ·have hd:decide ((k:Int)<(n:Int))=true:=by simp;omega
   have hd2:decide (k<n)=true:=by simp;omega
   obtain⟨g,o,c',he,_,_⟩:=Wd.some_ H.out (by rw[HN.out];omega);simp only[vI]at he;obtain⟨rfl,-,rfl⟩:=he;have hAT:=FunsK.keep (K':=fun k=>k<w0.heap.size) H.out (We.below HB.out fun _ hk=>hk) fun _ hk=>Ve hk HB.out.size;obtain⟨u0,k0,h0⟩:=Wd.at_ hAT k 0 (by rw[HN.out];exact hlt) (by decide);obtain⟨u1,k1,h1⟩:=Wd.at_ hAT k 1 (by rw[HN.out];exact hlt) (by decide);obtain⟨u2,k2,h2⟩:=Wd.at_ hAT k 2 (by rw[HN.out];exact hlt) (by decide);have hlen:=HL.out _ (WA l k WW (by rw[HN.out];exact hlt));have HAT:=hD (fun (hz:UO (l.getD k WW)≠0)=>firstC_at (d:=WW) HA.out (by rw[HN.out];exact hlt) hz);have HAN:=hD (fun (hz:UO (l.getD k WW)=0) j (hj:j<k+1)=>(by rcases Nat.lt_or_ge j k with h1|h1;exact HA.out j h1;rw[show j=k by omega];exact hz:UO (l.getD j WW)=0));clear hAT;generalize l.getD k WW=x at h0 h1 h2 hlen HAT HAN;obtain⟨x1,x2,x3⟩:=x;obtain rfl:u0=.int .i64 x1:=h0;have h1:Wf (fun g=>g<w0.heap.size) w0 u1 x2:=h1;have h2:Uc (fun g=>g<w0.heap.size) w0 u2 x3:=h2;obtain⟨P1,p1,rfl,_,_⟩:=h1.form;obtain⟨P2,p2,rfl,hp2,hca⟩:=h2.code;generalize x2.length=m1 at *;rw[Nat.add_zero]at k0;have hbx:∀ wz,Below w0.heap.size w0 wz→Calls Tryz.prog 71 #[.slice P2 x3.length p2] wz (OfPost (x3.map Vl.op) wz):=fun wz hz=>of_any wz P2 x3.length p2 (x3.map Vl.op) (hca.below hz) (by rw[List.length_map]) hlen hp2;generalize x3.length=m2 at *;obtain⟨W6,hW6⟩:∃ W6,W6=w0.alloc (.cells #[.int .i64 x1,.slice P1 m1 p1,.slice P2 m2 p2] 68):=⟨_,rfl⟩;have hb6:Below w0.heap.size w0 W6:=hW6 ▸ Wb (bR _ _) _;have y2:W6.cell? ⟨w0.heap.size,2,none⟩=some (.slice P2 m2 p2):=by rw[hW6,wN];rfl
   have HOF:=hD (hbx W6 hb6);have HW6:=hD hW6;have HB6:=hD (Wa HB.out hb6);obtain⟨mc,hmc⟩:∃ z,UO ⟨x1,x2,x3⟩=z:=⟨_,rfl⟩;rw[hmc]at HAT HAN;have hmc:(VY (x3.map Vl.op)).2=mc:=hmc;unfold OfPost at HOF;rw[hmc]at HOF;clear h1 h2 hca hbx hlen hW6 hmc hb6;by_cases hz:mc=0
   ·subst hz;have HAZ:=hD (HAN.out rfl);clear HAT HAN
    go_upto_region 4 with (fail)
    rw[← HW6.out];go_wp2_with (go_at_call 71;refine(HOF.out).mono ?_;rintro e w1 ⟨sv,rfl,_,hb1⟩;have HB1:=hD (Wa HB6.out hb1);clear hb1)
    go_roundw
    case rel=>exact⟨k+1,by omega,by go_num,HB1,HAZ⟩
    case measure=>simp[intOf];omega
   ·have hzb:(mc != 0)=true:=by simpa using hz
    have HAZ:=hD (HAT.out hz);clear HAT HAN hz
    go_upto_region 4 with (fail)
    rw[← HW6.out];go_wp2_with (go_at_call 71;refine(HOF.out).mono ?_;rintro e w1 ⟨sv,rfl,_,hb1⟩;have HB1:=hD (Wa HB6.out hb1);clear hb1)
    go_ret;exact⟨Vd (HAZ.out).symm,HB1.out⟩
  ·have hd:decide ((k:Int)<(n:Int))=false:=by simp;omega
   have hd2:decide (k<n)=false:=by simp;omega
   obtain rfl:n=k:=by omega
   have HF:=hD (firstC_zero (d:=WW) (by rw[HN.out];exact HA.out));go_wp2;go_ret;exact⟨Vd (HF.out).symm,HB.out⟩
end
section
open Go.RowKit
set_option maxHeartbeats 8000000
set_option maxRecDepth 100000
theorem ZS {P:Prop}(h:P:=by
 clear hib hT HE;obtain rfl:=HEE.out;go_enter Tryz.func51,Tryz.ntmps51
 go_upto_region 1 with (fail)
 rw[← HW.out];go_wp2_with (first|(go_at_call 86;refine(HRC.out _).mono ?_;rintro e w1 ⟨rfl,rfl⟩)|(go_at_call 87;refine(HOC.out _).mono ?_;rintro e w2 ⟨rfl,rfl⟩)|(go_at_call 88;refine(HI.out W (HG.out.1.below (bR _ _)).1 (HG.out.2.trans (HG.out.1.below (bR _ _)).2)).mono ?_;rintro e w3 ⟨rfl,hb3⟩;have HB3:=hD (Wa (bR _ _) hb3);obtain⟨i0,i1,i2,i3,i4,ip⟩:=HKX.out w3 HB3.out;clear hb3)|(go_at_call 89;refine(HT2.out w3 (HG.out.1.below HB3.out).1 (HG.out.2.trans (HG.out.1.below HB3.out).2)).mono ?_;rintro e w4 ⟨x4,g4,s4,he4,r4⟩;have HG4:=hD g4;have HS4:=hD s4;have HR4:=hD r4;have he4:e=.returned (.bool true):=he4;subst he4;clear g4 s4 r4))
 go_ret;exact⟨x4,HG4.out,(HG.out.2.trans (HG.out.1.below HB3.out).2).trans HS4.out,rfl,fun _=>(Option.some.inj (HR4.out (by trivial))).symm⟩):P:=h
theorem ZT {P:Prop}(h:P:=by
 clear hib hT HE;obtain rfl:=HEE.out;go_enter Tryz.func51,Tryz.ntmps51
 go_upto_region 1 with (fail)
 rw[← HW.out];go_wp2_with (first|(go_at_call 86;refine(HRC.out _).mono ?_;rintro e w1 ⟨rfl,rfl⟩)|(go_at_call 87;refine(HOC.out _).mono ?_;rintro e w2 ⟨rfl,rfl⟩)|(go_at_call 88;refine(HI.out W (HG.out.1.below (bR _ _)).1 (HG.out.2.trans (HG.out.1.below (bR _ _)).2)).mono ?_;rintro e w3 ⟨rfl,hb3⟩;have HB3:=hD (Wa (bR _ _) hb3);obtain⟨i0,i1,i2,i3,i4,ip⟩:=HKX.out w3 HB3.out;clear hb3)|(go_at_call 89;refine(HT2.out w3 (HG.out.1.below HB3.out).1 (HG.out.2.trans (HG.out.1.below HB3.out).2)).mono ?_;rintro e w4 ⟨x4,g4,s4,he4,r4⟩;have HG4:=hD g4;have HS4:=hD s4;have HR4:=hD r4;have he4:e=.returned (.bool false):=he4;subst he4;clear g4 s4 r4))
 go_ret;exact⟨x4,HG4.out,(HG.out.2.trans (HG.out.1.below HB3.out).2).trans HS4.out,rfl,fun hx=>(by simp at hx)⟩):P:=h
theorem Z5 {P:Prop}(h:P:=by
 clear hib HT HE;obtain rfl:=HEE.out;go_enter Tryz.func51,Tryz.ntmps51
 go_upto_region 1 with (fail)
 rw[← HW.out];go_wp2_with (first|(go_at_call 86;refine(HRC.out _).mono ?_;rintro e w1 ⟨rfl,rfl⟩)|(go_at_call 87;refine(HOC.out _).mono ?_;rintro e w2 ⟨rfl,rfl⟩)|(go_at_call 88;refine(HI.out W (HG.out.1.below (bR _ _)).1 (HG.out.2.trans (HG.out.1.below (bR _ _)).2)).mono ?_;rintro e w3 ⟨rfl,hb3⟩;have HB3:=hD (Wa (bR _ _) hb3);obtain⟨i0,i1,i2,i3,i4,ip⟩:=HKX.out w3 HB3.out;clear hb3))
 go_ret;exact⟨x,(HG.out.1.below HB3.out).1,HG.out.2.trans (HG.out.1.below HB3.out).2,rfl,fun hx=>(by simp at hx)⟩):P:=h
theorem Wk.d8 {F:Wx} {w:World} {x:Ws} (h:Wk F w x) (hF:F.ref):w.cell? ⟨F.G,8,none⟩=some (.int .i64 F.prof):=by
 exact ZbT
theorem dstep_24 {e:U5} {p:Pl} {x:Vl} (h1:e.prof=1) (h2:richI x=true):VB e p x=(24,p):=by unfold VB;exact if_pos ⟨h1,h2⟩
theorem dstep_23 {e:U5} {p:Pl} {x:Vl} (h1:¬ (e.prof=1∧richI x=true)) (h2:V6 e p x=false):VB e p x=(23,p):=by unfold VB;rw[if_neg h1];exact if_pos h2
theorem dstep_14 {e:U5} {p:Pl} {x:Vl} (h1:¬ (e.prof=1∧richI x=true)) (h2:V6 e p x=true) (h3:U8 e p x=none):VB e p x=(14,p):=by unfold VB;rw[if_neg h1,if_neg (by rw[h2];decide),h3]
theorem dstep_0 {e:U5} {p q:Pl} {x:Vl} (h1:¬ (e.prof=1∧richI x=true)) (h2:V6 e p x=true) (h3:U8 e p x=some q):VB e p x=(0,q):=by unfold VB;rw[if_neg h1,if_neg (by rw[h2];decide),h3]
theorem dstep_of {F:Wx} {w:World} {x:Ws} (hF:F.ref) (h:Wk F w x) (op a b n:Int) (l:List Int) (Al:Option Addr) (nl cl:Nat)
 (hI:∀ w1,Wk F w1 x→Wz F w x w1 x→Calls Tryz.prog 88 #[.pointer (some ⟨F.G,0,none⟩),.agg #[.int .i64 op,.int .i64 a,.int .i64 b,.int .u64 n,.slice Al nl cl]] w1 (Wh (V6 F.env x.pl ⟨op,a,b,n,l⟩) w1))
 (hT:V6 F.env x.pl ⟨op,a,b,n,l⟩=true→∀ w1,Wk F w1 x→Wz F w x w1 x→Calls Tryz.prog 89 #[.pointer (some ⟨F.G,0,none⟩),.agg #[.int .i64 op,.int .i64 a,.int .i64 b,.int .u64 n,.slice Al nl cl]] w1 (VI F w1 x (U8 F.env x.pl ⟨op,a,b,n,l⟩))) :
 Calls Tryz.prog 51 #[.pointer (some ⟨F.G,0,none⟩),.agg #[.int .i64 op,.int .i64 a,.int .i64 b,.int .u64 n,.slice Al nl cl]] w (StepPost F w x (VB F.env x.pl ⟨op,a,b,n,l⟩)):=by
 obtain⟨W,hW⟩:∃ W,W=w.alloc (.cells #[.int .i64 op,.int .i64 a,.int .i64 b,.int .u64 n,.slice Al nl cl] 25):=⟨_,rfl⟩;have hk:∀ j:Nat,W.cell? ⟨w.heap.size,j,none⟩=(#[.int .i64 op,.int .i64 a,.int .i64 b,.int .u64 n,.slice Al nl cl]:Array Value)[j]?:=fun j=>by rw[hW,wN]
 have hgs:=h.alloc (.cells #[.int .i64 op,.int .i64 a,.int .i64 b,.int .u64 n,.slice Al nl cl] 25);rw[← hW]at hgs;have HG:=hD hgs;have HW:=hD hW;have HKX:Hid (∀ wz,Below W.heap.size W wz→wz.cell? ⟨w.heap.size,0,none⟩=some (.int .i64 op)∧wz.cell? ⟨w.heap.size,1,none⟩=some (.int .i64 a)∧wz.cell? ⟨w.heap.size,2,none⟩=some (.int .i64 b)∧wz.cell? ⟨w.heap.size,3,none⟩=some (.int .u64 n)∧wz.cell? ⟨w.heap.size,4,none⟩=some (.slice Al nl cl)∧wz.cell? ⟨F.G,8,none⟩=some (.int .i64 F.prof)):=hD fun wz hz =>
  ⟨(hz.cell (wL W _ (hk 0))).trans (hk 0),(hz.cell (wL W _ (hk 1))).trans (hk 1),(hz.cell (wL W _ (hk 2))).trans (hk 2),(hz.cell (wL W _ (hk 3))).trans (hk 3),(hz.cell (wL W _ (hk 4))).trans (hk 4),(HG.out.1.below hz).1.d8 hF⟩
 obtain⟨k0,k1,k2,k3,k4,kp⟩:=HKX.out W (bR _ _);have HI:=hD hI;have HT:=hD hT;have HRC:=hD (fun w=>rrich_any op w);have HOC:=hD (fun w=>Wl op w);obtain⟨E,hE⟩:∃ E,VB F.env x.pl ⟨op,a,b,n,l⟩=E:=⟨_,rfl⟩;rw[hE];have HE:=hD hE;have HRI:Hid (richI ⟨op,a,b,n,l⟩=(richB op || (WF op && decide (0≤a)))):=hD rfl;clear h hgs hW hk hI hT hF hE;have HPR:Hid (F.env.prof=F.prof):=hD rfl;generalize F.prof=pr at *;generalize richB op=rb at *;generalize WF op=ob at *;by_cases hp:pr=1
 ·have d1:(pr==1)=true:=by simpa using hp
  have HP:=hD (HPR.out.trans hp);clear hp HPR;cases rb with
  | true =>
   have HEE:=hD (HE.out.symm.trans (dstep_24 HP.out (by rw[HRI.out];rfl)));clear HI HT HE;obtain rfl:=HEE.out;go_enter Tryz.func51,Tryz.ntmps51
   go_upto_region 1 with (fail)
   rw[← HW.out];go_wp2_with (first|(go_at_call 86;refine(HRC.out _).mono ?_;rintro e w1 ⟨rfl,rfl⟩))
   go_ret;exact⟨x,HG.out.1,HG.out.2,rfl,fun hx=>(by simp at hx)⟩
  | false =>
   cases ob with
   | false =>
    obtain⟨ib,hib⟩:∃ ib,V6 F.env x.pl ⟨op,a,b,n,l⟩=ib:=⟨_,rfl⟩;rw[hib]at HI HT;cases ib with
    | false =>
     have HEE:=hD (HE.out.symm.trans (dstep_23 (fun hx=>by rw[HRI.out]at hx;cases hx.2) hib));exact Z5
    | true =>
     have HT2:=hD (HT.out rfl);obtain⟨T,hT⟩:∃ T,U8 F.env x.pl ⟨op,a,b,n,l⟩=T:=⟨_,rfl⟩;rw[hT]at HT2;clear HT;cases T with
     | none =>
      have HEE:=hD (HE.out.symm.trans (dstep_14 (fun hx=>by rw[HRI.out]at hx;cases hx.2) hib hT));exact ZT
     | some q =>
      have HEE:=hD (HE.out.symm.trans (dstep_0 (fun hx=>by rw[HRI.out]at hx;cases hx.2) hib hT));exact ZS
   | true =>
    by_cases ha:0≤a
    ·have d2:decide (0≤a)=true:=decide_eq_true ha;have HEE:=hD (HE.out.symm.trans (dstep_24 HP.out (by rw[HRI.out,d2];rfl)));clear HI HT HE ha;obtain rfl:=HEE.out;go_enter Tryz.func51,Tryz.ntmps51
     go_upto_region 1 with (fail)
     rw[← HW.out];go_wp2_with (first|(go_at_call 86;refine(HRC.out _).mono ?_;rintro e w1 ⟨rfl,rfl⟩)|(go_at_call 87;refine(HOC.out _).mono ?_;rintro e w2 ⟨rfl,rfl⟩))
     go_ret;exact⟨x,HG.out.1,HG.out.2,rfl,fun hx=>(by simp at hx)⟩
    ·have d2:decide (0≤a)=false:=decide_eq_false ha;have HD2:=hD d2;clear ha;obtain⟨ib,hib⟩:∃ ib,V6 F.env x.pl ⟨op,a,b,n,l⟩=ib:=⟨_,rfl⟩;rw[hib]at HI HT;cases ib with
     | false =>
      have HEE:=hD (HE.out.symm.trans (dstep_23 (fun hx=>by rw[HRI.out,HD2.out]at hx;cases hx.2) hib));exact Z5
     | true =>
      have HT2:=hD (HT.out rfl);obtain⟨T,hT⟩:∃ T,U8 F.env x.pl ⟨op,a,b,n,l⟩=T:=⟨_,rfl⟩;rw[hT]at HT2;clear HT;cases T with
      | none =>
       have HEE:=hD (HE.out.symm.trans (dstep_14 (fun hx=>by rw[HRI.out,HD2.out]at hx;cases hx.2) hib hT));exact ZT
      | some q =>
       have HEE:=hD (HE.out.symm.trans (dstep_0 (fun hx=>by rw[HRI.out,HD2.out]at hx;cases hx.2) hib hT));exact ZS
 ·have d1:(pr==1)=false:=by simpa using hp
  have HP:=hD (show ¬ F.env.prof=1 by rw[HPR.out];exact hp);clear hp HPR HRC HOC;obtain⟨ib,hib⟩:∃ ib,V6 F.env x.pl ⟨op,a,b,n,l⟩=ib:=⟨_,rfl⟩;rw[hib]at HI HT;cases ib with
  | false =>
   have HEE:=hD (HE.out.symm.trans (dstep_23 (fun hx=>HP.out hx.1) hib));clear hib HT HE;obtain rfl:=HEE.out;go_enter Tryz.func51,Tryz.ntmps51
   go_upto_region 1 with (fail)
   rw[← HW.out];go_wp2_with (first|(go_at_call 88;refine(HI.out W (HG.out.1.below (bR _ _)).1 (HG.out.2.trans (HG.out.1.below (bR _ _)).2)).mono ?_;rintro e w3 ⟨rfl,hb3⟩;have HB3:=hD (Wa (bR _ _) hb3);obtain⟨i0,i1,i2,i3,i4,ip⟩:=HKX.out w3 HB3.out;clear hb3))
   go_ret;exact⟨x,(HG.out.1.below HB3.out).1,HG.out.2.trans (HG.out.1.below HB3.out).2,rfl,fun hx=>(by simp at hx)⟩
  | true =>
   have HT2:=hD (HT.out rfl);obtain⟨T,hT⟩:∃ T,U8 F.env x.pl ⟨op,a,b,n,l⟩=T:=⟨_,rfl⟩;rw[hT]at HT2;clear HT;cases T with
   | none =>
    have HEE:=hD (HE.out.symm.trans (dstep_14 (fun hx=>HP.out hx.1) hib hT));clear hib hT HE;obtain rfl:=HEE.out;go_enter Tryz.func51,Tryz.ntmps51
    go_upto_region 1 with (fail)
    rw[← HW.out];go_wp2_with (first|(go_at_call 88;refine(HI.out W (HG.out.1.below (bR _ _)).1 (HG.out.2.trans (HG.out.1.below (bR _ _)).2)).mono ?_;rintro e w3 ⟨rfl,hb3⟩;have HB3:=hD (Wa (bR _ _) hb3);obtain⟨i0,i1,i2,i3,i4,ip⟩:=HKX.out w3 HB3.out;clear hb3)|(go_at_call 89;refine(HT2.out w3 (HG.out.1.below HB3.out).1 (HG.out.2.trans (HG.out.1.below HB3.out).2)).mono ?_;rintro e w4 ⟨x4,g4,s4,he4,r4⟩;have HG4:=hD g4;have HS4:=hD s4;have HR4:=hD r4;have he4:e=.returned (.bool false):=he4;subst he4;clear g4 s4 r4))
    go_ret;exact⟨x4,HG4.out,(HG.out.2.trans (HG.out.1.below HB3.out).2).trans HS4.out,rfl,fun hx=>(by simp at hx)⟩
   | some q =>
    have HEE:=hD (HE.out.symm.trans (dstep_0 (fun hx=>HP.out hx.1) hib hT));clear hib hT HE;obtain rfl:=HEE.out;go_enter Tryz.func51,Tryz.ntmps51
    go_upto_region 1 with (fail)
    rw[← HW.out];go_wp2_with (first|(go_at_call 88;refine(HI.out W (HG.out.1.below (bR _ _)).1 (HG.out.2.trans (HG.out.1.below (bR _ _)).2)).mono ?_;rintro e w3 ⟨rfl,hb3⟩;have HB3:=hD (Wa (bR _ _) hb3);obtain⟨i0,i1,i2,i3,i4,ip⟩:=HKX.out w3 HB3.out;clear hb3)|(go_at_call 89;refine(HT2.out w3 (HG.out.1.below HB3.out).1 (HG.out.2.trans (HG.out.1.below HB3.out).2)).mono ?_;rintro e w4 ⟨x4,g4,s4,he4,r4⟩;have HG4:=hD g4;have HS4:=hD s4;have HR4:=hD r4;have he4:e=.returned (.bool true):=he4;subst he4;clear g4 s4 r4))
    go_ret;exact⟨x4,HG4.out,(HG.out.2.trans (HG.out.1.below HB3.out).2).trans HS4.out,rfl,fun _=>(Option.some.inj (HR4.out (by trivial))).symm⟩
end
end Go.Proofs.YtmfpnfdinoofpaaGreatDoor
