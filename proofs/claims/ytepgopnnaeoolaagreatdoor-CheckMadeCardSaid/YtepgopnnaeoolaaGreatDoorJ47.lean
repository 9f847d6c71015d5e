/- A part of the proof. -/
import Derived.Test.YtepgopnnaeoolaaGreatDoorJ46
namespace Go.Proofs.YtepgopnnaeoolaaGreatDoor
section
open Go.RowKit
set_option maxHeartbeats 4000000
set_option maxRecDepth 100000
theorem ZJ {P:Prop}(h:P:=by
 go_enter Tryz.func71,Tryz.ntmps71
 go_upto_region 1 with (fail)
 rw[← HW.out];go_wp2_with (go_at_call 93;refine HT.out.mono ?_;rintro e w3 ⟨x3,g3,s3,rfl,hp3⟩;have HG3:=hD g3;have HS3:=hD s3;have HP3:=hD hp3;clear g3 s3 hp3)
 go_ret;exact⟨x3,HG3.out,HG1.out.2.trans HS3.out,rfl,HP3.out⟩):P:=h
theorem follow_2 {F:Wx} {w:World} {x:Ws} (hF:F.prg) (h:Wk F w x) (h0:0<x.f.length) (hl:x.s.length≤900000) (hh:x.top.h≤x.s.length) (hfl:x.f.length≤900000) (hs:VI F.m) (a b n:Int) (ht8:((WL F.m a).getD ([],[])).1.length≤1000∧((WL F.m a).getD ([],[])).2.length≤1000) (l:List Int) (Al:Option Addr) (nl cl:Nat) :
 Calls Tryz.prog 71 #[.pointer (some ⟨F.G,0,none⟩),.agg #[.int .i64 2,.int .i64 a,.int .i64 b,.int .u64 n,.slice Al nl cl]] w (Vb F w x (Wr F.env x.pl ⟨2,a,b,n,l⟩)):=by
 rw[show Wr F.env x.pl ⟨2,a,b,n,l⟩=openC F.env x.pl ⟨2,a,b,n,l⟩ by unfold Wr;simp];obtain⟨W,hW⟩:∃ W,W=w.alloc (.cells #[.int .i64 2,.int .i64 a,.int .i64 b,.int .u64 n,.slice Al nl cl] 76):=⟨_,rfl⟩;have k0:W.cell? ⟨w.heap.size,0,none⟩=some (.int .i64 2):=by rw[hW,wN];rfl
 have hk:∀ j:Nat,W.cell? ⟨w.heap.size,j,none⟩=(#[.int .i64 2,.int .i64 a,.int .i64 b,.int .u64 n,.slice Al nl cl]:Array Value)[j]?:=fun j=>by rw[hW,wN]
 have k1:=hk 1;have k2:=hk 2;have k3:=hk 3;have k4:=hk 4;simp only[List.getElem?_toArray,List.getElem?_cons_zero,List.getElem?_cons_succ]at k1 k2 k3 k4;have HG1:=hD (hW ▸ h.alloc (.cells #[.int .i64 2,.int .i64 a,.int .i64 b,.int .u64 n,.slice Al nl cl] 76):Wk F W x∧WE F w x W x);have HW:=hD hW;have HT:=hD (open_plain hF HG1.out.1 h0 hl hh hfl hs 2 a b n (by decide) ht8 l Al nl cl);clear hW h hk hF h0 hl hh hfl hs ht8;generalize openC F.env x.pl ⟨2,a,b,n,l⟩=r at HT ⊢;exact ZJ
theorem follow_3 {F:Wx} {w:World} {x:Ws} (hF:F.prg) (h:Wk F w x) (h0:0<x.f.length) (hl:x.s.length≤900000) (hh:x.top.h≤x.s.length) (hfl:x.f.length≤900000) (hs:VI F.m) (a b n:Int) (ht8:((WL F.m a).getD ([],[])).1.length≤1000∧((WL F.m a).getD ([],[])).2.length≤1000) (l:List Int) (Al:Option Addr) (nl cl:Nat) :
 Calls Tryz.prog 71 #[.pointer (some ⟨F.G,0,none⟩),.agg #[.int .i64 3,.int .i64 a,.int .i64 b,.int .u64 n,.slice Al nl cl]] w (Vb F w x (Wr F.env x.pl ⟨3,a,b,n,l⟩)):=by
 rw[show Wr F.env x.pl ⟨3,a,b,n,l⟩=openC F.env x.pl ⟨3,a,b,n,l⟩ by unfold Wr;simp];obtain⟨W,hW⟩:∃ W,W=w.alloc (.cells #[.int .i64 3,.int .i64 a,.int .i64 b,.int .u64 n,.slice Al nl cl] 76):=⟨_,rfl⟩;have k0:W.cell? ⟨w.heap.size,0,none⟩=some (.int .i64 3):=by rw[hW,wN];rfl
 have hk:∀ j:Nat,W.cell? ⟨w.heap.size,j,none⟩=(#[.int .i64 3,.int .i64 a,.int .i64 b,.int .u64 n,.slice Al nl cl]:Array Value)[j]?:=fun j=>by rw[hW,wN]
 have k1:=hk 1;have k2:=hk 2;have k3:=hk 3;have k4:=hk 4;simp only[List.getElem?_toArray,List.getElem?_cons_zero,List.getElem?_cons_succ]at k1 k2 k3 k4;have HG1:=hD (hW ▸ h.alloc (.cells #[.int .i64 3,.int .i64 a,.int .i64 b,.int .u64 n,.slice Al nl cl] 76):Wk F W x∧WE F w x W x);have HW:=hD hW;have HT:=hD (open_plain hF HG1.out.1 h0 hl hh hfl hs 3 a b n (by decide) ht8 l Al nl cl);clear hW h hk hF h0 hl hh hfl hs ht8;generalize openC F.env x.pl ⟨3,a,b,n,l⟩=r at HT ⊢;exact ZJ
theorem follow_4 {F:Wx} {w:World} {x:Ws} (hF:F.prg) (h:Wk F w x) (h0:0<x.f.length) (hl:x.s.length≤900000) (hh:x.top.h≤x.s.length) (hfl:x.f.length≤900000) (hs:VI F.m) (a b n:Int) (ht8:((WL F.m a).getD ([],[])).1.length≤1000∧((WL F.m a).getD ([],[])).2.length≤1000) (l:List Int) (Al:Option Addr) (nl cl:Nat) :
 Calls Tryz.prog 71 #[.pointer (some ⟨F.G,0,none⟩),.agg #[.int .i64 4,.int .i64 a,.int .i64 b,.int .u64 n,.slice Al nl cl]] w (Vb F w x (Wr F.env x.pl ⟨4,a,b,n,l⟩)):=by
 rw[show Wr F.env x.pl ⟨4,a,b,n,l⟩=openC F.env x.pl ⟨4,a,b,n,l⟩ by unfold Wr;simp];obtain⟨W,hW⟩:∃ W,W=w.alloc (.cells #[.int .i64 4,.int .i64 a,.int .i64 b,.int .u64 n,.slice Al nl cl] 76):=⟨_,rfl⟩;have k0:W.cell? ⟨w.heap.size,0,none⟩=some (.int .i64 4):=by rw[hW,wN];rfl
 have hk:∀ j:Nat,W.cell? ⟨w.heap.size,j,none⟩=(#[.int .i64 4,.int .i64 a,.int .i64 b,.int .u64 n,.slice Al nl cl]:Array Value)[j]?:=fun j=>by rw[hW,wN]
 have k1:=hk 1;have k2:=hk 2;have k3:=hk 3;have k4:=hk 4;simp only[List.getElem?_toArray,List.getElem?_cons_zero,List.getElem?_cons_succ]at k1 k2 k3 k4;have HG1:=hD (hW ▸ h.alloc (.cells #[.int .i64 4,.int .i64 a,.int .i64 b,.int .u64 n,.slice Al nl cl] 76):Wk F W x∧WE F w x W x);have HW:=hD hW;have HT:=hD (open_if hF HG1.out.1 h0 hl hh hfl hs a b n ht8 l Al nl cl);clear hW h hk hF h0 hl hh hfl hs ht8;generalize openC F.env x.pl ⟨4,a,b,n,l⟩=r at HT ⊢;exact ZJ
end
section
open Go.RowKit
set_option maxHeartbeats 8000000
set_option maxRecDepth 100000
theorem Ze {P:Prop}(h:P:=by
 rw[← hX,← hRR];have HBX:=hD hbx;clear hX hRR hbx HP HR HB1 b0 b1 b2 b3 b4 b5 b6 b7 k1;have hgx:=HGV.out.below HBX.out;have HGX:=hD hgx;have HPF:Hid (Wg (WB F X x1) X (.slice A8 (t.getD ([],[])).1.length e8) (t.getD ([],[])).1):=hD (HPX.out.keep (.refl _ _) fun k hk=>⟨hk.2,HGV.out.new_free hk.1⟩);have HRF:Hid (Wg (WB F X x1) X (.slice A9 (t.getD ([],[])).2.length e9) (t.getD ([],[])).2):=hD (HRX.out.keep (.refl _ _) fun k hk=>⟨hk.2,HGV.out.new_free hk.1⟩);have HRR:Hid (WB F X x1 RR):=hD ⟨wL X _ y0,HGV.out.new_free hrw⟩;obtain⟨Ar,cr,er,_⟩:=HGV.out.reads.own.form;have HER:=hD er;have YY:=hD (⟨y0,y1⟩:X.cell? ⟨RR,0,none⟩=some (.slice A8 (t.getD ([],[])).1.length e8)∧X.cell? ⟨RR,1,none⟩=some (.slice A9 (t.getD ([],[])).2.length e9));have HK:Hid (∀ wz xz,Wk F wz xz→WE F X x1 wz xz→wz.cell? ⟨RR,0,none⟩=some (.slice A8 (t.getD ([],[])).1.length e8)∧wz.cell? ⟨RR,1,none⟩=some (.slice A9 (t.getD ([],[])).2.length e9)∧wz.cell? ⟨F.G,12,none⟩=some (.slice Ar F.ro.length cr)):=hD fun wz xz gz hz=>⟨(hz.keeps.cell (p:=⟨RR,0,none⟩) HRR.out).trans YY.out.1,(hz.keeps.cell (p:=⟨RR,1,none⟩) HRR.out).trans YY.out.2,by rw[(gz.q HF.out).2.2.2.2.2,HER.out]⟩;have HEQ:Hid (∀ wz,Below X.heap.size X wz→Calls Tryz.prog 99 #[.slice A9 (t.getD ([],[])).2.length e9,.slice Ar F.ro.length cr] wz (Wo (decide ((t.getD ([],[])).2=F.ro)) wz)):=hD fun wz hz=>by
  have h2:=(HGX.out.1.below hz).1.reads.own;rw[HER.out]at h2;exact equal_is _ wz _ _ _ _ ((HGX.out.1.below hz).2.ints HRF.out) h2
 have HKB:Hid (∀ wz,Below X.heap.size X wz→wz.cell? ⟨RR,0,none⟩=some (.slice A8 (t.getD ([],[])).1.length e8)∧wz.cell? ⟨RR,1,none⟩=some (.slice A9 (t.getD ([],[])).2.length e9)∧wz.cell? ⟨F.G,12,none⟩=some (.slice Ar F.ro.length cr)):=hD fun wz hz=>HK.out wz x1 (HGX.out.1.below hz).1 (HGX.out.1.below hz).2;clear hgx hrw er y0 y1;by_cases hE:(t.getD ([],[])).2=F.ro
 ·skip
  have hrz:=HRE.out;rw[if_pos hE]at hrz;rw[decide_eq_true hE]at HEQ;have HRZ:=hD hrz;clear hrz hE;have HLV:=hD (fun w2 (g2:Wk F w2 x1) (hi:Wg (WB F w2 x1) w2 (.slice A8 (t.getD ([],[])).1.length e8) (t.getD ([],[])).1)=>leave_fol HF.out g2 HH.out.1 (by have:=HH.out.2.1;omega) _ _ hi (by have:=HT8.out.1;omega) HH.out.2.2.1);rw[HRZ.out]at HLV
  go_upto_region 20 with (fail)
  obtain⟨y0,y1,y2⟩:=HKB.out X (bR _ _)
  go_region_held3 (fun wz=>wz.cell? ⟨RR,0,none⟩=some (.slice A8 (t.getD ([],[])).1.length e8)∧wz.cell? ⟨RR,1,none⟩=some (.slice A9 (t.getD ([],[])).2.length e9)∧wz.cell? ⟨F.G,12,none⟩=some (.slice Ar F.ro.length cr))
   (first|go_keep|exact⟨y0,y1,y2⟩|exact HKB.out _ HB5.out|exact HY6.out)
   ((first|(go_at_call 99;refine(HEQ.out _ ((bR _ _).drew)).mono ?_;rintro e w5 ⟨rfl,hb5⟩;have HB5:=hD (Wa ((bR X.heap.size X).drew) hb5);clear hb5)|(go_at_call 96;refine(HLV.out w5 (HGX.out.1.below HB5.out).1 ((HGX.out.1.below HB5.out).2.ints HPF.out)).mono ?_;rintro e w6 ⟨x6,g6,s6,rfl,hp6⟩;have HS6:=hD ((HGX.out.1.below HB5.out).2.trans s6);have HY6:=hD (HK.out w6 x6 g6 HS6.out);have HG6:=hD g6;have HP6:=hD hp6;clear g6 s6 hp6)))
  clear y0 y1 y2;go_wp2;go_ret;exact⟨x6,HG6.out,(HSV.out.trans HGX.out.2).trans HS6.out,rfl,HP6.out⟩
 ·skip
  have hrz:=HRE.out;rw[if_neg hE]at hrz;obtain rfl:r=none:=hrz.symm;rw[decide_eq_false hE]at HEQ;clear hrz hE
  go_upto_region 20 with (fail)
  refine wp_region_held_drew (S:=fun wz=>Below X.heap.size X wz) (by kernel_rfl) ((bR _ _).drew) (fun hS=>?_);show wpAnyH _ _ _ _ _ 16 #[false,false,false,false,false,false,false,false,false,false,false,false,false,false,false,false] _ _;generalize X.drew=wX at hS ⊢;refine mT 0 75 rfl hS ?_;refine mT 1 76 rfl hS ?_ (hy:=by intro wS hSw;have y9:=(HKB.out _ hSw).2.1;go_simp;try with_reducible rfl);refine mT 2 77 rfl hS ?_;refine mT 3 78 rfl hS ?_;refine mT 4 79 rfl hS ?_;refine mT 5 80 rfl hS ?_ (hy:=by intro wS hSw;have y9:=(HKB.out _ hSw).2.2;go_simp;try with_reducible rfl);refine mR 6 81 rfl fun K hK=>?_;go_simp;go_at_call 99;refine(HEQ.out _ hS).mono ?_;rintro e w5 ⟨rfl,hb5⟩;go_wp2_with fail
  refine hK.out _ _ (Wa hS hb5) (fun hS5=>?_);clear hK K hS hb5;try simp only[sA,List.set]
  have hS:=hS5;clear hS5;refine mT 7 82 rfl hS ?_;refine mN 8 83 rfl hS ?_;refine mN 9 84 rfl hS ?_;refine mN 10 85 rfl hS ?_;refine mN 11 86 rfl hS ?_;refine mN 12 87 rfl hS ?_;refine mN 13 88 rfl hS ?_;refine mT 14 89 rfl hS ?_;refine mT 15 4 rfl hS ?_;refine wpAnyH_done (by kernel_rfl) ?_ _;have HB5:=hD hS;clear hS;go_wp2;go_ret;exact⟨x1,(HGX.out.1.below HB5.out).1,(HSV.out.trans HGX.out.2).trans (HGX.out.1.below HB5.out).2,rfl,fun q hq=>(by cases hq)⟩):P:=h
theorem follow_18 {F:Wx} {w:World} {x1:Ws} (hF:F.prg) (h:Wk F w x1) (h0:0<x1.f.length) (hl:x1.s.length≤900000) (hh:x1.top.h≤x1.s.length) (hfl:x1.f.length≤900000) (hs:VI F.m) (a b n:Int) (ha : -9223372036854775808≤a∧a≤9223372036854775807) (ht8:((WT F.m a).getD ([],[])).1.length≤1000∧((WT F.m a).getD ([],[])).2.length≤1000) (l:List Int) (Al:Option Addr) (nl cl:Nat) :
 Calls Tryz.prog 71 #[.pointer (some ⟨F.G,0,none⟩),.agg #[.int .i64 18,.int .i64 a,.int .i64 b,.int .u64 n,.slice Al nl cl]] w (Vb F w x1 (Wr F.env x1.pl ⟨18,a,b,n,l⟩)):=by
 obtain⟨r,hr⟩:∃ r,Wr F.env x1.pl ⟨18,a,b,n,l⟩=r:=⟨_,rfl⟩;rw[hr];rw[show Wr F.env x1.pl ⟨18,a,b,n,l⟩=(if ((WT F.m a).getD ([],[])).2=F.ro then VL x1.pl ((WT F.m a).getD ([],[])).1 else none) from rfl]at hr;obtain⟨W,hW⟩:∃ W,W=w.alloc (.cells #[.int .i64 18,.int .i64 a,.int .i64 b,.int .u64 n,.slice Al nl cl] 76):=⟨_,rfl⟩;have hk:∀ j:Nat,W.cell? ⟨w.heap.size,j,none⟩=(#[.int .i64 18,.int .i64 a,.int .i64 b,.int .u64 n,.slice Al nl cl]:Array Value)[j]?:=fun j=>by rw[hW,wN]
 have k0:=hk 0;have k1:=hk 1;simp only[List.getElem?_toArray,List.getElem?_cons_zero,List.getElem?_cons_succ]at k0 k1;have hgs:=h.alloc (.cells #[.int .i64 18,.int .i64 a,.int .i64 b,.int .u64 n,.slice Al nl cl] 76);rw[← hW]at hgs;have hg:=hgs.1;have HGV:=hD hgs.1;have HSV:=hD hgs.2;have HBZ:Hid (w.heap.size≤W.heap.size):=hD (by rw[hW,Wq];omega);have HI:Hid (∀ wz,Below W.heap.size W wz→wz.cell? ⟨w.heap.size,0,none⟩=some (.int .i64 18)∧wz.cell? ⟨w.heap.size,1,none⟩=some (.int .i64 a)):=hD fun wz hz=>⟨(hz.cell (p:=⟨w.heap.size,0,none⟩) (wL W _ k0)).trans k0,(hz.cell (p:=⟨w.heap.size,1,none⟩) (wL W _ k1)).trans k1⟩;have HF:=hD hF;have HH:=hD (⟨h0,hl,hh,hfl⟩:0<x1.f.length∧x1.s.length≤900000∧x1.top.h≤x1.s.length∧x1.f.length≤900000);have HT8:=hD ht8;have HW:=hD hW;have HCA:=hD (fun wz (hz:Below W.heap.size W wz)=>sig_any wz F.v F.m ((hg.below hz).1.reads.mod.keep (.refl _ _) fun _ hk=>hk.1) hs a ha);obtain⟨A0,c0,A1,c1,A2,c2,A3,c3,A4,c4,A5,c5,A6,c6,A7,c7,hv⟩:=WC hg.reads.mod;have HY:Hid (∀ wz,Below W.heap.size W wz→∀ j,wz.cell? ⟨F.G,j,none⟩=(Vj F x1)[j]?):=hD fun wz hz j=>(hg.below hz).1.cell j;unfold Vj at HY;rw[hF.1,hv]at HY;rw[hv]at HCA;simp only[Mv.cells,Bool.false_eq_true,if_false]at HCA HY;generalize F.m.types.length=n0 at *;generalize F.m.imps.length=n1 at *;generalize F.m.funs.length=n2 at *;generalize F.m.mems.length=n3 at *;generalize F.m.globs.length=n4 at *;generalize F.m.exps.length=n5 at *;generalize F.m.datas.length=n6 at *;generalize F.m.cus.length=n7 at *;have HS:Hid (∀ wz,Below W.heap.size W wz→wz.cell? ⟨F.G,2,none⟩=some (.slice A0 n0 c0)∧wz.cell? ⟨F.G,3,none⟩=some (.slice A1 n1 c1)∧wz.cell? ⟨F.G,4,none⟩=some (.slice A2 n2 c2)∧wz.cell? ⟨F.G,5,none⟩=some (.slice A3 n3 c3)∧wz.cell? ⟨F.G,6,none⟩=some (.slice A4 n4 c4)∧wz.cell? ⟨F.G,7,none⟩=some (.slice A5 n5 c5)∧wz.cell? ⟨F.G,8,none⟩=some (.slice A6 n6 c6)∧wz.cell? ⟨F.G,9,none⟩=some (.slice A7 n7 c7)∧wz.cell? ⟨w.heap.size,1,none⟩=some (.int .i64 a)):=hD fun wz hz=>⟨HY.out wz hz 2,HY.out wz hz 3,HY.out wz hz 4,HY.out wz hz 5,HY.out wz hz 6,HY.out wz hz 7,HY.out wz hz 8,HY.out wz hz 9,(HI.out wz hz).2⟩;clear hv HY hg;generalize WT F.m a=t at HCA HT8 hr;have HRE:=hD hr;clear h h0 hl hh hfl hs ht8 hgs hW hk hF hr ha;go_enter Tryz.func71,Tryz.ntmps71
 go_upto_region 1 with (fail)
 rw[← HW.out]
 go_upto_region 19 with (fail)
 clear k0 k1;obtain⟨b0,b1,b2,b3,b4,b5,b6,b7,k1⟩:=HS.out W (bR W.heap.size W)
 go_region_held3 (fun wz=>wz.cell? ⟨F.G,2,none⟩=some (.slice A0 n0 c0)∧wz.cell? ⟨F.G,3,none⟩=some (.slice A1 n1 c1)∧wz.cell? ⟨F.G,4,none⟩=some (.slice A2 n2 c2)∧wz.cell? ⟨F.G,5,none⟩=some (.slice A3 n3 c3)∧wz.cell? ⟨F.G,6,none⟩=some (.slice A4 n4 c4)∧wz.cell? ⟨F.G,7,none⟩=some (.slice A5 n5 c5)∧wz.cell? ⟨F.G,8,none⟩=some (.slice A6 n6 c6)∧wz.cell? ⟨F.G,9,none⟩=some (.slice A7 n7 c7)∧wz.cell? ⟨w.heap.size,1,none⟩=some (.int .i64 a))
  (first|go_keep|exact⟨b0,b1,b2,b3,b4,b5,b6,b7,k1⟩|exact HS.out _ HB1.out|exact HS.out _ (Wi HB1.out _)|exact HS.out _ (Vm HB1.out (Below.size (bR W.heap.size W))))
  ((go_at_call 65;refine(HCA.out _ (by first|exact Wa (bR W.heap.size W) ((bR _ _).drew)|exact Wa (bR W.heap.size W) (Wi ((bR _ _).drew) _))).mono ?_;rintro e w1 ⟨p,r,rfl,hp,hr,hb1⟩;obtain⟨A8,e8,rfl,_,_⟩:=hp.form;obtain⟨A9,e9,rfl,_,_⟩:=hr.form;have HB1:Hid (Below W.heap.size W w1):=hD (by first|exact Wa (Wa (bR W.heap.size W) ((bR _ _).drew)) hb1|exact Wa (Wa (bR W.heap.size W) (Wi ((bR _ _).drew) _)) hb1);(first|(have hN:=VO (W).drew (.cells #[.slice none 0 0,.slice none 0 0] 66);have hZ:w1.heap[(W).heap.size]?=some (.cells #[.slice none 0 0,.slice none 0 0] 66 (0,0)):=(hb1.block (W).heap.size (Array.getElem?_eq_some_iff.1 hN).1).trans hN;clear hN;have z0:=WG hZ 0;have z1:=WG hZ 1;have f0:=Vv hZ 0;have f1:=Vv hZ 1;simp only[List.getElem?_toArray,List.getElem?_cons_zero,List.getElem?_cons_succ]at z0 z1;have HZ:=hD hZ;clear hZ)|skip);have HP:=hD hp;have HR:=hD hr;clear hp hr hb1))
 ·skip
  obtain⟨X,hX⟩:∃ X,X=w1.alloc (.cells #[.slice A8 (t.getD ([],[])).1.length e8,.slice A9 (t.getD ([],[])).2.length e9] 66):=⟨_,rfl⟩;obtain⟨RR,hRR⟩:∃ RR,RR=w1.heap.size:=⟨_,rfl⟩;have hw2:W.heap.size≤(W).heap.size:=Nat.le_trans (nR _) (Below.size (bR W.heap.size W));have y0:X.cell? ⟨RR,0,none⟩=some (.slice A8 (t.getD ([],[])).1.length e8):=by rw[hX,hRR,wN];rfl
  have y1:X.cell? ⟨RR,1,none⟩=some (.slice A9 (t.getD ([],[])).2.length e9):=by rw[hX,hRR,wN];rfl
  have hbx:Below W.heap.size W X:=hX ▸ Wi HB1.out _;have HPX:Hid (Wg (fun k=>W.heap.size≤k∧k<X.heap.size) X (.slice A8 (t.getD ([],[])).1.length e8) (t.getD ([],[])).1):=hD (by rw[hX];exact UA (w:=W) (by exact hw2) HP.out _);have HRX:Hid (Wg (fun k=>W.heap.size≤k∧k<X.heap.size) X (.slice A9 (t.getD ([],[])).2.length e9) (t.getD ([],[])).2):=hD (by rw[hX];exact UA (w:=W) (by exact hw2) HR.out _);have hrw:W.heap.size≤RR:=by rw[hRR];exact HB1.out.size
  exact Ze
 ·skip
  obtain⟨X,hX⟩:∃ X,X=(w1.setCell ⟨(W).heap.size,0,none⟩ (.slice A8 (t.getD ([],[])).1.length e8)).setCell ⟨(W).heap.size,1,none⟩ (.slice A9 (t.getD ([],[])).2.length e9):=⟨_,rfl⟩;obtain⟨RR,hRR⟩:∃ RR,RR=(W).heap.size:=⟨_,rfl⟩;have hw2:W.heap.size≤(W).heap.size:=Nat.le_trans (nR _) (Below.size (bR W.heap.size W));have s1:=Wh w1 (W).heap.size 0 _ _ (.slice A8 (t.getD ([],[])).1.length e8) HZ.out;have s2:=Wh _ (W).heap.size 1 _ _ (.slice A9 (t.getD ([],[])).2.length e9) s1;rw[← hX,← hRR]at s2;have y0:X.cell? ⟨RR,0,none⟩=some (.slice A8 (t.getD ([],[])).1.length e8):=WG s2 0;have y1:X.cell? ⟨RR,1,none⟩=some (.slice A9 (t.getD ([],[])).2.length e9):=WG s2 1;have hbx:Below W.heap.size W X:=hX ▸ Vm HB1.out (Below.size (bR W.heap.size W));have hsz:W.heap.size≤((W).alloc (.cells #[.slice none 0 0,.slice none 0 0] 66)).heap.size:=by rw[Wq];omega
  have HPX:Hid (Wg (fun k=>W.heap.size≤k∧k<X.heap.size) X (.slice A8 (t.getD ([],[])).1.length e8) (t.getD ([],[])).1):=hD (by rw[hX];exact VT (w:=W) (by exact hsz) (show(W).heap.size<((W).alloc (.cells #[.slice none 0 0,.slice none 0 0] 66)).heap.size by rw[Wq];omega) HP.out _ _);have HRX:Hid (Wg (fun k=>W.heap.size≤k∧k<X.heap.size) X (.slice A9 (t.getD ([],[])).2.length e9) (t.getD ([],[])).2):=hD (by rw[hX];exact VT (w:=W) (by exact hsz) (show(W).heap.size<((W).alloc (.cells #[.slice none 0 0,.slice none 0 0] 66)).heap.size by rw[Wq];omega) HR.out _ _);clear s1 s2 z0 z1 f0 f1;have hrw:W.heap.size≤RR:=by rw[hRR];exact Below.size (bR W.heap.size W)
  exact Ze
end
section
open Go.RowKit
set_option maxHeartbeats 8000000
set_option maxRecDepth 100000
theorem take_fol {F:Wx} {w:World} {x:Ws} (hF:F.prg) (h:Wk F w x) (h0:0<x.f.length) (hs:x.s.length≤1000000) (tv:Value) (q:List Int) (hq:Wg (WB F w x) w tv q) (hql:q.length≤1000000) (hh:x.top.h≤x.s.length) :
 Calls Tryz.prog 102 #[.pointer (some ⟨F.G,0,none⟩),tv] w (Vb F w x (VH x.pl q)) :=
 (Un hF h h0 hs tv q hq hql hh).mono fun e w' ⟨h1,x',h2,h3,h4,h5⟩=>by
  cases hR:Vn x.top.h x.top.dead x.s q with
  | false =>
   rw[hR]at h1;rw[take_no hR];exact⟨x',h2,h3,h1,fun p hp=>(by cases hp)⟩
  | true =>
   rw[hR]at h1;rw[UF hR];refine⟨x',h2,h3,h1,fun p hp=>?_⟩;obtain rfl:=Option.some.inj hp;show Ws.pl x'=_;unfold Ws.pl;rw[h4,h5 hR]
theorem follow_36 {F:Wx} {w:World} {x1:Ws} (hF:F.prg) (h:Wk F w x1) (h0:0<x1.f.length) (hl:x1.s.length≤900000) (hh:x1.top.h≤x1.s.length) (hfl:x1.f.length≤900000) (k:Nat) (hk:k<F.m.globs.length) (a b n:Int) (ha:a=(k:Int)) (l:List Int) (Al:Option Addr) (nl cl:Nat) :
 Calls Tryz.prog 71 #[.pointer (some ⟨F.G,0,none⟩),.agg #[.int .i64 36,.int .i64 a,.int .i64 b,.int .u64 n,.slice Al nl cl]] w (Vb F w x1 (Wr F.env x1.pl ⟨36,a,b,n,l⟩)):=by
 subst ha;obtain⟨r,hr⟩:∃ r,Wr F.env x1.pl ⟨36,(k:Int),b,n,l⟩=r:=⟨_,rfl⟩;rw[hr];rw[show Wr F.env x1.pl ⟨36,(k:Int),b,n,l⟩=(if (F.m.globs.getD k UK).2.1 then VH x1.pl [(F.m.globs.getD k UK).1] else none) from rfl]at hr;obtain⟨W,hW⟩:∃ W,W=w.alloc (.cells #[.int .i64 36,.int .i64 (k:Int),.int .i64 b,.int .u64 n,.slice Al nl cl] 76):=⟨_,rfl⟩;have k0:W.cell? ⟨w.heap.size,0,none⟩=some (.int .i64 36):=by rw[hW,wN];rfl
 have k1:W.cell? ⟨w.heap.size,1,none⟩=some (.int .i64 (k:Int)):=by rw[hW,wN];rfl
 have hgs:=h.alloc (.cells #[.int .i64 36,.int .i64 (k:Int),.int .i64 b,.int .u64 n,.slice Al nl cl] 76);rw[← hW]at hgs;have hg:=hgs.1;have HGV:=hD hgs.1;have HSV:=hD hgs.2;have hm:=hg.reads.mod.globs;obtain⟨gl,ol,cl2,hgv,hn1,hml⟩:=Wd.some_ hm (by omega);rw[hgv]at hm;obtain⟨u0,d0,hu0⟩:=Wd.at_ hm k 0 hk (by decide);obtain⟨u1,d1,hu1⟩:=Wd.at_ hm k 1 hk (by decide);obtain⟨u2,d2,hu2⟩:=Wd.at_ hm k 2 hk (by decide);generalize hgg:F.m.globs.getD k (0,false,0)=gg at hu0 hu1 hu2;rw[show F.m.globs.getD k UK=gg from hgg]at hr;clear hgg;obtain⟨t,v,z⟩:=gg;obtain rfl:u0=.int .i64 t:=hu0;obtain rfl:u1=.bool v:=hu1;obtain⟨rfl,_⟩:u2=.int .u64 z∧VK z:=hu2;have p1:=(hg.q hF).2.1;rw[hgv]at p1;rw[Nat.add_zero]at d0;have HF:=hD hF;have HH:=hD (⟨h0,hl,hh,hfl⟩:0<x1.f.length∧x1.s.length≤900000∧x1.top.h≤x1.s.length∧x1.f.length≤900000);have HW:=hD hW;have HRE:=hD hr;unfold maxLen at hml;clear h h0 hl hh hfl hgs hW hF hr hg hm hgv;generalize F.m.globs.length=m at *;have hk0:decide ((0:Int)≤(k:Int))=true:=by simp
 have hk1:decide ((k:Int)<(m:Int))=true:=by simp;omega
 go_enter Tryz.func71,Tryz.ntmps71
 go_upto_region 1 with (fail)
 rw[← HW.out]
 go_upto_region 27 with (fail)
 clear k0
 go_region_held3 (fun wz=>wz.cell? ⟨F.G,6,none⟩=some (.slice (some ⟨gl,ol,none⟩) m cl2)∧wz.cell? ⟨w.heap.size,1,none⟩=some (.int .i64 (k:Int))∧wz.cell? ⟨gl,ol+k * 3,none⟩=some (.int .i64 t)∧wz.cell? ⟨gl,ol+k * 3+1,none⟩=some (.bool v)∧wz.cell? ⟨gl,ol+k * 3+2,none⟩=some (.int .u64 z))
  (first|go_keep|exact⟨p1,k1,d0,d1,d2⟩)
  (fail)
 clear p1 k1 d0 d1 d2 hk0 hk1;obtain⟨X,hX⟩:∃ X,X=(W.alloc (.cells #[.int .i64 t,.bool v,.int .u64 z] 44)).drew:=⟨_,rfl⟩;have hbx:Below W.heap.size W X:=hX ▸ (Wi (bR _ _) _).drew;have hgx:=HGV.out.below hbx;have y0:X.cell? ⟨W.heap.size,0,none⟩=some (.int .i64 t):=by rw[hX];exact wN W _ _ 0
 have y1:X.cell? ⟨W.heap.size,1,none⟩=some (.bool v):=by rw[hX];exact wN W _ _ 1
 have hwx:WB F X x1 W.heap.size:=⟨wL X _ y0,HGV.out.new_free (nR _)⟩;have HGX:=hD hgx;have HWX:=hD hwx;have HYY:=hD (⟨y0,y1⟩:_∧_);rw[← hX];clear hX hbx hgx hwx;have HRE:=HRE.out;simp only at HRE;have HKB:Hid (∀ wz,Below X.heap.size X wz→wz.cell? ⟨W.heap.size,0,none⟩=some (.int .i64 t)∧wz.cell? ⟨W.heap.size,1,none⟩=some (.bool v)):=hD fun wz hz=>⟨(hz.cell (p:=⟨W.heap.size,0,none⟩) HWX.out.1).trans HYY.out.1,(hz.cell (p:=⟨W.heap.size,1,none⟩) HWX.out.1).trans HYY.out.2⟩;cases v with
 | false =>
  obtain rfl:r=none:=by rw[← HRE];rfl
  clear HRE y0 y1
  go_upto_region 28 with (fail)
  refine wp_region_held_drew (S:=fun wz=>Below X.heap.size X wz) (by kernel_rfl) ((bR _ _).drew) (fun hS=>?_);show wpAnyH _ _ _ _ _ 12 #[false,false,false,false,false,false,false,false,false,false,false,false] _ _;generalize X.drew=wX at hS ⊢;refine mT 0 115 rfl hS ?_;refine mT 1 116 rfl hS ?_ (hy:=by intro wS hSw;have y9:=(HKB.out _ hSw).2;go_simp;try with_reducible rfl);refine mT 2 117 rfl hS ?_;refine mN 3 118 rfl hS ?_;refine mN 4 119 rfl hS ?_;refine mN 5 120 rfl hS ?_;refine mN 6 121 rfl hS ?_;refine mN 7 122 rfl hS ?_;refine mN 8 123 rfl hS ?_;refine mN 9 124 rfl hS ?_;refine mT 10 125 rfl hS ?_;refine mT 11 4 rfl hS ?_;refine wpAnyH_done (by kernel_rfl) ?_ _;have HB5:=hD hS;clear hS;go_wp2;go_ret;exact⟨x1,(HGX.out.1.below HB5.out).1,(HSV.out.trans HGX.out.2).trans (HGX.out.1.below HB5.out).2,rfl,fun q hq=>(by cases hq)⟩
 | true =>
  have hr2:VH x1.pl [t]=r:=by rw[← HRE];rfl
  have hxd:=HGX.out.1.below (Wi ((bR X.heap.size X).drew) (.cells #[.int .i64 t] 3));have HTF:=hD (take_fol HF.out hxd.1 HH.out.1 (by have:=HH.out.2.1;omega) _ [t] (HGX.out.1.new_ints (Vk X ((bR X.heap.size X).drew) t)) (by simp) HH.out.2.2.1);rw[hr2]at HTF;have HXD:=hD hxd;clear HRE hr2 hxd
  go_upto_region 28 with (fail)
  go_region_held3 (fun wz=>wz.cell? ⟨W.heap.size,0,none⟩=some (.int .i64 t)∧wz.cell? ⟨W.heap.size,1,none⟩=some (.bool true))
   (first|go_keep|exact⟨y0,y1⟩|exact HY6.out)
   ((go_at_call 102;refine(HTF.out).mono ?_;rintro e w6 ⟨x6,g6,s6,rfl,hp6⟩;have HS6:=hD (HXD.out.2.trans s6);have HY6:Hid (w6.cell? ⟨W.heap.size,0,none⟩=some (.int .i64 t)∧w6.cell? ⟨W.heap.size,1,none⟩=some (.bool true)):=hD ⟨(HS6.out.keeps.cell (p:=⟨W.heap.size,0,none⟩) HWX.out).trans HYY.out.1,(HS6.out.keeps.cell (p:=⟨W.heap.size,1,none⟩) HWX.out).trans HYY.out.2⟩;have HG6:=hD g6;have HP6:=hD hp6;clear g6 s6 hp6))
  clear y0 y1;go_wp2;go_ret;exact⟨x6,HG6.out,(HSV.out.trans HGX.out.2).trans HS6.out,rfl,HP6.out⟩
end
section
open Go.RowKit
def smallA (i:VV):Prop := -9223372036854775808≤i.a∧i.a≤9223372036854775807
theorem VQ {n:Int} {m:Nat} (h:Wm n m=true):∃ k:Nat,n=(k:Int)∧k<m:=by
 unfold Wm at h;rw[Bool.and_eq_true]at h;have h1:=of_decide_eq_true h.1;have h2:=of_decide_eq_true h.2;exact⟨n.toNat,by omega,by omega⟩
theorem exists_all {F:Wx} {w:World} {x:Ws} (hF:F.prg) (h:Wk F w x) (hs:VI F.m) (i:VV) (hi:smallA i) (Al:Option Addr) (nl cl:Nat) (hl:Wg (WB F w x) w (.slice Al nl cl) i.l) :
 Calls Tryz.prog 70 #[.pointer (some ⟨F.G,0,none⟩),.agg #[.int .i64 i.op,.int .i64 i.a,.int .i64 i.b,.int .u64 i.n,.slice Al nl cl]] w (Wo (Wn F.env x.pl i) w):=by
 obtain⟨op,a,b,n,l⟩:=i;by_cases hop:restE op
 ·exact exists_rest hF h op a b n l hop Al nl cl
 ·have hm:op=2∨op=3∨op=4∨op=12∨op=13∨op=14∨op=16∨op=18∨op=32∨op=33∨op=34∨op=35∨op=36∨op=63∨op=64∨op=64523∨op=64520∨op=64522∨op=64521:=by unfold restE at hop;omega
  rcases hm with rfl|rfl|rfl|rfl|rfl|rfl|rfl|rfl|rfl|rfl|rfl|rfl|rfl|rfl|rfl|rfl|rfl|rfl|rfl
  ·exact exists_2 hF h hs a b n l Al nl cl
  ·exact exists_3 hF h hs a b n l Al nl cl
  ·exact exists_4 hF h hs a b n l Al nl cl
  ·exact exists_12 hF h a b n l Al nl cl
  ·exact exists_13 hF h a b n l Al nl cl
  ·exact exists_14 hF h a b n l Al nl cl hl
  ·exact exists_16 hF h hs a b n hi l Al nl cl
  ·exact exists_18 hF h hs a b n hi l Al nl cl
  ·exact exists_32 hF h a b n l Al nl cl
  ·exact exists_33 hF h a b n l Al nl cl
  ·exact exists_34 hF h a b n l Al nl cl
  ·exact exists_35 hF h a b n l Al nl cl
  ·exact exists_36 hF h a b n l Al nl cl
  ·exact exists_63 hF h a b n l Al nl cl
  ·exact exists_64 hF h a b n l Al nl cl
  ·exact exists_64523 hF h a b n l Al nl cl
  ·exact exists_64520 hF h a b n l Al nl cl
  ·exact exists_64522 hF h a b n l Al nl cl
  ·exact exists_64521 hF h a b n l Al nl cl
theorem effect_all {F:Wx} {w:World} {x:Ws} (hF:F.prg) (h:Wk F w x) (hs:VI F.m) (hlb:∀ k,(WV x.pl k).length≤8) (i:VV) (hi:smallA i) (hex:Wn F.env x.pl i=true) (Al:Option Addr) (nl cl:Nat) :
 Calls Tryz.prog 103 #[.pointer (some ⟨F.G,0,none⟩),.agg #[.int .i64 i.op,.int .i64 i.a,.int .i64 i.b,.int .u64 i.n,.slice Al nl cl]] w (EffPost F w x (Vx F.env x.pl i)):=by
 obtain⟨op,a,b,n,l⟩:=i;by_cases hop:restF op
 ·rw[restF_is _ _ ⟨op,a,b,n,l⟩ hop];exact(effect_rest _ w op a b n hop Al nl cl).mono fun e w' hp=>hp.eff h
 ·have hm:op=13∨op=16∨op=32∨op=33∨op=34∨op=35∨op=63∨op=64∨op=64520∨op=64522∨op=64523:=by unfold restF at hop;omega
  rcases hm with rfl|rfl|rfl|rfl|rfl|rfl|rfl|rfl|rfl|rfl|rfl
  ·obtain⟨k,rfl,hk⟩:=VQ (show Wm a x.pl.f.length=true from hex);rw[Ws.pl_f,List.length_map]at hk;exact effect_13 hF h k hk (Nat.le_trans (hlb k) (by decide)) (k:Int) b n rfl Al nl cl
  ·exact(effect_16 hF h hs a b n hi Al nl cl).mono fun e w' hp=>hp.eff h
  ·obtain⟨k,rfl,hk⟩:=VQ (show Wm a F.lo.length=true from hex);exact(effect_32 hF h k hk (k:Int) b n rfl Al nl cl).mono fun e w' hp=>hp.eff h
  ·obtain⟨k,rfl,hk⟩:=VQ (show Wm a F.lo.length=true from hex);exact(effect_33 hF h k hk (k:Int) b n rfl Al nl cl).mono fun e w' hp=>hp.eff h
  ·obtain⟨k,rfl,hk⟩:=VQ (show Wm a F.lo.length=true from hex);exact(effect_34 hF h k hk (k:Int) b n rfl Al nl cl).mono fun e w' hp=>hp.eff h
  ·obtain⟨k,rfl,hk⟩:=VQ (show Wm a F.m.globs.length=true from hex);exact(effect_35 hF h k hk b n Al nl cl).mono fun e w' hp=>hp.eff h
  ·exact(effect_63 _ w a b n Al nl cl).mono fun e w' hp=>hp.eff h
  ·exact(effect_64 _ w a b n Al nl cl).mono fun e w' hp=>hp.eff h
  ·exact(effect_64520 _ w a b n Al nl cl).mono fun e w' hp=>hp.eff h
  ·exact(effect_64522 _ w a b n Al nl cl).mono fun e w' hp=>hp.eff h
  ·exact(effect_64523 _ w a b n Al nl cl).mono fun e w' hp=>hp.eff h
theorem steps_all:StepsOk smallA:=by
 intro F w x n i Al nl cl hF hg hs he hi hn hgood hints;obtain⟨op,a,b,c,l⟩:=i;refine step_rel hF hg op a b c l Al nl cl (fun _ w1 g1 s1=>exists_all hF g1 hs ⟨op,a,b,c,l⟩ hgood Al nl cl (s1.ints hints)) fun hin hex w1 g1 s1=>?_;have h0:0<x.pl.f.length:=inPlaceC_pos hin;obtain⟨t1,t2,t3⟩:=hi.top h0;rw[Ws.pl_top]at t1 t2 t3;have h1:0<x.f.length:=by have:=h0;rw[Ws.pl_f,List.length_map]at this;exact this
 have h2:x.s.length≤900000:=by have:=hi.sl;rw[Ws.pl_s]at this;omega
 have h3:x.top.h≤x.s.length:=t1;have h4:x.top.rs.length≤100000:=Nat.le_trans t3 (by decide);have h5:x.top.ps.length≤100000:=Nat.le_trans t2 (by decide);have h6:x.f.length≤900000:=by have:=hi.fl;rw[Ws.pl_f,List.length_map]at this;omega
 have hlb:∀ k,(WV x.pl k).length≤8:=fun k=>labelC_len hi k;have hbl:=he.block a;have hsg:=he.sig a;have hgood' : -9223372036854775808≤a∧a≤9223372036854775807:=hgood;by_cases hog:restG op
 ·have hef:=he.eff hi ⟨op,a,b,c,l⟩;exact follow_eff hF g1 h1 h2 h3 op a b c l hog Al nl cl ⟨by omega,by omega⟩ fun w2 g2=>effect_all hF g2 hs hlb ⟨op,a,b,c,l⟩ hgood hex Al nl cl
 ·have hm:op=2∨op=3∨op=4∨op=5∨op=11∨op=0∨op=12∨op=14∨op=15∨op=18∨op=26∨op=27∨op=36:=by unfold restG at hog;omega
  rcases hm with rfl|rfl|rfl|rfl|rfl|rfl|rfl|rfl|rfl|rfl|rfl|rfl|rfl
  ·exact follow_2 hF g1 h1 h2 h3 h6 hs a b c ⟨Nat.le_trans hbl.1 (by decide),Nat.le_trans hbl.2 (by decide)⟩ l Al nl cl
  ·exact follow_3 hF g1 h1 h2 h3 h6 hs a b c ⟨Nat.le_trans hbl.1 (by decide),Nat.le_trans hbl.2 (by decide)⟩ l Al nl cl
  ·exact follow_4 hF g1 h1 h2 h3 h6 hs a b c ⟨Nat.le_trans hbl.1 (by decide),Nat.le_trans hbl.2 (by decide)⟩ l Al nl cl
  ·exact follow_5 hF g1 h1 h2 h4 h5 h6 h3 a b c l Al nl cl
  ·exact follow_11 hF g1 h1 h2 h3 h4 a b c l Al nl cl
  ·exact follow_0 hF g1 h1 h2 h3 a b c l Al nl cl
  ·obtain⟨k,rfl,hk⟩:=VQ (show Wm a x.pl.f.length=true from hex);rw[Ws.pl_f,List.length_map]at hk;exact follow_12 hF g1 h1 h2 h3 k hk (k:Int) rfl (Nat.le_trans (hlb k) (by decide)) b c l Al nl cl
  ·have hex':(l.all (fun n=>Wm n x.pl.f.length) && decide (0<l.length))=true:=hex;rw[Bool.and_eq_true]at hex';refine follow_14 hF g1 h1 h2 h3 a b c l Al nl cl (s1.ints hints) (of_decide_eq_true hex'.2) (fun j hj=>?_) fun k=>Nat.le_trans (hlb k) (by decide);obtain⟨k,hk1,hk2⟩:=VQ (List.all_eq_true.1 hex'.1 _ (Ve l j 0 hj));rw[Ws.pl_f,List.length_map]at hk2;exact⟨k,hk1,hk2⟩
  ·exact follow_15 hF g1 h1 h2 h3 (Nat.le_trans he.ro (by decide)) a b c l Al nl cl
  ·exact follow_18 hF g1 h1 h2 h3 h6 hs a b c hgood' ⟨Nat.le_trans hsg.1 (by decide),Nat.le_trans hsg.2 (by decide)⟩ l Al nl cl
  ·exact follow_26 hF g1 h1 h2 a b c l Al nl cl
  ·exact follow_27 hF g1 h1 h2 h3 a b c l Al nl cl
  ·obtain⟨k,rfl,hk⟩:=VQ (show Wm a F.m.globs.length=true from hex);exact follow_36 hF g1 h1 h2 h3 h6 k hk (k:Int) b c rfl l Al nl cl
end
end Go.Proofs.YtepgopnnaeoolaaGreatDoor
