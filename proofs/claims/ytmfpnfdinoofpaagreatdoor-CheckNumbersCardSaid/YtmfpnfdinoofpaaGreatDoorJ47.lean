/- A part of the proof. -/
import Derived.Test.YtmfpnfdinoofpaaGreatDoorJ45
namespace Go.Proofs.YtmfpnfdinoofpaaGreatDoor
section
open Go.RowKit
set_option maxHeartbeats 8000000
set_option maxRecDepth 100000
theorem Zi {P:Prop}(h:P:=by
 rw[← hX,← hRR];have HBX:=hD hbx;clear hX hRR hbx HP HR HB1 b0 b1 b2 b3 b4 b5 b6 b7 k1;have hgx:=HGV.out.below HBX.out;have HGX:=hD hgx;have HPF:Hid (Wf (Wq F X x1) X (.slice A8 (t.getD ([],[])).1.length e8) (t.getD ([],[])).1):=hD (HPX.out.keep (.refl _ _) fun k hk=>⟨hk.2,HGV.out.new_free hk.1⟩);have HRF:Hid (Wf (Wq F X x1) X (.slice A9 (t.getD ([],[])).2.length e9) (t.getD ([],[])).2):=hD (HRX.out.keep (.refl _ _) fun k hk=>⟨hk.2,HGV.out.new_free hk.1⟩);have HRR:Hid (Wq F X x1 RR):=hD ⟨wL X _ y0,HGV.out.new_free hrw⟩;obtain⟨Ar,cr,er,_⟩:=HGV.out.reads.own.form;have HER:=hD er;have YY:=hD (⟨y0,y1⟩:X.cell? ⟨RR,0,none⟩=some (.slice A8 (t.getD ([],[])).1.length e8)∧X.cell? ⟨RR,1,none⟩=some (.slice A9 (t.getD ([],[])).2.length e9));have HK:Hid (∀ wz xz,Wk F wz xz→Wz F X x1 wz xz→wz.cell? ⟨RR,0,none⟩=some (.slice A8 (t.getD ([],[])).1.length e8)∧wz.cell? ⟨RR,1,none⟩=some (.slice A9 (t.getD ([],[])).2.length e9)∧wz.cell? ⟨F.G,12,none⟩=some (.slice Ar F.ro.length cr)):=hD fun wz xz gz hz=>⟨(hz.keeps.cell (p:=⟨RR,0,none⟩) HRR.out).trans YY.out.1,(hz.keeps.cell (p:=⟨RR,1,none⟩) HRR.out).trans YY.out.2,by rw[(gz.q HF.out).2.2.2.2.2,HER.out]⟩;have HEQ:Hid (∀ wz,Below X.heap.size X wz→Calls Tryz.prog 126 #[.slice A9 (t.getD ([],[])).2.length e9,.slice Ar F.ro.length cr] wz (Wh (decide ((t.getD ([],[])).2=F.ro)) wz)):=hD fun wz hz=>by
  have h2:=(HGX.out.1.below hz).1.reads.own;rw[HER.out]at h2;exact equal_is _ wz _ _ _ _ ((HGX.out.1.below hz).2.ints HRF.out) h2
 have HKB:Hid (∀ wz,Below X.heap.size X wz→wz.cell? ⟨RR,0,none⟩=some (.slice A8 (t.getD ([],[])).1.length e8)∧wz.cell? ⟨RR,1,none⟩=some (.slice A9 (t.getD ([],[])).2.length e9)∧wz.cell? ⟨F.G,12,none⟩=some (.slice Ar F.ro.length cr)):=hD fun wz hz=>HK.out wz x1 (HGX.out.1.below hz).1 (HGX.out.1.below hz).2;clear hgx hrw er y0 y1;by_cases hE:(t.getD ([],[])).2=F.ro
 ·skip
  have hrz:=HRE.out;rw[if_pos hE]at hrz;rw[decide_eq_true hE]at HEQ;have HRZ:=hD hrz;clear hrz hE;have HLV:=hD (fun w2 (g2:Wk F w2 x1) (hi:Wf (Wq F w2 x1) w2 (.slice A8 (t.getD ([],[])).1.length e8) (t.getD ([],[])).1)=>leave_fol HF.out g2 HH.out.1 (by have:=HH.out.2.1;omega) _ _ hi (by have:=HT8.out.1;omega) HH.out.2.2.1);rw[HRZ.out]at HLV
  go_upto_region 20 with (fail)
  obtain⟨y0,y1,y2⟩:=HKB.out X (bR _ _)
  go_region_held3 (fun wz=>wz.cell? ⟨RR,0,none⟩=some (.slice A8 (t.getD ([],[])).1.length e8)∧wz.cell? ⟨RR,1,none⟩=some (.slice A9 (t.getD ([],[])).2.length e9)∧wz.cell? ⟨F.G,12,none⟩=some (.slice Ar F.ro.length cr))
   (first|go_keep|exact⟨y0,y1,y2⟩|exact HKB.out _ HB5.out|exact HY6.out)
   ((first|(go_at_call 126;refine(HEQ.out _ ((bR _ _).drew)).mono ?_;rintro e w5 ⟨rfl,hb5⟩;have HB5:=hD (Wa ((bR X.heap.size X).drew) hb5);clear hb5)|(go_at_call 123;refine(HLV.out w5 (HGX.out.1.below HB5.out).1 ((HGX.out.1.below HB5.out).2.ints HPF.out)).mono ?_;rintro e w6 ⟨x6,g6,s6,rfl,hp6⟩;have HS6:=hD ((HGX.out.1.below HB5.out).2.trans s6);have HY6:=hD (HK.out w6 x6 g6 HS6.out);have HG6:=hD g6;have HP6:=hD hp6;clear g6 s6 hp6)))
  clear y0 y1 y2;go_wp2;go_ret;exact⟨x6,HG6.out,(HSV.out.trans HGX.out.2).trans HS6.out,rfl,HP6.out⟩
 ·skip
  have hrz:=HRE.out;rw[if_neg hE]at hrz;obtain rfl:r=none:=hrz.symm;rw[decide_eq_false hE]at HEQ;clear hrz hE
  go_upto_region 20 with (fail)
  refine wp_region_held_drew (S:=fun wz=>Below X.heap.size X wz) (by kernel_rfl) ((bR _ _).drew) (fun hS=>?_);show wpAnyH _ _ _ _ _ 16 #[false,false,false,false,false,false,false,false,false,false,false,false,false,false,false,false] _ _;generalize X.drew=wX at hS ⊢;refine mT 0 75 rfl hS ?_;refine mT 1 76 rfl hS ?_ (hy:=by intro wS hSw;have y9:=(HKB.out _ hSw).2.1;go_simp;try with_reducible rfl);refine mT 2 77 rfl hS ?_;refine mT 3 78 rfl hS ?_;refine mT 4 79 rfl hS ?_;refine mT 5 80 rfl hS ?_ (hy:=by intro wS hSw;have y9:=(HKB.out _ hSw).2.2;go_simp;try with_reducible rfl);refine mR 6 81 rfl fun K hK=>?_;go_simp;go_at_call 126;refine(HEQ.out _ hS).mono ?_;rintro e w5 ⟨rfl,hb5⟩;go_wp2_with fail
  refine hK.out _ _ (Wa hS hb5) (fun hS5=>?_);clear hK K hS hb5;try simp only[sA,List.set]
  have hS:=hS5;clear hS5;refine mT 7 82 rfl hS ?_;refine mN 8 83 rfl hS ?_;refine mN 9 84 rfl hS ?_;refine mN 10 85 rfl hS ?_;refine mN 11 86 rfl hS ?_;refine mN 12 87 rfl hS ?_;refine mN 13 88 rfl hS ?_;refine mT 14 89 rfl hS ?_;refine mT 15 4 rfl hS ?_;refine wpAnyH_done (by kernel_rfl) ?_ _;have HB5:=hD hS;clear hS;go_wp2;go_ret;exact⟨x1,(HGX.out.1.below HB5.out).1,(HSV.out.trans HGX.out.2).trans (HGX.out.1.below HB5.out).2,rfl,fun q hq=>(by cases hq)⟩):P:=h
theorem follow_18 {F:Wx} {w:World} {x1:Ws} (hF:F.prg) (h:Wk F w x1) (h0:0<x1.f.length) (hl:x1.s.length≤900000) (hh:x1.top.h≤x1.s.length) (hfl:x1.f.length≤900000) (hs:Vq F.m) (a b n:Int) (ha : -9223372036854775808≤a∧a≤9223372036854775807) (ht8:((WB F.m a).getD ([],[])).1.length≤1000∧((WB F.m a).getD ([],[])).2.length≤1000) (l:List Int) (Al:Option Addr) (nl cl:Nat) :
 Calls Tryz.prog 84 #[.pointer (some ⟨F.G,0,none⟩),.agg #[.int .i64 18,.int .i64 a,.int .i64 b,.int .u64 n,.slice Al nl cl]] w (Vy F w x1 (Wu F.env x1.pl ⟨18,a,b,n,l⟩)):=by
 obtain⟨r,hr⟩:∃ r,Wu F.env x1.pl ⟨18,a,b,n,l⟩=r:=⟨_,rfl⟩;rw[hr];rw[show Wu F.env x1.pl ⟨18,a,b,n,l⟩=(if ((WB F.m a).getD ([],[])).2=F.ro then Vo x1.pl ((WB F.m a).getD ([],[])).1 else none) from rfl]at hr;obtain⟨W,hW⟩:∃ W,W=w.alloc (.cells #[.int .i64 18,.int .i64 a,.int .i64 b,.int .u64 n,.slice Al nl cl] 25):=⟨_,rfl⟩;have hk:∀ j:Nat,W.cell? ⟨w.heap.size,j,none⟩=(#[.int .i64 18,.int .i64 a,.int .i64 b,.int .u64 n,.slice Al nl cl]:Array Value)[j]?:=fun j=>by rw[hW,wN]
 have k0:=hk 0;have k1:=hk 1;simp only[List.getElem?_toArray,List.getElem?_cons_zero,List.getElem?_cons_succ]at k0 k1;have hgs:=h.alloc (.cells #[.int .i64 18,.int .i64 a,.int .i64 b,.int .u64 n,.slice Al nl cl] 25);rw[← hW]at hgs;have hg:=hgs.1;have HGV:=hD hgs.1;have HSV:=hD hgs.2;have HBZ:Hid (w.heap.size≤W.heap.size):=hD (by rw[hW,Wj];omega);have HI:Hid (∀ wz,Below W.heap.size W wz→wz.cell? ⟨w.heap.size,0,none⟩=some (.int .i64 18)∧wz.cell? ⟨w.heap.size,1,none⟩=some (.int .i64 a)):=hD fun wz hz=>⟨(hz.cell (p:=⟨w.heap.size,0,none⟩) (wL W _ k0)).trans k0,(hz.cell (p:=⟨w.heap.size,1,none⟩) (wL W _ k1)).trans k1⟩;have HF:=hD hF;have HH:=hD (⟨h0,hl,hh,hfl⟩:0<x1.f.length∧x1.s.length≤900000∧x1.top.h≤x1.s.length∧x1.f.length≤900000);have HT8:=hD ht8;have HW:=hD hW;have HCA:=hD (fun wz (hz:Below W.heap.size W wz)=>sig_any wz F.v F.m ((hg.below hz).1.reads.mod.keep (.refl _ _) fun _ hk=>hk.1) hs a ha);obtain⟨A0,c0,A1,c1,A2,c2,A3,c3,A4,c4,A5,c5,A6,c6,A7,c7,hv⟩:=Wr hg.reads.mod;have HY:Hid (∀ wz,Below W.heap.size W wz→∀ j,wz.cell? ⟨F.G,j,none⟩=(WN F x1)[j]?):=hD fun wz hz j=>(hg.below hz).1.cell j;unfold WN at HY;rw[hF.1,hv]at HY;rw[hv]at HCA;simp only[Mv.cells,Bool.false_eq_true,if_false]at HCA HY;generalize F.m.types.length=n0 at *;generalize F.m.imps.length=n1 at *;generalize F.m.funs.length=n2 at *;generalize F.m.mems.length=n3 at *;generalize F.m.globs.length=n4 at *;generalize F.m.exps.length=n5 at *;generalize F.m.datas.length=n6 at *;generalize F.m.cus.length=n7 at *;have HS:Hid (∀ wz,Below W.heap.size W wz→wz.cell? ⟨F.G,2,none⟩=some (.slice A0 n0 c0)∧wz.cell? ⟨F.G,3,none⟩=some (.slice A1 n1 c1)∧wz.cell? ⟨F.G,4,none⟩=some (.slice A2 n2 c2)∧wz.cell? ⟨F.G,5,none⟩=some (.slice A3 n3 c3)∧wz.cell? ⟨F.G,6,none⟩=some (.slice A4 n4 c4)∧wz.cell? ⟨F.G,7,none⟩=some (.slice A5 n5 c5)∧wz.cell? ⟨F.G,8,none⟩=some (.slice A6 n6 c6)∧wz.cell? ⟨F.G,9,none⟩=some (.slice A7 n7 c7)∧wz.cell? ⟨w.heap.size,1,none⟩=some (.int .i64 a)):=hD fun wz hz=>⟨HY.out wz hz 2,HY.out wz hz 3,HY.out wz hz 4,HY.out wz hz 5,HY.out wz hz 6,HY.out wz hz 7,HY.out wz hz 8,HY.out wz hz 9,(HI.out wz hz).2⟩;clear hv HY hg;generalize WB F.m a=t at HCA HT8 hr;have HRE:=hD hr;clear h h0 hl hh hfl hs ht8 hgs hW hk hF hr ha;go_enter Tryz.func84,Tryz.ntmps84
 go_upto_region 1 with (fail)
 rw[← HW.out]
 go_upto_region 19 with (fail)
 clear k0 k1;obtain⟨b0,b1,b2,b3,b4,b5,b6,b7,k1⟩:=HS.out W (bR W.heap.size W)
 go_region_held3 (fun wz=>wz.cell? ⟨F.G,2,none⟩=some (.slice A0 n0 c0)∧wz.cell? ⟨F.G,3,none⟩=some (.slice A1 n1 c1)∧wz.cell? ⟨F.G,4,none⟩=some (.slice A2 n2 c2)∧wz.cell? ⟨F.G,5,none⟩=some (.slice A3 n3 c3)∧wz.cell? ⟨F.G,6,none⟩=some (.slice A4 n4 c4)∧wz.cell? ⟨F.G,7,none⟩=some (.slice A5 n5 c5)∧wz.cell? ⟨F.G,8,none⟩=some (.slice A6 n6 c6)∧wz.cell? ⟨F.G,9,none⟩=some (.slice A7 n7 c7)∧wz.cell? ⟨w.heap.size,1,none⟩=some (.int .i64 a))
  (first|go_keep|exact⟨b0,b1,b2,b3,b4,b5,b6,b7,k1⟩|exact HS.out _ HB1.out|exact HS.out _ (Wb HB1.out _)|exact HS.out _ (WL HB1.out (Below.size (bR W.heap.size W))))
  ((go_at_call 52;refine(HCA.out _ (by first|exact Wa (bR W.heap.size W) ((bR _ _).drew)|exact Wa (bR W.heap.size W) (Wb ((bR _ _).drew) _))).mono ?_;rintro e w1 ⟨p,r,rfl,hp,hr,hb1⟩;obtain⟨A8,e8,rfl,_,_⟩:=hp.form;obtain⟨A9,e9,rfl,_,_⟩:=hr.form;have HB1:Hid (Below W.heap.size W w1):=hD (by first|exact Wa (Wa (bR W.heap.size W) ((bR _ _).drew)) hb1|exact Wa (Wa (bR W.heap.size W) (Wb ((bR _ _).drew) _)) hb1);(first|(have hN:=Vj (W).drew (.cells #[.slice none 0 0,.slice none 0 0] 40);have hZ:w1.heap[(W).heap.size]?=some (.cells #[.slice none 0 0,.slice none 0 0] 40 (0,0)):=(hb1.block (W).heap.size (Array.getElem?_eq_some_iff.1 hN).1).trans hN;clear hN;have z0:=WG hZ 0;have z1:=WG hZ 1;have f0:=Va hZ 0;have f1:=Va hZ 1;simp only[List.getElem?_toArray,List.getElem?_cons_zero,List.getElem?_cons_succ]at z0 z1;have HZ:=hD hZ;clear hZ)|skip);have HP:=hD hp;have HR:=hD hr;clear hp hr hb1))
 ·skip
  obtain⟨X,hX⟩:∃ X,X=w1.alloc (.cells #[.slice A8 (t.getD ([],[])).1.length e8,.slice A9 (t.getD ([],[])).2.length e9] 40):=⟨_,rfl⟩;obtain⟨RR,hRR⟩:∃ RR,RR=w1.heap.size:=⟨_,rfl⟩;have hw2:W.heap.size≤(W).heap.size:=Nat.le_trans (nR _) (Below.size (bR W.heap.size W));have y0:X.cell? ⟨RR,0,none⟩=some (.slice A8 (t.getD ([],[])).1.length e8):=by rw[hX,hRR,wN];rfl
  have y1:X.cell? ⟨RR,1,none⟩=some (.slice A9 (t.getD ([],[])).2.length e9):=by rw[hX,hRR,wN];rfl
  have hbx:Below W.heap.size W X:=hX ▸ Wb HB1.out _;have HPX:Hid (Wf (fun k=>W.heap.size≤k∧k<X.heap.size) X (.slice A8 (t.getD ([],[])).1.length e8) (t.getD ([],[])).1):=hD (by rw[hX];exact U1 (w:=W) (by exact hw2) HP.out _);have HRX:Hid (Wf (fun k=>W.heap.size≤k∧k<X.heap.size) X (.slice A9 (t.getD ([],[])).2.length e9) (t.getD ([],[])).2):=hD (by rw[hX];exact U1 (w:=W) (by exact hw2) HR.out _);have hrw:W.heap.size≤RR:=by rw[hRR];exact HB1.out.size
  exact Zi
 ·skip
  obtain⟨X,hX⟩:∃ X,X=(w1.setCell ⟨(W).heap.size,0,none⟩ (.slice A8 (t.getD ([],[])).1.length e8)).setCell ⟨(W).heap.size,1,none⟩ (.slice A9 (t.getD ([],[])).2.length e9):=⟨_,rfl⟩;obtain⟨RR,hRR⟩:∃ RR,RR=(W).heap.size:=⟨_,rfl⟩;have hw2:W.heap.size≤(W).heap.size:=Nat.le_trans (nR _) (Below.size (bR W.heap.size W));have s1:=Wg w1 (W).heap.size 0 _ _ (.slice A8 (t.getD ([],[])).1.length e8) HZ.out;have s2:=Wg _ (W).heap.size 1 _ _ (.slice A9 (t.getD ([],[])).2.length e9) s1;rw[← hX,← hRR]at s2;have y0:X.cell? ⟨RR,0,none⟩=some (.slice A8 (t.getD ([],[])).1.length e8):=WG s2 0;have y1:X.cell? ⟨RR,1,none⟩=some (.slice A9 (t.getD ([],[])).2.length e9):=WG s2 1;have hbx:Below W.heap.size W X:=hX ▸ WL HB1.out (Below.size (bR W.heap.size W));have hsz:W.heap.size≤((W).alloc (.cells #[.slice none 0 0,.slice none 0 0] 40)).heap.size:=by rw[Wj];omega
  have HPX:Hid (Wf (fun k=>W.heap.size≤k∧k<X.heap.size) X (.slice A8 (t.getD ([],[])).1.length e8) (t.getD ([],[])).1):=hD (by rw[hX];exact Uh (w:=W) (by exact hsz) (show(W).heap.size<((W).alloc (.cells #[.slice none 0 0,.slice none 0 0] 40)).heap.size by rw[Wj];omega) HP.out _ _);have HRX:Hid (Wf (fun k=>W.heap.size≤k∧k<X.heap.size) X (.slice A9 (t.getD ([],[])).2.length e9) (t.getD ([],[])).2):=hD (by rw[hX];exact Uh (w:=W) (by exact hsz) (show(W).heap.size<((W).alloc (.cells #[.slice none 0 0,.slice none 0 0] 40)).heap.size by rw[Wj];omega) HR.out _ _);clear s1 s2 z0 z1 f0 f1;have hrw:W.heap.size≤RR:=by rw[hRR];exact Below.size (bR W.heap.size W)
  exact Zi
end
section
open Go.RowKit
set_option maxHeartbeats 8000000
set_option maxRecDepth 100000
theorem take_fol {F:Wx} {w:World} {x:Ws} (hF:F.prg) (h:Wk F w x) (h0:0<x.f.length) (hs:x.s.length≤1000000) (tv:Value) (q:List Int) (hq:Wf (Wq F w x) w tv q) (hql:q.length≤1000000) (hh:x.top.h≤x.s.length) :
 Calls Tryz.prog 129 #[.pointer (some ⟨F.G,0,none⟩),tv] w (Vy F w x (WI x.pl q)) :=
 (UQ hF h h0 hs tv q hq hql hh).mono fun e w' ⟨h1,x',h2,h3,h4,h5⟩=>by
  cases hR:Vm x.top.h x.top.dead x.s q with
  | false =>
   rw[hR]at h1;rw[take_no hR];exact⟨x',h2,h3,h1,fun p hp=>(by cases hp)⟩
  | true =>
   rw[hR]at h1;rw[U9 hR];refine⟨x',h2,h3,h1,fun p hp=>?_⟩;obtain rfl:=Option.some.inj hp;show Ws.pl x'=_;unfold Ws.pl;rw[h4,h5 hR]
theorem follow_36 {F:Wx} {w:World} {x1:Ws} (hF:F.prg) (h:Wk F w x1) (h0:0<x1.f.length) (hl:x1.s.length≤900000) (hh:x1.top.h≤x1.s.length) (hfl:x1.f.length≤900000) (k:Nat) (hk:k<F.m.globs.length) (a b n:Int) (ha:a=(k:Int)) (l:List Int) (Al:Option Addr) (nl cl:Nat) :
 Calls Tryz.prog 84 #[.pointer (some ⟨F.G,0,none⟩),.agg #[.int .i64 36,.int .i64 a,.int .i64 b,.int .u64 n,.slice Al nl cl]] w (Vy F w x1 (Wu F.env x1.pl ⟨36,a,b,n,l⟩)):=by
 subst ha;obtain⟨r,hr⟩:∃ r,Wu F.env x1.pl ⟨36,(k:Int),b,n,l⟩=r:=⟨_,rfl⟩;rw[hr];rw[show Wu F.env x1.pl ⟨36,(k:Int),b,n,l⟩=(if (F.m.globs.getD k glob0).2.1 then WI x1.pl [(F.m.globs.getD k glob0).1] else none) from rfl]at hr;obtain⟨W,hW⟩:∃ W,W=w.alloc (.cells #[.int .i64 36,.int .i64 (k:Int),.int .i64 b,.int .u64 n,.slice Al nl cl] 25):=⟨_,rfl⟩;have k0:W.cell? ⟨w.heap.size,0,none⟩=some (.int .i64 36):=by rw[hW,wN];rfl
 have k1:W.cell? ⟨w.heap.size,1,none⟩=some (.int .i64 (k:Int)):=by rw[hW,wN];rfl
 have hgs:=h.alloc (.cells #[.int .i64 36,.int .i64 (k:Int),.int .i64 b,.int .u64 n,.slice Al nl cl] 25);rw[← hW]at hgs;have hg:=hgs.1;have HGV:=hD hgs.1;have HSV:=hD hgs.2;have hm:=hg.reads.mod.globs;obtain⟨gl,ol,cl2,hgv,hn1,hml⟩:=Wd.some_ hm (by omega);rw[hgv]at hm;obtain⟨u0,d0,hu0⟩:=Wd.at_ hm k 0 hk (by decide);obtain⟨u1,d1,hu1⟩:=Wd.at_ hm k 1 hk (by decide);obtain⟨u2,d2,hu2⟩:=Wd.at_ hm k 2 hk (by decide);generalize hgg:F.m.globs.getD k (0,false,0)=gg at hu0 hu1 hu2;rw[show F.m.globs.getD k glob0=gg from hgg]at hr;clear hgg;obtain⟨t,v,z⟩:=gg;obtain rfl:u0=.int .i64 t:=hu0;obtain rfl:u1=.bool v:=hu1;obtain⟨rfl,_⟩:u2=.int .u64 z∧wordZ z:=hu2;have p1:=(hg.q hF).2.1;rw[hgv]at p1;rw[Nat.add_zero]at d0;have HF:=hD hF;have HH:=hD (⟨h0,hl,hh,hfl⟩:0<x1.f.length∧x1.s.length≤900000∧x1.top.h≤x1.s.length∧x1.f.length≤900000);have HW:=hD hW;have HRE:=hD hr;unfold maxLen at hml;clear h h0 hl hh hfl hgs hW hF hr hg hm hgv;generalize F.m.globs.length=m at *;have hk0:decide ((0:Int)≤(k:Int))=true:=by simp
 have hk1:decide ((k:Int)<(m:Int))=true:=by simp;omega
 go_enter Tryz.func84,Tryz.ntmps84
 go_upto_region 1 with (fail)
 rw[← HW.out]
 go_upto_region 27 with (fail)
 clear k0
 go_region_held3 (fun wz=>wz.cell? ⟨F.G,6,none⟩=some (.slice (some ⟨gl,ol,none⟩) m cl2)∧wz.cell? ⟨w.heap.size,1,none⟩=some (.int .i64 (k:Int))∧wz.cell? ⟨gl,ol+k * 3,none⟩=some (.int .i64 t)∧wz.cell? ⟨gl,ol+k * 3+1,none⟩=some (.bool v)∧wz.cell? ⟨gl,ol+k * 3+2,none⟩=some (.int .u64 z))
  (first|go_keep|exact⟨p1,k1,d0,d1,d2⟩)
  (fail)
 clear p1 k1 d0 d1 d2 hk0 hk1;obtain⟨X,hX⟩:∃ X,X=(W.alloc (.cells #[.int .i64 t,.bool v,.int .u64 z] 70)).drew:=⟨_,rfl⟩;have hbx:Below W.heap.size W X:=hX ▸ (Wb (bR _ _) _).drew;have hgx:=HGV.out.below hbx;have y0:X.cell? ⟨W.heap.size,0,none⟩=some (.int .i64 t):=by rw[hX];exact wN W _ _ 0
 have y1:X.cell? ⟨W.heap.size,1,none⟩=some (.bool v):=by rw[hX];exact wN W _ _ 1
 have hwx:Wq F X x1 W.heap.size:=⟨wL X _ y0,HGV.out.new_free (nR _)⟩;have HGX:=hD hgx;have HWX:=hD hwx;have HYY:=hD (⟨y0,y1⟩:_∧_);rw[← hX];clear hX hbx hgx hwx;have HRE:=HRE.out;simp only at HRE;have HKB:Hid (∀ wz,Below X.heap.size X wz→wz.cell? ⟨W.heap.size,0,none⟩=some (.int .i64 t)∧wz.cell? ⟨W.heap.size,1,none⟩=some (.bool v)):=hD fun wz hz=>⟨(hz.cell (p:=⟨W.heap.size,0,none⟩) HWX.out.1).trans HYY.out.1,(hz.cell (p:=⟨W.heap.size,1,none⟩) HWX.out.1).trans HYY.out.2⟩;cases v with
 | false =>
  obtain rfl:r=none:=by rw[← HRE];rfl
  clear HRE y0 y1
  go_upto_region 28 with (fail)
  refine wp_region_held_drew (S:=fun wz=>Below X.heap.size X wz) (by kernel_rfl) ((bR _ _).drew) (fun hS=>?_);show wpAnyH _ _ _ _ _ 12 #[false,false,false,false,false,false,false,false,false,false,false,false] _ _;generalize X.drew=wX at hS ⊢;refine mT 0 115 rfl hS ?_;refine mT 1 116 rfl hS ?_ (hy:=by intro wS hSw;have y9:=(HKB.out _ hSw).2;go_simp;try with_reducible rfl);refine mT 2 117 rfl hS ?_;refine mN 3 118 rfl hS ?_;refine mN 4 119 rfl hS ?_;refine mN 5 120 rfl hS ?_;refine mN 6 121 rfl hS ?_;refine mN 7 122 rfl hS ?_;refine mN 8 123 rfl hS ?_;refine mN 9 124 rfl hS ?_;refine mT 10 125 rfl hS ?_;refine mT 11 4 rfl hS ?_;refine wpAnyH_done (by kernel_rfl) ?_ _;have HB5:=hD hS;clear hS;go_wp2;go_ret;exact⟨x1,(HGX.out.1.below HB5.out).1,(HSV.out.trans HGX.out.2).trans (HGX.out.1.below HB5.out).2,rfl,fun q hq=>(by cases hq)⟩
 | true =>
  have hr2:WI x1.pl [t]=r:=by rw[← HRE];rfl
  have hxd:=HGX.out.1.below (Wb ((bR X.heap.size X).drew) (.cells #[.int .i64 t] 3));have HTF:=hD (take_fol HF.out hxd.1 HH.out.1 (by have:=HH.out.2.1;omega) _ [t] (HGX.out.1.new_ints (WH X ((bR X.heap.size X).drew) t)) (by simp) HH.out.2.2.1);rw[hr2]at HTF;have HXD:=hD hxd;clear HRE hr2 hxd
  go_upto_region 28 with (fail)
  go_region_held3 (fun wz=>wz.cell? ⟨W.heap.size,0,none⟩=some (.int .i64 t)∧wz.cell? ⟨W.heap.size,1,none⟩=some (.bool true))
   (first|go_keep|exact⟨y0,y1⟩|exact HY6.out)
   ((go_at_call 129;refine(HTF.out).mono ?_;rintro e w6 ⟨x6,g6,s6,rfl,hp6⟩;have HS6:=hD (HXD.out.2.trans s6);have HY6:Hid (w6.cell? ⟨W.heap.size,0,none⟩=some (.int .i64 t)∧w6.cell? ⟨W.heap.size,1,none⟩=some (.bool true)):=hD ⟨(HS6.out.keeps.cell (p:=⟨W.heap.size,0,none⟩) HWX.out).trans HYY.out.1,(HS6.out.keeps.cell (p:=⟨W.heap.size,1,none⟩) HWX.out).trans HYY.out.2⟩;have HG6:=hD g6;have HP6:=hD hp6;clear g6 s6 hp6))
  clear y0 y1;go_wp2;go_ret;exact⟨x6,HG6.out,(HSV.out.trans HGX.out.2).trans HS6.out,rfl,HP6.out⟩
end
section
open Go.RowKit
def endC:List Value:=[.int .i64 11,.int .i64 0,.int .i64 0,.int .u64 0,.slice none 0 0]
theorem endC_one:∀ u ∈ endC,u.oneCell'=true:=by
 intro u hu;unfold endC at hu;simp only[List.mem_cons,List.not_mem_nil,or_false]at hu;rcases hu with rfl|rfl|rfl|rfl|rfl <;> rfl
structure Lx where
 w0:World
 r:Nat
 b2:Nat
 pv:Value
 rv:Value
 u1:Value
 n:Nat
 xs:List Value
def Lx.In (X:Lx) (w:World) (v:Value) (e:TypeId) (n:Nat) (cs:Array Value):Prop:=∃ g,v=.slice (some ⟨g,0,none⟩) n n∧w.heap[g]?=some (.cells cs e (0,0))∧X.w0.heap.size≤g
section
variable {X:Lx} {w w':World} {v:Value} {e:TypeId} {n:Nat} {cs:Array Value}
theorem Lx.In.below (h:X.In w v e n cs) (hb:Below w.heap.size w w'):X.In w' v e n cs:=by
 obtain⟨g,h1,h2,h3⟩:=h;exact⟨g,h1,(hb.block g (Array.getElem?_eq_some_iff.1 h2).1).trans h2,h3⟩
theorem Lx.In.grown (h:X.In w v e n cs) (hg:w.grownBy w' X.u1.ownBlock) (hr:∀ g,X.u1.ownBlock=some g→g<X.w0.heap.size):X.In w' v e n cs:=by
 obtain⟨g,h1,h2,h3⟩:=h;exact⟨g,h1,(hg.block g (Array.getElem?_eq_some_iff.1 h2).1 fun e=>by have:=hr g e.symm;omega).trans h2,h3⟩
theorem Lx.In.new (hs:X.w0.heap.size≤w.heap.size):X.In (w.alloc (.cells cs e)) (.slice (some ⟨w.heap.size,0,none⟩) n n) e n cs:=⟨_,rfl,Vj w _,hs⟩
theorem Lx.In.cells {K:Nat→Prop} (h:X.In w v e n cs) (hK:∀ g,X.w0.heap.size≤g→g<w.heap.size→K g) (hn:n≤maxLen) (size:Nat) (f:Nat→Nat→Value→Prop) (hf:∀ j i,j<n→i<size→∃ u,cs[j * size+i]?=some u∧f j i u):Wd K w v n size f:=by
 obtain⟨g,rfl,h2,h3⟩:=h;refine⟨_,n,rfl,nR _,hn,fun h=>(by cases h),fun _=>⟨g,0,rfl,hK g h3 (Array.getElem?_eq_some_iff.1 h2).1,fun j i hj hi=>?_⟩⟩;obtain⟨u,k1,k2⟩:=hf j i hj hi;exact⟨u,by rw[Nat.zero_add];simp[World.cell?,h2,k1],k2⟩
theorem Lx.In.ints {K:Nat→Prop} {l:List Int} (h:X.In w v e n cs) (hc:cs=(l.map (Value.int .i64)).toArray) (hn:n=l.length) (hK:∀ g,X.w0.heap.size≤g→g<w.heap.size→K g) (hl:n≤100):Wf K w v l:=by
 obtain⟨g,rfl,h2,h3⟩:=h;subst hc;subst hn;refine⟨_,_,rfl,by unfold maxLen;omega,fun h=>(by cases h),fun _=>⟨g,0,rfl,hK g h3 (Array.getElem?_eq_some_iff.1 h2).1,fun j hj=>?_⟩⟩;rw[Nat.zero_add];simp[World.cell?,h2,hj]
end
def Lx.Row (X:Lx) (w:World) (v:Value):Prop:=w.ownsRow 0 25 5 v (X.n+1) (X.xs++endC)∧(v.ownBlock=X.u1.ownBlock∨∀ g,v.ownBlock=some g→X.w0.heap.size≤g)∧∃ A c,v=.slice A (X.n+1) c
def Lx.T6 (X:Lx) (w:World) (v:Value):Prop:=∃ a b c,X.In w v 40 3 #[X.pv,X.rv,a,b,.slice none 0 0,c]∧X.In w a 3 1 #[.int .i64 127]∧X.In w b 3 2 #[.int .i64 127,.int .i64 126]∧X.In w c 3 1 #[.int .i64 127]
def Lx.F15 (X:Lx) (w:World) (v:Value):Prop:=∃ lo cv,X.In w v 68 1 #[.int .i64 0,lo,cv]∧X.In w lo 3 1 #[.int .i64 124]∧X.Row w cv
def Lx.F (X:Lx) (w:World):Nat→Value→Prop
 | 0,v=>v=.agg #[X.pv,X.rv]
 | 1,v=>X.In w v 3 1 #[.int .i64 127]
 | 2,v=>X.In w v 3 2 #[.int .i64 127,.int .i64 126]
 | 3,v=>∃ a b,v=.agg #[a,b]∧X.In w a 3 1 #[.int .i64 127]∧X.In w b 3 2 #[.int .i64 127,.int .i64 126]
 | 4,v=>X.In w v 3 1 #[.int .i64 127]
 | 5,v=>∃ b,v=.agg #[.slice none 0 0,b]∧X.In w b 3 1 #[.int .i64 127]
 | 6,v=>X.T6 w v
 | 7,v=>v=.agg #[.string ByteArray.empty,.string ByteArray.empty,.int .i64 2]
 | 8,v=>X.In w v 66 1 #[.string ByteArray.empty,.string ByteArray.empty,.int .i64 2]
 | 9,v=>X.In w v 3 1 #[.int .i64 124]
 | 10,v=>v=X.u1
 | 11,v=>v=.agg #[.int .i64 11,.int .i64 0,.int .i64 0,.int .u64 0,.slice none 0 0]
 | 12,v=>X.In w v 25 1 #[.int .i64 11,.int .i64 0,.int .i64 0,.int .u64 0,.slice none 0 0]
 | 13,v=>X.Row w v
 | 14,v=>∃ lo cv,v=.agg #[.int .i64 0,lo,cv]∧X.In w lo 3 1 #[.int .i64 124]∧X.Row w cv
 | 15,v=>X.F15 w v
 | 16,v=>v=.agg #[.int .i64 0,.int .i64 1]
 | 17,v=>v=.agg #[.int .i64 0,.int .i64 1]
 | 18,v=>X.In w v 58 2 #[.int .i64 0,.int .i64 1,.int .i64 0,.int .i64 1]
 | 19,v=>v=.agg #[.int .i64 127,.bool true,.int .u64 0]
 | 20,v=>v=.agg #[.int .i64 126,.bool false,.int .u64 0]
 | 21,v=>X.In w v 70 2 #[.int .i64 127,.bool true,.int .u64 0,.int .i64 126,.bool false,.int .u64 0]
 | 22,v=>v=.agg #[.bool false,.int .i64 0,.int .i64 0,.slice none 0 0]
 | 23,v=>X.In w v 61 1 #[.bool false,.int .i64 0,.int .i64 0,.slice none 0 0]
 | 24,v=>∃ a b c d e f,v=.agg #[a,b,c,d,e,.slice none 0 0,f,.slice none 0 0]∧X.T6 w a∧X.In w b 66 1 #[.string ByteArray.empty,.string ByteArray.empty,.int .i64 2]∧X.F15 w c∧X.In w d 58 2 #[.int .i64 0,.int .i64 1,.int .i64 0,.int .i64 1]∧X.In w e 70 2 #[.int .i64 127,.bool true,.int .u64 0,.int .i64 126,.bool false,.int .u64 0]∧X.In w f 61 1 #[.bool false,.int .i64 0,.int .i64 0,.slice none 0 0]
 | _,_=>True
theorem Lx.T6.below {X:Lx} {w w':World} {v:Value} (h:X.T6 w v) (hb:Below w.heap.size w w'):X.T6 w' v:=by
 obtain⟨a,b,c,h1,h2,h3,h4⟩:=h;exact⟨a,b,c,h1.below hb,h2.below hb,h3.below hb,h4.below hb⟩
theorem Lx.T6.grown {X:Lx} {w w':World} {v:Value} (h:X.T6 w v) (hg:w.grownBy w' X.u1.ownBlock) (hr:∀ g,X.u1.ownBlock=some g→g<X.w0.heap.size):X.T6 w' v:=by
 obtain⟨a,b,c,h1,h2,h3,h4⟩:=h;exact⟨a,b,c,h1.grown hg hr,h2.grown hg hr,h3.grown hg hr,h4.grown hg hr⟩
theorem Lx.Row.below {X:Lx} {w w':World} {v:Value} (h:X.Row w v) (hb:Below w.heap.size w w'):X.Row w' v:=⟨W8 h.1 hb,h.2⟩
theorem Lx.F15.below {X:Lx} {w w':World} {v:Value} (h:X.F15 w v) (hb:Below w.heap.size w w'):X.F15 w' v:=by
 obtain⟨a,b,h1,h2,h3⟩:=h;exact⟨a,b,h1.below hb,h2.below hb,h3.below hb⟩
theorem Lx.F_below {X:Lx} {w w':World} (hb:Below w.heap.size w w') {i:Nat} (hi:i<25) {v:Value} (h:X.F w i v):X.F w' i v:=by
 rcases(show i=0∨i=1∨i=2∨i=3∨i=4∨i=5∨i=6∨i=7∨i=8∨i=9∨i=10∨i=11∨i=12∨i=13∨i=14∨i=15∨i=16∨i=17∨i=18∨i=19∨i=20∨i=21∨i=22∨i=23∨i=24 by omega) with rfl|rfl|rfl|rfl|rfl|rfl|rfl|rfl|rfl|rfl|rfl|rfl|rfl|rfl|rfl|rfl|rfl|rfl|rfl|rfl|rfl|rfl|rfl|rfl|rfl
 ·exact h
 ·exact Lx.In.below h hb
 ·exact Lx.In.below h hb
 ·obtain⟨a,b,h1,h2,h3⟩:=h;exact⟨a,b,h1,h2.below hb,h3.below hb⟩
 ·exact Lx.In.below h hb
 ·obtain⟨b,h1,h2⟩:=h;exact⟨b,h1,h2.below hb⟩
 ·exact Lx.T6.below h hb
 ·exact h
 ·exact Lx.In.below h hb
 ·exact Lx.In.below h hb
 ·exact h
 ·exact h
 ·exact Lx.In.below h hb
 ·exact Lx.Row.below h hb
 ·obtain⟨a,b,h1,h2,h3⟩:=h;exact⟨a,b,h1,h2.below hb,Lx.Row.below h3 hb⟩
 ·exact Lx.F15.below h hb
 ·exact h
 ·exact h
 ·exact Lx.In.below h hb
 ·exact h
 ·exact h
 ·exact Lx.In.below h hb
 ·exact h
 ·exact Lx.In.below h hb
 ·obtain⟨a,b,c,d,e,f,h0,h1,h2,h3,h4,h5,h6⟩:=h;exact⟨a,b,c,d,e,f,h0,Lx.T6.below h1 hb,h2.below hb,Lx.F15.below h3 hb,h4.below hb,h5.below hb,h6.below hb⟩
theorem Lx.F_grown {X:Lx} {w w':World} (hg:w.grownBy w' X.u1.ownBlock) (hr:∀ g,X.u1.ownBlock=some g→g<X.w0.heap.size) {i:Nat} (hi:i<25) (hn:i≠13∧i≠14∧i≠15∧i≠24) {v:Value} (h:X.F w i v):X.F w' i v:=by
 rcases(show i=0∨i=1∨i=2∨i=3∨i=4∨i=5∨i=6∨i=7∨i=8∨i=9∨i=10∨i=11∨i=12∨i=13∨i=14∨i=15∨i=16∨i=17∨i=18∨i=19∨i=20∨i=21∨i=22∨i=23∨i=24 by omega) with rfl|rfl|rfl|rfl|rfl|rfl|rfl|rfl|rfl|rfl|rfl|rfl|rfl|rfl|rfl|rfl|rfl|rfl|rfl|rfl|rfl|rfl|rfl|rfl|rfl
 ·exact h
 ·exact Lx.In.grown h hg hr
 ·exact Lx.In.grown h hg hr
 ·obtain⟨a,b,h1,h2,h3⟩:=h;exact⟨a,b,h1,h2.grown hg hr,h3.grown hg hr⟩
 ·exact Lx.In.grown h hg hr
 ·obtain⟨b,h1,h2⟩:=h;exact⟨b,h1,h2.grown hg hr⟩
 ·exact Lx.T6.grown h hg hr
 ·exact h
 ·exact Lx.In.grown h hg hr
 ·exact Lx.In.grown h hg hr
 ·exact h
 ·exact h
 ·exact Lx.In.grown h hg hr
 ·exact absurd rfl hn.1
 ·exact absurd rfl hn.2.1
 ·exact absurd rfl hn.2.2.1
 ·exact h
 ·exact h
 ·exact Lx.In.grown h hg hr
 ·exact h
 ·exact h
 ·exact Lx.In.grown h hg hr
 ·exact h
 ·exact Lx.In.grown h hg hr
 ·exact absurd rfl hn.2.2.2
def Lx.arr (X:Lx) (s:Nat→Value):Act:={ tmps:=#[.agg #[X.pv,X.rv],X.u1,.pointer (some ⟨X.b2,0,none⟩),undef,.pointer (some ⟨X.r,0,none⟩),s 5,s 6,s 7,s 8,s 9,s 10,s 11,s 12,s 13,s 14,s 15,s 16,s 17,s 18,s 19,s 20,s 21,s 22,s 23,s 24,s 25,s 26,s 27,s 28,s 29],defers:=[] }
structure Lx.Ok (X:Lx):Prop where
 c0:∀ g,X.u1.ownBlock=some g→g<X.b2
 c1:X.b2<X.r
 c2:X.r<X.w0.heap.size
 bx:X.w0.heap[X.b2]?=some (.cells #[X.pv,X.rv] 40 (0,0))
 n9:X.n≤1000
 fm:∃ A c,X.u1=.slice A X.n c
def zero8:Array Value:=#[.slice none 0 0,.slice none 0 0,.slice none 0 0,.slice none 0 0,.slice none 0 0,.slice none 0 0,.slice none 0 0,.slice none 0 0]
structure Lx.Inv (X:Lx) (L:Array Bool) (s:Nat→Value) (w:World):Prop where
 sz:L.size=26
 kp:We (fun k=>k<X.w0.heap.size∧X.u1.ownBlock≠some k) X.w0 w
 ow:w.ownsRow 0 25 5 X.u1 X.n X.xs
 rs:w.heap[X.r]?=some (.cells zero8 37 (0,0))
 fs:∀ i,i<25→L.getD i false=true→X.F w i (s (i+5))
 dn:L.getD 13 false=false→L.getD 14 false=false∧L.getD 15 false=false∧L.getD 24 false=false
theorem Lx.Inv.d13 {X:Lx} {L:Array Bool} {s:Nat→Value} {w:World} (h:X.Inv L s w) {k:Nat} (hk:k=14∨k=15∨k=24) (hl:L.getD k false=true):L.getD 13 false=true:=by
 cases hc:L.getD 13 false with
 | true=>rfl
 | false =>
  have hd:=h.dn hc;rcases hk with rfl|rfl|rfl
  ·rw[hd.1]at hl;cases hl
  ·rw[hd.2.1]at hl;cases hl
  ·rw[hd.2.2]at hl;cases hl
theorem UH {L:Array Bool} {i j:Nat} (h:j≠i):(L.setIfInBounds i true).getD j false=L.getD j false:=by
 rw[Array.getD_eq_getD_getElem?,Array.getElem?_setIfInBounds,if_neg (fun e=>h e.symm),← Array.getD_eq_getD_getElem?]
theorem getD_set_at {L:Array Bool} {i:Nat} (h:i<L.size):(L.setIfInBounds i true).getD i false=true:=by
 simp[Array.getD_eq_getD_getElem?,h]
theorem Lx.Inv.put {X:Lx} {L:Array Bool} {s:Nat→Value} {w w':World} (h:X.Inv L s w) {i:Nat} (hi:i<25) (hd:i=14∨i=15∨i=24→L.getD 13 false=true) (v:Value) (hb:Below w.heap.size w w') (hF:X.F w' i v):X.Inv (L.setIfInBounds i true) (VK s (i+5) v) w':=by
 refine⟨by rw[Array.size_setIfInBounds];exact h.sz,h.kp.trans (We.below hb fun k hk=>Ve hk.1 h.kp.size),W8 h.ow hb,(hb.block _ (Array.getElem?_eq_some_iff.1 h.rs).1).trans h.rs,fun j hj hl=>?_,fun h13=>?_⟩;rotate_left
 ·have hz:=h.sz;have h1:13≠i:=fun e=>by subst e;rw[getD_set_at (by omega)]at h13;cases h13
  rw[UH h1]at h13;have hn:¬ (i=14∨i=15∨i=24):=fun e=>by rw[hd e]at h13;cases h13
  have h2:=h.dn h13;rw[UH (by omega),UH (by omega),UH (by omega)];exact h2
 by_cases hji:j=i
 ·subst hji;rw[slot_at];exact hF
 ·rw[slot_off _ _ (by omega)];exact Lx.F_below hb hj (h.fs j hj (getD_done hl hji))
theorem Lx.Inv.app {X:Lx} (hX:X.Ok) {L:Array Bool} {s:Nat→Value} {w w':World} (h:X.Inv L s w) (hu13:L.getD 13 false=false) (v:Value) (hg:w.grownBy w' X.u1.ownBlock) (ho:w'.ownsRow 0 25 5 X.u1 X.n X.xs) (hF:X.F w' 13 v):X.Inv (L.setIfInBounds 13 true) (VK s 18 v) w':=by
 have hu:=h.dn hu13;have hr:∀ g,X.u1.ownBlock=some g→g<X.w0.heap.size:=fun g e=>by have:=hX.c0 g e;have:=hX.c1;have:=hX.c2;omega
 refine⟨by rw[Array.size_setIfInBounds];exact h.sz,h.kp.trans (.grown hg (fun k hk=>Ve hk.1 h.kp.size) fun k e hk=>hk.2 e),ho,(hg.block _ (Array.getElem?_eq_some_iff.1 h.rs).1 fun e=>by have:=hX.c0 _ e.symm;have:=hX.c1;omega).trans h.rs,fun j hj hl=>?_,fun h13=>by rw[getD_set_at (by have:=h.sz;omega)]at h13;cases h13⟩;by_cases hji:j=13
 ·subst hji;rw[slot_at];exact hF
 ·rw[slot_off _ _ (by omega)];have hlj:=getD_done hl hji;exact Lx.F_grown hg hr hj ⟨hji,fun e=>(by subst e;rw[hu.1]at hlj;cases hlj),fun e=>(by subst e;rw[hu.2.1]at hlj;cases hlj),fun e=>(by subst e;rw[hu.2.2]at hlj;cases hlj)⟩ (h.fs j hj hlj)
end
section
open Go.RowKit
set_option maxHeartbeats 4000000
set_option maxRecDepth 100000
theorem Z7 {P:Prop}(h:P:=by
 go_enter Tryz.func84,Tryz.ntmps84
 go_upto_region 1 with (fail)
 rw[← HW.out];go_wp2_with (go_at_call 120;refine HT.out.mono ?_;rintro e w3 ⟨x3,g3,s3,rfl,hp3⟩;have HG3:=hD g3;have HS3:=hD s3;have HP3:=hD hp3;clear g3 s3 hp3)
 go_ret;exact⟨x3,HG3.out,HG1.out.2.trans HS3.out,rfl,HP3.out⟩):P:=h
theorem follow_2 {F:Wx} {w:World} {x:Ws} (hF:F.prg) (h:Wk F w x) (h0:0<x.f.length) (hl:x.s.length≤900000) (hh:x.top.h≤x.s.length) (hfl:x.f.length≤900000) (hs:Vq F.m) (a b n:Int) (ht8:((Wv F.m a).getD ([],[])).1.length≤1000∧((Wv F.m a).getD ([],[])).2.length≤1000) (l:List Int) (Al:Option Addr) (nl cl:Nat) :
 Calls Tryz.prog 84 #[.pointer (some ⟨F.G,0,none⟩),.agg #[.int .i64 2,.int .i64 a,.int .i64 b,.int .u64 n,.slice Al nl cl]] w (Vy F w x (Wu F.env x.pl ⟨2,a,b,n,l⟩)):=by
 rw[show Wu F.env x.pl ⟨2,a,b,n,l⟩=openC F.env x.pl ⟨2,a,b,n,l⟩ by unfold Wu;simp];obtain⟨W,hW⟩:∃ W,W=w.alloc (.cells #[.int .i64 2,.int .i64 a,.int .i64 b,.int .u64 n,.slice Al nl cl] 25):=⟨_,rfl⟩;have k0:W.cell? ⟨w.heap.size,0,none⟩=some (.int .i64 2):=by rw[hW,wN];rfl
 have hk:∀ j:Nat,W.cell? ⟨w.heap.size,j,none⟩=(#[.int .i64 2,.int .i64 a,.int .i64 b,.int .u64 n,.slice Al nl cl]:Array Value)[j]?:=fun j=>by rw[hW,wN]
 have k1:=hk 1;have k2:=hk 2;have k3:=hk 3;have k4:=hk 4;simp only[List.getElem?_toArray,List.getElem?_cons_zero,List.getElem?_cons_succ]at k1 k2 k3 k4;have HG1:=hD (hW ▸ h.alloc (.cells #[.int .i64 2,.int .i64 a,.int .i64 b,.int .u64 n,.slice Al nl cl] 25):Wk F W x∧Wz F w x W x);have HW:=hD hW;have HT:=hD (open_plain hF HG1.out.1 h0 hl hh hfl hs 2 a b n (by decide) ht8 l Al nl cl);clear hW h hk hF h0 hl hh hfl hs ht8;generalize openC F.env x.pl ⟨2,a,b,n,l⟩=r at HT ⊢;exact Z7
theorem follow_3 {F:Wx} {w:World} {x:Ws} (hF:F.prg) (h:Wk F w x) (h0:0<x.f.length) (hl:x.s.length≤900000) (hh:x.top.h≤x.s.length) (hfl:x.f.length≤900000) (hs:Vq F.m) (a b n:Int) (ht8:((Wv F.m a).getD ([],[])).1.length≤1000∧((Wv F.m a).getD ([],[])).2.length≤1000) (l:List Int) (Al:Option Addr) (nl cl:Nat) :
 Calls Tryz.prog 84 #[.pointer (some ⟨F.G,0,none⟩),.agg #[.int .i64 3,.int .i64 a,.int .i64 b,.int .u64 n,.slice Al nl cl]] w (Vy F w x (Wu F.env x.pl ⟨3,a,b,n,l⟩)):=by
 rw[show Wu F.env x.pl ⟨3,a,b,n,l⟩=openC F.env x.pl ⟨3,a,b,n,l⟩ by unfold Wu;simp];obtain⟨W,hW⟩:∃ W,W=w.alloc (.cells #[.int .i64 3,.int .i64 a,.int .i64 b,.int .u64 n,.slice Al nl cl] 25):=⟨_,rfl⟩;have k0:W.cell? ⟨w.heap.size,0,none⟩=some (.int .i64 3):=by rw[hW,wN];rfl
 have hk:∀ j:Nat,W.cell? ⟨w.heap.size,j,none⟩=(#[.int .i64 3,.int .i64 a,.int .i64 b,.int .u64 n,.slice Al nl cl]:Array Value)[j]?:=fun j=>by rw[hW,wN]
 have k1:=hk 1;have k2:=hk 2;have k3:=hk 3;have k4:=hk 4;simp only[List.getElem?_toArray,List.getElem?_cons_zero,List.getElem?_cons_succ]at k1 k2 k3 k4;have HG1:=hD (hW ▸ h.alloc (.cells #[.int .i64 3,.int .i64 a,.int .i64 b,.int .u64 n,.slice Al nl cl] 25):Wk F W x∧Wz F w x W x);have HW:=hD hW;have HT:=hD (open_plain hF HG1.out.1 h0 hl hh hfl hs 3 a b n (by decide) ht8 l Al nl cl);clear hW h hk hF h0 hl hh hfl hs ht8;generalize openC F.env x.pl ⟨3,a,b,n,l⟩=r at HT ⊢;exact Z7
theorem follow_4 {F:Wx} {w:World} {x:Ws} (hF:F.prg) (h:Wk F w x) (h0:0<x.f.length) (hl:x.s.length≤900000) (hh:x.top.h≤x.s.length) (hfl:x.f.length≤900000) (hs:Vq F.m) (a b n:Int) (ht8:((Wv F.m a).getD ([],[])).1.length≤1000∧((Wv F.m a).getD ([],[])).2.length≤1000) (l:List Int) (Al:Option Addr) (nl cl:Nat) :
 Calls Tryz.prog 84 #[.pointer (some ⟨F.G,0,none⟩),.agg #[.int .i64 4,.int .i64 a,.int .i64 b,.int .u64 n,.slice Al nl cl]] w (Vy F w x (Wu F.env x.pl ⟨4,a,b,n,l⟩)):=by
 rw[show Wu F.env x.pl ⟨4,a,b,n,l⟩=openC F.env x.pl ⟨4,a,b,n,l⟩ by unfold Wu;simp];obtain⟨W,hW⟩:∃ W,W=w.alloc (.cells #[.int .i64 4,.int .i64 a,.int .i64 b,.int .u64 n,.slice Al nl cl] 25):=⟨_,rfl⟩;have k0:W.cell? ⟨w.heap.size,0,none⟩=some (.int .i64 4):=by rw[hW,wN];rfl
 have hk:∀ j:Nat,W.cell? ⟨w.heap.size,j,none⟩=(#[.int .i64 4,.int .i64 a,.int .i64 b,.int .u64 n,.slice Al nl cl]:Array Value)[j]?:=fun j=>by rw[hW,wN]
 have k1:=hk 1;have k2:=hk 2;have k3:=hk 3;have k4:=hk 4;simp only[List.getElem?_toArray,List.getElem?_cons_zero,List.getElem?_cons_succ]at k1 k2 k3 k4;have HG1:=hD (hW ▸ h.alloc (.cells #[.int .i64 4,.int .i64 a,.int .i64 b,.int .u64 n,.slice Al nl cl] 25):Wk F W x∧Wz F w x W x);have HW:=hD hW;have HT:=hD (open_if hF HG1.out.1 h0 hl hh hfl hs a b n ht8 l Al nl cl);clear hW h hk hF h0 hl hh hfl hs ht8;generalize openC F.env x.pl ⟨4,a,b,n,l⟩=r at HT ⊢;exact Z7
end
end Go.Proofs.YtmfpnfdinoofpaaGreatDoor
