/- A part of the proof. -/
import Derived.Test.YtepgopnnaeoolaaGreatDoorJ43
namespace Go.Proofs.YtepgopnnaeoolaaGreatDoor
section
open Go.RowKit
set_option maxHeartbeats 4000000
set_option maxRecDepth 100000
theorem leave_fol {F:Wx} {w:World} {x:Ws} (hF:F.prg) (h:Wk F w x) (h0:0<x.f.length) (hs:x.s.length≤1000000) (tv:Value) (q:List Int) (hq:Wg (WB F w x) w tv q) (hql:q.length≤1000000) (hh:x.top.h≤x.s.length) :
 Calls Tryz.prog 96 #[.pointer (some ⟨F.G,0,none⟩),tv] w (Vb F w x (VL x.pl q)) :=
 (wleave_any hF h h0 hs tv q hq hql hh).mono fun e w' ⟨h1,x',h2,h3,h4⟩=>by
  cases hR:Vn x.top.h x.top.dead x.s q with
  | false =>
   rw[hR]at h1;exact⟨x',h2,h3,by rw[h1,leave_no hR];rfl,fun p hp=>by rw[leave_no hR]at hp;cases hp⟩
  | true =>
   rw[hR]at h1;obtain⟨e1,e2⟩:=h4 hR;refine⟨x',h2,h3,by rw[h1,leave_yes hR];rfl,fun p hp=>?_⟩;rw[leave_yes hR]at hp;obtain rfl:=Option.some.inj hp;unfold Ws.pl;rw[e1,e2]
theorem follow_15 {F:Wx} {w:World} {x:Ws} (hF:F.prg) (h:Wk F w x) (h0:0<x.f.length) (hs:x.s.length≤900000) (hh:x.top.h≤x.s.length) (hro:F.ro.length≤1000000) (a:Int) (b n:Int) (l:List Int) (Al:Option Addr) (nl cl:Nat) :
 Calls Tryz.prog 71 #[.pointer (some ⟨F.G,0,none⟩),.agg #[.int .i64 15,.int .i64 a,.int .i64 b,.int .u64 n,.slice Al nl cl]] w (Vb F w x (Wr F.env x.pl ⟨15,a,b,n,l⟩)):=by
 rw[show Wr F.env x.pl ⟨15,a,b,n,l⟩=VL x.pl F.ro by unfold Wr;simp[Wx.env]];obtain⟨W,hW⟩:∃ W,W=w.alloc (.cells #[.int .i64 15,.int .i64 a,.int .i64 b,.int .u64 n,.slice Al nl cl] 76):=⟨_,rfl⟩;have k0:W.cell? ⟨w.heap.size,0,none⟩=some (.int .i64 15):=by rw[hW,wN];rfl
 have k1:W.cell? ⟨w.heap.size,1,none⟩=some (.int .i64 a):=by rw[hW,wN];rfl
 have HG1:=hD (hW ▸ h.alloc (.cells #[.int .i64 15,.int .i64 a,.int .i64 b,.int .u64 n,.slice Al nl cl] 76):Wk F W x∧WE F w x W x);have HNP:=hD (h.new_free (nR _));have HW:=hD hW;have HF:=hD hF;have HH:=hD (⟨h0,hs,hh⟩:0<x.f.length∧x.s.length≤900000∧x.top.h≤x.s.length);clear hW h hF h0 hs hh;have hrv:=HG1.out.1.reads.own;obtain⟨Ar,cr,er,_⟩:=hrv.form;have HER:=hD er;have HRV:=hD hrv;have hq12:=(HG1.out.1.q HF.out).2.2.2.2.2;rw[er]at hq12;have HQ:=hD hq12;have HLV:=hD (fun w2 (g2:Wk F w2 x)=>leave_fol HF.out g2 HH.out.1 (by have:=HH.out.2.1;omega) F.rv F.ro g2.reads.own hro HH.out.2.2);rw[er]at HLV;clear hrv er hq12;generalize VL x.pl F.ro=r at HLV ⊢;go_enter Tryz.func71,Tryz.ntmps71
 go_upto_region 1 with (fail)
 rw[← HW.out]
 go_upto_region 17 with (fail)
 refine wp_region_held_drew (S:=fun wz=>wz.cell? ⟨F.G,12,none⟩=some (.slice Ar F.ro.length cr)) (by kernel_rfl) HQ.out (fun hS=>?_);show wpAnyH _ _ _ _ _ 9 #[false,false,false,false,false,false,false,false,false] _ _;refine mT 0 55 rfl hS ?_;refine mT 1 56 rfl hS ?_;refine mT 2 57 rfl hS ?_;refine mT 3 58 rfl hS ?_;refine mT 4 59 rfl hS ?_;refine mT 5 60 rfl hS ?_;refine mT 6 61 rfl hS ?_;have hg3:=HG1.out.1.below ((bR W.heap.size W).drew);have HS3:=hD (HG1.out.2.trans hg3.2);have HLW:=hD (HLV.out _ hg3.1);clear hg3;refine mR 7 62 rfl fun K hK=>?_;go_simp;go_at_call 96;refine HLW.out.mono ?_;rintro e w5 ⟨x5,g5,s5,rfl,hp5⟩;go_wp2_with fail
 have hS5:w5.cell? ⟨F.G,12,none⟩=some (.slice Ar F.ro.length cr):=by rw[(g5.q HF.out).2.2.2.2.2,HER.out]
 refine hK.out _ _ hS5 (fun _=>?_);clear hK K hS;try simp only[sA,List.set]
 refine mT 8 4 rfl hS5 ?_;refine wpAnyH_done (by kernel_rfl) ?_ _;have HG5:=hD g5;have HS5:=hD s5;have HP5:=hD hp5;clear g5 s5 hp5 hS5;go_wp2;go_ret;exact⟨x5,HG5.out,HS3.out.trans HS5.out,rfl,HP5.out⟩
theorem follow_12 {F:Wx} {w:World} {x:Ws} (hF:F.prg) (h:Wk F w x) (h0:0<x.f.length) (hs:x.s.length≤900000) (hh:x.top.h≤x.s.length) (k:Nat) (hk:k<x.f.length) (a:Int) (ha:a=(k:Int)) (hll:(WV x.pl k).length≤1000000) (b n:Int) (l:List Int) (Al:Option Addr) (nl cl:Nat) :
 Calls Tryz.prog 71 #[.pointer (some ⟨F.G,0,none⟩),.agg #[.int .i64 12,.int .i64 a,.int .i64 b,.int .u64 n,.slice Al nl cl]] w (Vb F w x (Wr F.env x.pl ⟨12,a,b,n,l⟩)):=by
 rw[show Wr F.env x.pl ⟨12,a,b,n,l⟩=VL x.pl (WV x.pl a.toNat) by unfold Wr;simp];obtain⟨W,hW⟩:∃ W,W=w.alloc (.cells #[.int .i64 12,.int .i64 a,.int .i64 b,.int .u64 n,.slice Al nl cl] 76):=⟨_,rfl⟩;have k0:W.cell? ⟨w.heap.size,0,none⟩=some (.int .i64 12):=by rw[hW,wN];rfl
 have k1:W.cell? ⟨w.heap.size,1,none⟩=some (.int .i64 a):=by rw[hW,wN];rfl
 have HG1:=hD (hW ▸ h.alloc (.cells #[.int .i64 12,.int .i64 a,.int .i64 b,.int .u64 n,.slice Al nl cl] 76):Wk F W x∧WE F w x W x);have HNP:=hD (h.new_free (nR _));have HW:=hD hW;have HF:=hD hF;have HH:=hD (⟨h0,hs,hh⟩:0<x.f.length∧x.s.length≤900000∧x.top.h≤x.s.length);clear hW h hF h0 hs hh;subst ha;rw[show((k:Int).toNat)=k from rfl];have hS0:W.drew.cell? ⟨w.heap.size,1,none⟩=some (.int .i64 (k:Int)):=k1;have HS0:=hD hS0;have hlt:w.heap.size<W.drew.heap.size:=wL _ _ hS0;have hg3:=HG1.out.1.below ((bR W.heap.size W).drew);have HG3:=hD hg3;have HLB:=hD (label_any HF.out hg3.1 k hk);have HLV:=hD (fun w2 (g2:Wk F w2 x) v hv=>leave_fol HF.out g2 HH.out.1 (by have:=HH.out.2.1;omega) v (WV x.pl k) hv hll HH.out.2.2);have HLT:=hD hlt;clear hg3 hlt hS0;generalize WV x.pl k=q at HLB HLV hll ⊢;generalize VL x.pl q=r at HLV ⊢;go_enter Tryz.func71,Tryz.ntmps71
 go_upto_region 1 with (fail)
 rw[← HW.out]
 go_upto_region 13 with (fail)
 refine wp_region_held_drew (S:=fun wz=>wz.cell? ⟨w.heap.size,1,none⟩=some (.int .i64 (k:Int))) (by kernel_rfl) HS0.out (fun hS=>?_);show wpAnyH _ _ _ _ _ 11 #[false,false,false,false,false,false,false,false,false,false,false] _ _;refine mT 0 37 rfl hS ?_;refine mT 1 38 rfl hS ?_;refine mT 2 39 rfl hS ?_;refine mT 3 40 rfl hS ?_;refine mT 4 41 rfl hS ?_;refine mT 5 42 rfl hS ?_;refine mT 6 43 rfl hS ?_;refine mT 7 44 rfl hS ?_;refine mR 8 45 rfl fun K hK=>?_;go_simp;go_at_call 97;refine HLB.out.mono ?_;rintro e w4 ⟨A4,c4,rfl,g4,s4,hv4⟩;go_wp2_with fail
 have hS4:w4.cell? ⟨w.heap.size,1,none⟩=some (.int .i64 (k:Int)):=(s4.keeps.cell (p:=⟨w.heap.size,1,none⟩) ⟨HLT.out,HNP.out⟩).trans HS0.out;have hlt4:w.heap.size<w4.heap.size:=wL _ _ hS4;refine hK.out _ _ hS4 (fun _=>?_);clear hK K hS;try simp only[sA,List.set]
 have HLW:=hD (HLV.out w4 g4 _ hv4);have HS4:=hD ((HG1.out.2.trans HG3.out.2).trans s4);clear g4 s4 hv4;refine mR 9 46 rfl fun K hK=>?_;go_simp;go_at_call 96;refine HLW.out.mono ?_;rintro e w5 ⟨x5,g5,s5,rfl,hp5⟩;go_wp2_with fail
 have hS5:w5.cell? ⟨w.heap.size,1,none⟩=some (.int .i64 (k:Int)):=(s5.keeps.cell (p:=⟨w.heap.size,1,none⟩) ⟨hlt4,HNP.out⟩).trans hS4;refine hK.out _ _ hS5 (fun _=>?_);clear hK K hS4;try simp only[sA,List.set]
 refine mT 10 4 rfl hS5 ?_;refine wpAnyH_done (by kernel_rfl) ?_ _;have HG5:=hD g5;have HS5:=hD s5;have HP5:=hD hp5;clear g5 s5 hp5 hS5;go_wp2;go_ret;exact⟨x5,HG5.out,HS4.out.trans HS5.out,rfl,HP5.out⟩
end
section
open Go.RowKit
set_option maxHeartbeats 4000000
set_option maxRecDepth 100000
theorem exists_14 {F:Wx} {w:World} {x:Ws} (hF:F.prg) (h:Wk F w x) (a b n:Int) (l:List Int) (Al:Option Addr) (nl cl:Nat) (hl:Wg (WB F w x) w (.slice Al nl cl) l) :
 Calls Tryz.prog 70 #[.pointer (some ⟨F.G,0,none⟩),.agg #[.int .i64 14,.int .i64 a,.int .i64 b,.int .u64 n,.slice Al nl cl]] w (Wo (Wn F.env x.pl ⟨14,a,b,n,l⟩) w):=by
 rw[show Wn F.env x.pl ⟨14,a,b,n,l⟩=(l.all (fun n=>Wm n x.f.length) && decide (0<l.length)) by unfold Wn Ws.pl Wx.env;simp];obtain⟨k0,k1,k2,k4,⟨A1,c1,p1⟩,⟨A5,c5,p5⟩,⟨A6,c6,p6⟩,⟨A8,c8,p8⟩,⟨A11,c11,p11⟩⟩:=h.exi hF ⟨14,a,b,n,l⟩ Al nl cl;have hb:=(bR w.heap.size w).alloc (nR _) (.cells #[.int .i64 14,.int .i64 a,.int .i64 b,.int .u64 n,.slice Al nl cl] 76);simp only at k0 k1 k2 k4 p1 p5 p6 p8 p11 hb;have HLX:=hD (fun wz (hz:Below w.heap.size w wz)=>labels_any hF (h.below hz).1 _ _ l ((h.below hz).2.ints hl));generalize x.f.length=nf at *;generalize F.m.mems.length=nm at *;generalize F.m.globs.length=ng at *;generalize F.m.datas.length=nd at *;generalize F.lo.length=no at *;generalize (l.all (fun n=>Wm n nf) && decide (0<l.length))=r at HLX ⊢;clear h hF hl;go_enter Tryz.func70,Tryz.ntmps70
 go_upto_region 1 with (fail)
 generalize w.alloc (.cells #[.int .i64 14,.int .i64 a,.int .i64 b,.int .u64 n,.slice Al nl cl] 76)=W at *;have HB:=hD hb;clear hb;go_quiet (fail)
 have HBD:=hD (Wa HB.out (Wj (bR W.heap.size W) nq));go_wp2_with (go_at_call 91;refine(HLX.out _ HBD.out).mono ?_;rintro e w2 ⟨rfl,hb2⟩;have HB2:=hD hb2;clear hb2)
 go_ret;exact⟨rfl,Wa HBD.out HB2.out⟩
end
section
open Go.RowKit
set_option maxHeartbeats 4000000
set_option maxRecDepth 100000
theorem Zbx {P:Prop}(h:P:=by
 refine wpAnyH_done (by kernel_rfl) ?_ _;have HS1:=hD hS;clear hS hS';go_wp2
 go_ret2
 have hb1:=Wa HB.out HS1.out;exact⟨_,_,rfl,.nil _ _,Vk _ hb1 _,hb1.alloc hb1.size _⟩):P:=h
theorem effect_32 {F:Wx} {w:World} {x:Ws} (hF:F.prg) (h:Wk F w x) (k:Nat) (hk:k<F.lo.length) (a b n:Int) (ha:a=(k:Int)) (Al:Option Addr) (nl cl:Nat) :
 Calls Tryz.prog 103 #[.pointer (some ⟨F.G,0,none⟩),.agg #[.int .i64 32,.int .i64 a,.int .i64 b,.int .u64 n,.slice Al nl cl]] w (V1 ([],[F.lo.getD k 0]) w):=by
 subst ha;obtain⟨W,hW⟩:∃ W,W=w.alloc (.cells #[.int .i64 32,.int .i64 (k:Int),.int .i64 b,.int .u64 n,.slice Al nl cl] 76):=⟨_,rfl⟩;have k0:W.cell? ⟨w.heap.size,0,none⟩=some (.int .i64 32):=by rw[hW,wN];rfl
 have k1:W.cell? ⟨w.heap.size,1,none⟩=some (.int .i64 (k:Int)):=by rw[hW,wN];rfl
 have hb:Below w.heap.size w W:=hW ▸ (bR _ _).alloc (nR _) _;have hg:=(h.below hb).1;obtain⟨gl,ol,cl2,hlv,hml,_⟩:=hg.reads.loc.some_ (by omega);have hlo:=hg.reads.loc;rw[hlv]at hlo;have c1:=hlo.at_ k hk;have p1:=(hg.q hF).2.2.2.2.1;rw[hlv]at p1;generalize F.lo.getD k 0=t at c1 ⊢;have HK1:=hD (fun wz (hz:Below W.heap.size W wz)=>(hz.cell (wL W _ k1)).trans k1);have HLO:=hD (fun wz (hz:Below W.heap.size W wz)=>(hz.cell (wL W _ p1)).trans p1);have HCE:=hD (fun wz (hz:Below W.heap.size W wz)=>(hz.cell (wL W _ c1)).trans c1);have HW:=hD hW;have HB:=hD hb;clear hW hb hg hlv hlo k1 p1 c1 h hF;generalize F.lo.length=m at *;go_enter Tryz.func103,Tryz.ntmps103
 go_upto_region 1 with (fail)
 rw[← HW.out]
 go_upto_region 9 with (fail)
 refine wp_region_held_drew (S:=fun wz=>Below W.heap.size W wz) (by kernel_rfl) ((bR _ _).drew) (fun hS=>?_);show wpAnyH _ _ _ _ _ 11 #[false,false,false,false,false,false,false,false,false,false,false] _ _;generalize W.drew=w1 at hS ⊢;refine mT 0 42 rfl hS ?_;refine mT 1 43 rfl hS ?_;refine mT 2 44 rfl hS ?_;refine mT 3 45 rfl hS ?_ (hy:=by intro wS hSw;have p1:=HLO.out _ hSw;go_simp;try with_reducible rfl);refine mT 4 46 rfl hS ?_;refine mT 5 47 rfl hS ?_ (hy:=by intro wS hSw;have k1:=HK1.out _ hSw;go_simp;try with_reducible rfl);refine mT 6 48 rfl hS ?_;refine mT 7 49 rfl hS ?_ (hy:=by intro wS hSw;have c1:=HCE.out _ hSw;go_simp;try with_reducible rfl);refine mT 9 4 rfl hS ?_;refine mR 8 50 rfl fun K hK=>?_;go_simp;refine hK.out _ _ (hS.alloc hS.size _) (fun hS'=>?_);clear hK K;try simp only[sA,List.set]
 refine mT 10 5 rfl hS' ?_;exact Zbx
theorem effect_33 {F:Wx} {w:World} {x:Ws} (hF:F.prg) (h:Wk F w x) (k:Nat) (hk:k<F.lo.length) (a b n:Int) (ha:a=(k:Int)) (Al:Option Addr) (nl cl:Nat) :
 Calls Tryz.prog 103 #[.pointer (some ⟨F.G,0,none⟩),.agg #[.int .i64 33,.int .i64 a,.int .i64 b,.int .u64 n,.slice Al nl cl]] w (V1 ([F.lo.getD k 0],[]) w):=by
 subst ha;obtain⟨W,hW⟩:∃ W,W=w.alloc (.cells #[.int .i64 33,.int .i64 (k:Int),.int .i64 b,.int .u64 n,.slice Al nl cl] 76):=⟨_,rfl⟩;have k0:W.cell? ⟨w.heap.size,0,none⟩=some (.int .i64 33):=by rw[hW,wN];rfl
 have k1:W.cell? ⟨w.heap.size,1,none⟩=some (.int .i64 (k:Int)):=by rw[hW,wN];rfl
 have hb:Below w.heap.size w W:=hW ▸ (bR _ _).alloc (nR _) _;have hg:=(h.below hb).1;obtain⟨gl,ol,cl2,hlv,hml,_⟩:=hg.reads.loc.some_ (by omega);have hlo:=hg.reads.loc;rw[hlv]at hlo;have c1:=hlo.at_ k hk;have p1:=(hg.q hF).2.2.2.2.1;rw[hlv]at p1;generalize F.lo.getD k 0=t at c1 ⊢;have HK1:=hD (fun wz (hz:Below W.heap.size W wz)=>(hz.cell (wL W _ k1)).trans k1);have HLO:=hD (fun wz (hz:Below W.heap.size W wz)=>(hz.cell (wL W _ p1)).trans p1);have HCE:=hD (fun wz (hz:Below W.heap.size W wz)=>(hz.cell (wL W _ c1)).trans c1);have HW:=hD hW;have HB:=hD hb;clear hW hb hg hlv hlo k1 p1 c1 h hF;generalize F.lo.length=m at *;go_enter Tryz.func103,Tryz.ntmps103
 go_upto_region 1 with (fail)
 rw[← HW.out]
 go_upto_region 11 with (fail)
 refine wp_region_held_drew (S:=fun wz=>Below W.heap.size W wz) (by kernel_rfl) ((bR _ _).drew) (fun hS=>?_);show wpAnyH _ _ _ _ _ 11 #[false,false,false,false,false,false,false,false,false,false,false] _ _;generalize W.drew=w1 at hS ⊢;refine mT 0 53 rfl hS ?_;refine mT 1 54 rfl hS ?_;refine mT 2 55 rfl hS ?_;refine mT 3 56 rfl hS ?_ (hy:=by intro wS hSw;have p1:=HLO.out _ hSw;go_simp;try with_reducible rfl);refine mT 4 57 rfl hS ?_;refine mT 5 58 rfl hS ?_ (hy:=by intro wS hSw;have k1:=HK1.out _ hSw;go_simp;try with_reducible rfl);refine mT 6 59 rfl hS ?_;refine mT 7 60 rfl hS ?_ (hy:=by intro wS hSw;have c1:=HCE.out _ hSw;go_simp;try with_reducible rfl);refine mR 8 61 rfl fun K hK=>?_;go_simp;refine hK.out _ _ (hS.alloc hS.size _) (fun hS'=>?_);clear hK K;try simp only[sA,List.set]
 refine mT 9 4 rfl hS' ?_;refine mT 10 5 rfl hS' ?_;refine wpAnyH_done (by kernel_rfl) ?_ _;have HS1:=hD hS;clear hS hS';go_wp2
 go_ret2
 have hb1:=Wa HB.out HS1.out;exact⟨_,_,rfl,Vk _ hb1 _,.nil _ _,hb1.alloc hb1.size _⟩
end
section
open Go.RowKit
set_option maxHeartbeats 8000000
set_option maxRecDepth 100000
def agreesC (p:Pl) (q:List Int) (n:Int):Bool:=(WV p n.toNat).length==q.length && Vn (topF p.f).h (topF p.f).dead p.s (WV p n.toNat)
theorem branch_is {p p3:Pl} {l:List Int} (h:VH p [127]=some p3):branchC p l=if l.all (agreesC p3 (WV p3 (l.getD (l.length - 1) 0).toNat)) then VL p3 (WV p3 (l.getD (l.length - 1) 0).toNat) else none:=by
 unfold branchC;rw[h,Option.bind_some];rfl
theorem branch_any {F:Wx} {w:World} {x:Ws} (hF:F.prg) (h:Wk F w x) (h0:0<x.f.length) (hs:x.s.length≤900000) (hh:x.top.h≤x.s.length) (lv:Value) (l:List Int) (hl:Wg (WB F w x) w lv l) (hne:0<l.length)
 (hex:∀ j,j<l.length→∃ k:Nat,l.getD j 0=(k:Int)∧k<x.f.length) (hll:∀ k,(WV x.pl k).length≤100000) :
 Calls Tryz.prog 98 #[.pointer (some ⟨F.G,0,none⟩),lv] w (Vb F w x (branchC x.pl l)):=by
 have hg1:=h.alloc (.cells #[.int .i64 127] 3);have hi:=Vk w (bR w.heap.size w) 127;have HTK:=hD (Un hF hg1.1 h0 (by omega) _ [127] (hi.keep (.refl _ _) fun k hk=>⟨hk.2,h.new_free hk.1⟩) (by simp) hh);obtain⟨gl,ol,cl,hlv,hml,_⟩:=hl.some_ hne;have HL:=hD (hg1.2.ints hl);rw[hlv]at HL ⊢;have HG1:=hD hg1;have HF:=hD hF;have HH:=hD (⟨h0,hs,hh⟩:0<x.f.length∧x.s.length≤900000∧x.top.h≤x.s.length);have HEX:=hD hex;have HLL:=hD hll;have hxpf:x.pl.f.length=x.f.length:=by unfold Ws.pl;simp
 obtain⟨r,hr⟩:∃ r,branchC x.pl l=r:=⟨_,rfl⟩;rw[hr];have HRR:=hD hr;unfold maxLen at hml;obtain⟨n,hn⟩:∃ n,l.length=n:=⟨_,rfl⟩;have HN:=hD hn;rw[hn]at HL hml hne HEX ⊢;clear hg1 hi hF h h0 hs hh hl hlv hex hll hr hn hxpf;cases hR:Vn x.top.h x.top.dead x.s [127] with
 | false =>
  have hr:r=none:=by rw[← HRR.out];unfold branchC;rw[take_no hR];rfl
  subst hr;rw[hR]at HTK;clear hR HRR;go_enter Tryz.func98,Tryz.ntmps98;exact ZbI
 | true =>
  have HTY:=hD (UF hR);rw[hR]at HTK;clear hR;have e1:IntKind.i64.wrap ((n:Int) - 1)=((n - 1:Nat):Int):=by rw[show((n:Int) - 1)=((n - 1:Nat):Int) by omega];exact IntWalk.i64_in _ (by omega)
  have hn1:n - 1<n:=by omega
  go_enter Tryz.func98,Tryz.ntmps98
  go_upto_region 3 with (go_at_call 102;refine HTK.out.mono ?_;rintro e w3 ⟨rfl,x3,g3,s3,hf3,hs3⟩;have HG3:=hD g3;have HS3:=hD s3;have HF3:=hD hf3;have HX3:=hD (hs3 rfl);clear g3 s3 hf3 hs3)
  have HL3:=hD (HS3.out.ints HL.out);have hx3:(⟨x.s.take (max (x.s.length - [(127:Int)].length) x.top.h),x.pl.f⟩:Pl)=x3.pl:=by
   unfold Ws.pl;rw[HF3.out,HX3.out]
  have HBR:=hD (HRR.out.symm.trans (branch_is (l:=l) (HTY.out.trans (by rw[hx3]))));have HLQ:Hid (∀ k,WV x3.pl k=WV x.pl k):=hD fun k=>by rw[label_is,label_is,HF3.out]
  obtain⟨kl,hkl,hkf⟩:=HEX.out (n - 1) hn1;have k2:=HL3.out.at_ (n - 1) hn1;rw[hkl]at k2;have hk2:w3.drew.cell? ⟨gl,ol+(n - 1),none⟩=some (.int .i64 (kl:Int)):=k2;have HK2:=hD hk2;have HKL:=hD hkl;rw[HN.out,hkl]at HBR;have hg4:=HG3.out.below ((bR w3.heap.size w3).drew);have HLA:=hD (label_any HF.out hg4.1 kl (by rw[HF3.out];exact hkf));have HG4:=hD hg4;have HL4:=hD (hg4.2.ints HL3.out);obtain⟨q,hq⟩:∃ q,WV x3.pl kl=q:=⟨_,rfl⟩;have HQL:Hid (q.length≤100000):=hD (by rw[← hq,HLQ.out];exact HLL.out kl);rw[show((kl:Int).toNat)=kl from rfl,hq]at HBR;rw[hq]at HLA;clear hx3 k2 hk2 hkl hg4 hq hkf;refine wp_region_held_drew (S:=fun wz=>wz.cell? ⟨gl,ol+(n - 1),none⟩=some (.int .i64 (kl:Int))) (by kernel_rfl) HK2.out (fun hS=>?_);show wpAnyH _ _ _ _ _ 11 #[false,false,false,false,false,false,false,false,false,false,false] _ _;refine mT 0 15 rfl hS ?_;refine mT 1 16 rfl hS ?_;refine mT 2 17 rfl hS ?_;refine mT 3 18 rfl hS ?_;refine mT 4 19 rfl hS ?_;refine mT 5 20 rfl hS ?_;refine mT 6 21 rfl hS ?_;refine mT 7 22 rfl hS ?_;refine mT 8 23 rfl hS ?_;refine mR 9 24 rfl fun K hK=>?_;go_simp;go_at_call 97;refine HLA.out.mono ?_;rintro e w5 ⟨A5,c5,rfl,g5,s5,hv5⟩;go_wp2_with fail
  have hl5:=s5.ints HL4.out;have hS5:=hl5.at_ (n - 1) hn1;rw[HKL.out]at hS5;refine hK.out _ _ hS5 (fun _=>?_);clear hK K hS;try simp only[sA,List.set]
  refine mT 10 5 rfl hS5 ?_;refine wpAnyH_done (by kernel_rfl) ?_ _;have HG5:=hD g5;have HS5:=hD (((HG1.out.2.trans HS3.out).trans HG4.out.2).trans s5);have HV5:=hD hv5;have HL5:=hD hl5;have HHT:Hid (x3.top=x.top):=hD (by unfold Ws.top;rw[HF3.out]);have HSL:Hid (x3.s.length≤900000∧x3.top.h≤x3.s.length):=hD (by rw[HHT.out,HX3.out,List.length_take];have:=HH.out.2.1;have:=HH.out.2.2;omega);clear g5 s5 hv5 hS5 hl5 HL3 HL4 HK2;go_wp2_with fail
  go_loopw [27] (fun i wr=>∃ k:Nat,k≤n∧i=.int .i64 (k:Int)∧Hid (Wk F wr x3)∧Hid (WE F w5 x3 wr x3)∧Hid (∀ j,j<k→agreesC x3.pl q (l.getD j 0)=true)) (fun i _=>n - (intOf i).toNat)
  case atStart=>exact⟨0,nZ _,rfl,HG5,hD (WE.refl _ _ _),hD (fun j hj=>absurd hj (Nat.not_lt_zero j))⟩
  case round =>
   obtain⟨k,hk,rfl,HGR,HSR,HJ⟩:=hrel;by_cases hkn:k<n
   ·have hkk0:(0:Int)≤k:=Int.natCast_nonneg _;have hd:decide ((k:Int)<(n:Int))=true:=by simp;omega
    have hd':decide (k<n)=true:=decide_eq_true hkn;obtain⟨kk,hkk,hkf⟩:=HEX.out k hkn;have k2:=(HSR.out.ints HL5.out).at_ k hkn;rw[hkk]at k2;have HKK:=hD hkk;have HLA2:=hD (label_any HF.out HGR.out kk (by rw[HF3.out];exact hkf));obtain⟨q2,hq2⟩:∃ q2,WV x3.pl kk=q2:=⟨_,rfl⟩;have HQ2L:Hid (q2.length≤100000):=hD (by rw[← hq2,HLQ.out];exact HLL.out kk);rw[hq2]at HLA2;have HHO:=hD (fun w6 (g6:Wk F w6 x3) v hv=>holds_any HF.out g6 (by rw[HF3.out];exact HH.out.1) (by have:=HSL.out.1;omega) v q2 hv (by have:=HQ2L.out;omega) HSL.out.2);have HAC:Hid (agreesC x3.pl q (l.getD k 0)=(q2.length==q.length && Vn x3.top.h x3.top.dead x3.s q2)):=hD (by
     unfold agreesC;rw[HKK.out,show((kk:Int).toNat)=kk from rfl,hq2,Ws.pl_top];rfl)
    have HNO:Hid (agreesC x3.pl q (l.getD k 0)=false→r=none):=hD fun hf=>by rw[HBR.out,allI_no (p:=agreesC x3.pl q) (j:=k) (by rw[HN.out];exact hkn) hf];rfl
    clear hkk hkf hq2;by_cases hle:q2.length=q.length
    ·have d1:((q2.length:Int) != (q.length:Int))=false:=by simp;omega
     have d2:(q2.length != q.length)=false:=by simpa using hle
     rw[beq_iff_eq.2 hle,Bool.true_and]at HAC;clear hle;cases hb:Vn x3.top.h x3.top.dead x3.s q2 with
     | false =>
      rw[hb]at HHO HAC;have hr:=HNO.out HAC.out;subst hr;clear hb;go_wp2_with (first|(go_at_call 97;refine HLA2.out.mono ?_;rintro e w6 ⟨A6,c6,rfl,g6,s6,hv6⟩;have HG6:=hD g6;have HS6:=hD s6;have HV6:=hD hv6;clear g6 s6 hv6)|(go_at_call 113;refine(HHO.out _ HG6.out _ HV6.out).mono ?_;rintro e w7 ⟨rfl,mm,rfl⟩))
      go_ret;have h7:=HG6.out.below (Wj (bR _ _) mm);exact⟨x3,h7.1,((HS5.out.trans HSR.out).trans HS6.out).trans h7.2,rfl,fun p hp=>(by cases hp)⟩
     | true =>
      rw[hb]at HHO HAC;clear hb;go_wp2_with (first|(go_at_call 97;refine HLA2.out.mono ?_;rintro e w6 ⟨A6,c6,rfl,g6,s6,hv6⟩;have HG6:=hD g6;have HS6:=hD s6;have HV6:=hD hv6;clear g6 s6 hv6)|(go_at_call 113;refine(HHO.out _ HG6.out _ HV6.out).mono ?_;rintro e w7 ⟨rfl,mm,rfl⟩))
      have h7:=HG6.out.below (Wj (bR _ _) mm);have HG7:=hD h7.1;have HS7:=hD ((HSR.out.trans HS6.out).trans h7.2);clear h7;go_roundw
      case rel=>exact⟨k+1,by omega,by go_num,HG7,HS7,hD (fun j hj=>by
       rcases Nat.lt_or_ge j k with h1|h1
       ·exact HJ.out j h1
       ·obtain rfl:j=k:=by omega
        exact HAC.out)⟩
      case measure=>simp[intOf];omega
    ·have d1:((q2.length:Int) != (q.length:Int))=true:=by simp;omega
     have d2:(q2.length != q.length)=true:=by simpa using hle
     rw[beq_eq_false_iff_ne.2 hle,Bool.false_and]at HAC;have hr:=HNO.out HAC.out;subst hr;clear hle;go_wp2_with (first|(go_at_call 97;refine HLA2.out.mono ?_;rintro e w6 ⟨A6,c6,rfl,g6,s6,hv6⟩;have HG6:=hD g6;have HS6:=hD s6;have HV6:=hD hv6;clear g6 s6 hv6))
     go_ret;exact⟨x3,HG6.out,(HS5.out.trans HSR.out).trans HS6.out,rfl,fun p hp=>(by cases hp)⟩
   ·have hd:decide ((k:Int)<(n:Int))=false:=by simp;omega
    have hd':decide (k<n)=false:=decide_eq_false hkn;have hr:r=VL x3.pl q:=by rw[HBR.out,allI_yes (p:=agreesC x3.pl q) (fun j hj=>HJ.out j (by rw[HN.out]at hj;omega))];rfl
    subst hr;have HLV:=hD (leave_fol HF.out HGR.out (by rw[HF3.out];exact HH.out.1) (by have:=HSL.out.1;omega) _ q (HSR.out.ints HV5.out) (by have:=HQL.out;omega) HSL.out.2);go_wp2_with (go_at_call 96;refine HLV.out.mono ?_;rintro e w8 ⟨x8,g8,s8,rfl,hp8⟩;have HG8:=hD g8;have HS8:=hD s8;have HP8:=hD hp8;clear g8 s8 hp8)
    go_ret;exact⟨x8,HG8.out,(HS5.out.trans HSR.out).trans HS8.out,rfl,HP8.out⟩
end
section
open Go.RowKit
set_option maxHeartbeats 4000000
set_option maxRecDepth 100000
theorem follow_14 {F:Wx} {w:World} {x:Ws} (hF:F.prg) (h:Wk F w x) (h0:0<x.f.length) (hs:x.s.length≤900000) (hh:x.top.h≤x.s.length) (a b n:Int) (l:List Int) (Al:Option Addr) (nl cl:Nat) (hl:Wg (WB F w x) w (.slice Al nl cl) l) (hne:0<l.length)
 (hex:∀ j,j<l.length→∃ k:Nat,l.getD j 0=(k:Int)∧k<x.f.length) (hll:∀ k,(WV x.pl k).length≤100000) :
 Calls Tryz.prog 71 #[.pointer (some ⟨F.G,0,none⟩),.agg #[.int .i64 14,.int .i64 a,.int .i64 b,.int .u64 n,.slice Al nl cl]] w (Vb F w x (Wr F.env x.pl ⟨14,a,b,n,l⟩)):=by
 rw[show Wr F.env x.pl ⟨14,a,b,n,l⟩=branchC x.pl l by unfold Wr;simp];obtain⟨W,hW⟩:∃ W,W=w.alloc (.cells #[.int .i64 14,.int .i64 a,.int .i64 b,.int .u64 n,.slice Al nl cl] 76):=⟨_,rfl⟩;have k0:W.cell? ⟨w.heap.size,0,none⟩=some (.int .i64 14):=by rw[hW,wN];rfl
 have k4:W.cell? ⟨w.heap.size,4,none⟩=some (.slice Al nl cl):=by rw[hW,wN];rfl
 have HG1:=hD (hW ▸ h.alloc (.cells #[.int .i64 14,.int .i64 a,.int .i64 b,.int .u64 n,.slice Al nl cl] 76):Wk F W x∧WE F w x W x);have HW:=hD hW;have HT:=hD (branch_any hF HG1.out.1 h0 hs hh _ l (HG1.out.2.ints hl) hne hex hll);clear hW h hl hex hll;generalize branchC x.pl l=r at HT ⊢;go_enter Tryz.func71,Tryz.ntmps71
 go_upto_region 1 with (fail)
 rw[← HW.out];go_wp2_with (go_at_call 98;refine HT.out.mono ?_;rintro e w3 ⟨x3,g3,s3,rfl,hp3⟩;have HG3:=hD g3;have HS3:=hD s3;have HP3:=hD hp3;clear g3 s3 hp3)
 exact ZbO
end
section
open Go.RowKit
set_option maxHeartbeats 4000000
set_option maxRecDepth 100000
theorem effect_35 {F:Wx} {w:World} {x:Ws} (hF:F.prg) (h:Wk F w x) (k:Nat) (hk:k<F.m.globs.length) (b n:Int) (Al:Option Addr) (nl cl:Nat) :
 Calls Tryz.prog 103 #[.pointer (some ⟨F.G,0,none⟩),.agg #[.int .i64 35,.int .i64 (k:Int),.int .i64 b,.int .u64 n,.slice Al nl cl]] w (V1 ([],[(F.m.globs.getD k UK).1]) w):=by
 obtain⟨W,hW⟩:∃ W,W=w.alloc (.cells #[.int .i64 35,.int .i64 (k:Int),.int .i64 b,.int .u64 n,.slice Al nl cl] 76):=⟨_,rfl⟩;have k0:W.cell? ⟨w.heap.size,0,none⟩=some (.int .i64 35):=by rw[hW,wN];rfl
 have k1:W.cell? ⟨w.heap.size,1,none⟩=some (.int .i64 (k:Int)):=by rw[hW,wN];rfl
 have hb:Below w.heap.size w W:=hW ▸ (bR _ _).alloc (nR _) _;have hg:=(h.below hb).1;have hm:=hg.reads.mod.globs;obtain⟨gl,ol,cl2,hgv,hn1,hml⟩:=Wd.some_ hm (by omega);rw[hgv]at hm;obtain⟨u,hu,hu2⟩:=Wd.at_ hm k 0 hk (by decide);have c1:W.cell? ⟨gl,ol+k * 3,none⟩=some (.int .i64 (F.m.globs.getD k UK).1):=hu.trans (congrArg some (show u=Value.int .i64 (F.m.globs.getD k UK).1 from hu2));have p1:=(hg.q hF).2.1;rw[hgv]at p1;generalize (F.m.globs.getD k UK).1=t at c1 ⊢;have HK1:=hD (fun wz (hz:Below W.heap.size W wz)=>(hz.cell (wL W _ k1)).trans k1);have HLO:=hD (fun wz (hz:Below W.heap.size W wz)=>(hz.cell (wL W _ p1)).trans p1);have HCE:=hD (fun wz (hz:Below W.heap.size W wz)=>(hz.cell (wL W _ c1)).trans c1);have HW:=hD hW;have HB:=hD hb;clear hW hb hg hm hgv hu hu2 k1 p1 c1 h hF;generalize F.m.globs.length=m at *;go_enter Tryz.func103,Tryz.ntmps103
 go_upto_region 1 with (fail)
 rw[← HW.out]
 go_upto_region 15 with (fail)
 refine wp_region_held_drew (S:=fun wz=>Below W.heap.size W wz) (by kernel_rfl) ((bR _ _).drew) (fun hS=>?_);show wpAnyH _ _ _ _ _ 13 #[false,false,false,false,false,false,false,false,false,false,false,false,false] _ _;generalize W.drew=w1 at hS ⊢;refine mT 0 84 rfl hS ?_;refine mT 1 85 rfl hS ?_;refine mT 2 86 rfl hS ?_;refine mT 3 87 rfl hS ?_;refine mT 4 88 rfl hS ?_ (hy:=by intro w' hSw;have p1:=HLO.out _ hSw;go_simp;try with_reducible rfl);refine mT 5 89 rfl hS ?_;refine mT 6 90 rfl hS ?_ (hy:=by intro w' hSw;have k1:=HK1.out _ hSw;go_simp;try with_reducible rfl);refine mT 7 91 rfl hS ?_;refine mT 8 92 rfl hS ?_;refine mT 9 93 rfl hS ?_ (hy:=by intro w' hSw;have c1:=HCE.out _ hSw;go_simp;try with_reducible rfl);refine mT 11 4 rfl hS ?_;refine mR 10 94 rfl fun K hK=>?_;go_simp;refine hK.out _ _ (hS.alloc hS.size _) (fun hS'=>?_);clear hK K;try simp only[sA,List.set]
 refine mT 12 5 rfl hS' ?_;exact Zbx
end
section
open Go.RowKit
set_option maxHeartbeats 4000000
set_option maxRecDepth 100000
theorem effect_13 {F:Wx} {w:World} {x:Ws} (hF:F.prg) (h:Wk F w x) (k:Nat) (hk:k<x.f.length) (hl:(WV x.pl k).length≤100000) (a b n:Int) (ha:a=(k:Int)) (Al:Option Addr) (nl cl:Nat) :
 Calls Tryz.prog 103 #[.pointer (some ⟨F.G,0,none⟩),.agg #[.int .i64 13,.int .i64 a,.int .i64 b,.int .u64 n,.slice Al nl cl]] w (EffPost F w x (WV x.pl k++[127],WV x.pl k)):=by
 subst ha;obtain⟨W,hW⟩:∃ W,W=w.alloc (.cells #[.int .i64 13,.int .i64 (k:Int),.int .i64 b,.int .u64 n,.slice Al nl cl] 76):=⟨_,rfl⟩;have k0:W.cell? ⟨w.heap.size,0,none⟩=some (.int .i64 13):=by rw[hW,wN];rfl
 have k1:W.cell? ⟨w.heap.size,1,none⟩=some (.int .i64 (k:Int)):=by rw[hW,wN];rfl
 have HG1:=hD (hW ▸ h.alloc (.cells #[.int .i64 13,.int .i64 (k:Int),.int .i64 b,.int .u64 n,.slice Al nl cl] 76):Wk F W x∧WE F w x W x);have HNP:Hid (WB F W x w.heap.size):=hD ⟨wL W _ k1,h.new_free (nR _)⟩;have hd:=HG1.out.1.below ((bR W.heap.size W).drew);have HGD:=hD hd;have HLB:=hD (label_any hF hd.1 k hk);generalize WV x.pl k=q at HLB hl ⊢;have HK1:=hD k1;have HW:=hD hW;clear hW h hF hd hk;go_enter Tryz.func103,Tryz.ntmps103
 go_upto_region 1 with (fail)
 rw[← HW.out]
 go_upto_region 3 with (fail)
 go_region_held3 (fun wz=>wz.cell? ⟨w.heap.size,1,none⟩=some (.int .i64 (k:Int)))
  (first|go_keep|exact k1|exact HX1.out)
  ((go_at_call 97;refine(HLB.out).mono ?_;rintro e w1 ⟨A1,c1,rfl,g1,s1,i1⟩;have HX1:=hD (((HGD.out.2.trans s1).keeps.cell (p:=⟨w.heap.size,1,none⟩) HNP.out).trans HK1.out);have HG2:=hD g1;have HS2:=hD (HG1.out.2.trans (HGD.out.2.trans s1));have HI2:=hD i1;clear g1 s1 i1))
 clear k0 k1
 go_upto_region 4 with (fail)
 obtain⟨q1,hq1⟩:∃ q1,q.length=q1:=⟨_,rfl⟩;have hb1:=Wi (bR w1.heap.size w1) (.cells #[.int .i64 127] 3);have hb2:=Wi hb1 (.cells #[.slice A1 q.length c1,.slice (some ⟨w1.heap.size,0,none⟩) 1 1] 22);have hb3:=Wi (bR (w1.alloc (.cells #[.int .i64 127] 3)).heap.size (w1.alloc (.cells #[.int .i64 127] 3))) (.cells #[.slice A1 q.length c1,.slice (some ⟨w1.heap.size,0,none⟩) 1 1] 22);have hc:=fun j=>wN (w1.alloc (.cells #[.int .i64 127] 3)) #[.slice A1 q.length c1,.slice (some ⟨w1.heap.size,0,none⟩) 1 1] 22 j;have hlab:=(HG2.out.below hb2).2.ints HI2.out;have hone:=(Vk w1 (bR _ _) 127).keep (K':=fun k=>k<((w1.alloc (.cells #[.int .i64 127] 3)).alloc (.cells #[.slice A1 q.length c1,.slice (some ⟨w1.heap.size,0,none⟩) 1 1] 22)).heap.size) (Wf.below hb3 fun _ hk=>hk.2) fun _ hk=>WW hk.2 hb3.size;have hcc:=concat_any _ _ _ _ q [127] (hc 0) (hc 1) (hlab.keep (.refl _ _) fun _ hk=>hk.1) hone hl (by simp);rw[Wq]at hcc;have HCC:=hD hcc;have HGX:=hD (HG2.out.below hb2);have HLX:=hD hlab;clear hb1 hb2 hb3 hc hlab hone hcc hq1;go_wp2_with (go_at_call 85;refine(HCC.out).mono ?_;rintro e w5 ⟨A5,c5,rfl,_,hi5,hb5⟩;have HI5:=hD hi5;have HB5:=hD hb5;clear hi5 hb5)
 go_ret2
 have hg5:=HGX.out.1.below HB5.out;have hi5:=HI5.out;rw[List.length_append]at hi5;exact⟨_,_,rfl,hg5.1,HS2.out.trans (HGX.out.2.trans hg5.2),HGX.out.1.new_ints hi5,hg5.2.ints HLX.out⟩
end
section
open Go.RowKit
set_option maxHeartbeats 4000000
set_option maxRecDepth 100000
theorem effect_34 {F:Wx} {w:World} {x:Ws} (hF:F.prg) (h:Wk F w x) (k:Nat) (hk:k<F.lo.length) (a b n:Int) (ha:a=(k:Int)) (Al:Option Addr) (nl cl:Nat) :
 Calls Tryz.prog 103 #[.pointer (some ⟨F.G,0,none⟩),.agg #[.int .i64 34,.int .i64 a,.int .i64 b,.int .u64 n,.slice Al nl cl]] w (V1 ([F.lo.getD k 0],[F.lo.getD k 0]) w):=by
 subst ha;obtain⟨W,hW⟩:∃ W,W=w.alloc (.cells #[.int .i64 34,.int .i64 (k:Int),.int .i64 b,.int .u64 n,.slice Al nl cl] 76):=⟨_,rfl⟩;have k0:W.cell? ⟨w.heap.size,0,none⟩=some (.int .i64 34):=by rw[hW,wN];rfl
 have k1:W.cell? ⟨w.heap.size,1,none⟩=some (.int .i64 (k:Int)):=by rw[hW,wN];rfl
 have hb:Below w.heap.size w W:=hW ▸ (bR _ _).alloc (nR _) _;have hg:=(h.below hb).1;obtain⟨gl,ol,cl2,hlv,hml,_⟩:=hg.reads.loc.some_ (by omega);have hlo:=hg.reads.loc;rw[hlv]at hlo;have c1:=hlo.at_ k hk;have p1:=(hg.q hF).2.2.2.2.1;rw[hlv]at p1;generalize F.lo.getD k 0=t at c1 ⊢;have HW:=hD hW;have HB:=hD hb;clear hW hb hg hlv hlo h hF;generalize F.lo.length=m at *;have hk0:decide ((0:Int)≤(k:Int))=true:=by simp
 have hk1:decide ((k:Int)<(m:Int))=true:=by simp;omega
 go_enter Tryz.func103,Tryz.ntmps103
 go_upto_region 1 with (fail)
 rw[← HW.out]
 go_upto_region 13 with (fail)
 clear k0
 go_region_held3 (fun wz=>wz.cell? ⟨F.G,11,none⟩=some (.slice (some ⟨gl,ol,none⟩) m cl2)∧wz.cell? ⟨w.heap.size,1,none⟩=some (.int .i64 (k:Int))∧wz.cell? ⟨gl,ol+k,none⟩=some (.int .i64 t))
  (first|go_keep|exact⟨p1,k1,c1⟩)
  (fail)
 all_goals
  have hb2:=Wi HB.out (.cells #[.int .i64 t] 3);have i1:=Vk w HB.out t;have i2:=Vk w hb2 t;have hbx:=Wi (bR (W.alloc (.cells #[.int .i64 t] 3)).heap.size (W.alloc (.cells #[.int .i64 t] 3))) (.cells #[.int .i64 t] 3);have hbd:=(bR ((W.alloc (.cells #[.int .i64 t] 3)).alloc (.cells #[.int .i64 t] 3)).heap.size ((W.alloc (.cells #[.int .i64 t] 3)).alloc (.cells #[.int .i64 t] 3))).drew;have i1':=i1.keep (K':=fun k=>w.heap.size≤k∧k<((W.alloc (.cells #[.int .i64 t] 3)).alloc (.cells #[.int .i64 t] 3)).drew.heap.size) (Wf.below (Wa hbx hbd) fun _ hk=>hk.2) fun _ hk=>⟨hk.1,WW hk.2 (Wa hbx hbd).size⟩;have i2':=i2.keep (K':=fun k=>w.heap.size≤k∧k<((W.alloc (.cells #[.int .i64 t] 3)).alloc (.cells #[.int .i64 t] 3)).drew.heap.size) (Wf.below hbd fun _ hk=>hk.2) fun _ hk=>⟨hk.1,WW hk.2 hbd.size⟩;rw[Wq]at i2';have HFIN:=hD (⟨i1',i2',Wa (Wi hb2 (.cells #[.int .i64 t] 3)) hbd⟩:_∧_∧_);clear hb2 i1 i2 i1' i2' hbx hbd p1 k1 c1;go_wp2
  go_ret2
  first|exact⟨_,_,rfl,HFIN.out.1,HFIN.out.2.1,HFIN.out.2.2⟩|exact⟨_,_,rfl,HFIN.out.2.1,HFIN.out.1,HFIN.out.2.2⟩
end
end Go.Proofs.YtepgopnnaeoolaaGreatDoor
