/- A part of the proof. -/
import Derived.Test.YtmfpnfdinoofpaaGreatDoorJ27
import Derived.Test.YtmfpnfdinoofpaaGreatDoorJ26
namespace Go.Proofs.YtmfpnfdinoofpaaGreatDoor
section
open Go.RowKit
set_option maxHeartbeats 4000000
set_option maxRecDepth 100000
theorem Zd {P:Prop}(h:P:=by
 rw[← hW]at k0 k1 k2 k4 hg hb hm8;have HCA:=hD (fun wz (hz:Below W.heap.size W wz)=>block_any6 wz F.v F.m ((hg.below hz).1.reads.mod.keep (.refl _ _) fun _ hk=>hk.1) hs a);have hmod:=hg.reads.mod;obtain⟨A0,c0,A1,c1,A2,c2,A3,c3,A4,c4,A5,c5,A6,c6,A7,c7,hv⟩:=Wr hmod;have HX:Hid (∀ wz,Below W.heap.size W wz→wz.cell? ⟨w.heap.size,1,none⟩=some (.int .i64 a)):=hD fun wz hz=>(hz.cell (p:=⟨w.heap.size,1,none⟩) (wL W _ k1)).trans k1;have HY:Hid (∀ wz,Below W.heap.size W wz→∀ j,wz.cell? ⟨F.G,j,none⟩=(WN F x)[j]?):=hD fun wz hz j=>(hg.below hz).1.cell j;unfold WN at HY;rw[hF.1,hv]at HY;rw[hv]at HCA;simp only[Mv.cells,Bool.false_eq_true,if_false]at HCA HY;generalize F.m.types.length=n0 at *;generalize F.m.imps.length=n1 at *;generalize F.m.funs.length=n2 at *;generalize F.m.mems.length=n3 at *;generalize F.m.globs.length=n4 at *;generalize F.m.exps.length=n5 at *;generalize F.m.datas.length=n6 at *;generalize F.m.cus.length=n7 at *;generalize Wv F.m a=t at HCA ⊢;have HW:=hD hW;have HB:=hD hb;have HS:Hid (∀ wz,Below W.heap.size W wz→wz.cell? ⟨F.G,2,none⟩=some (.slice A0 n0 c0)∧wz.cell? ⟨F.G,3,none⟩=some (.slice A1 n1 c1)∧wz.cell? ⟨F.G,4,none⟩=some (.slice A2 n2 c2)∧wz.cell? ⟨F.G,5,none⟩=some (.slice A3 n3 c3)∧wz.cell? ⟨F.G,6,none⟩=some (.slice A4 n4 c4)∧wz.cell? ⟨F.G,7,none⟩=some (.slice A5 n5 c5)∧wz.cell? ⟨F.G,8,none⟩=some (.slice A6 n6 c6)∧wz.cell? ⟨F.G,9,none⟩=some (.slice A7 n7 c7)∧wz.cell? ⟨w.heap.size,1,none⟩=some (.int .i64 a)):=hD fun wz hz=>⟨HY.out wz hz 2,HY.out wz hz 3,HY.out wz hz 4,HY.out wz hz 5,HY.out wz hz 6,HY.out wz hz 7,HY.out wz hz 8,HY.out wz hz 9,HX.out wz hz⟩;clear h hg hm8 hmod hv hb hW hF hs HX HY k2 k4;obtain⟨b0,b1,b2,b3,b4,b5,b6,b7,-⟩:=HS.out W (bR _ _);go_enter Tryz.func83,Tryz.ntmps83
 go_upto_region 1 with (fail)
 rw[← HW.out];go_quiet (fail)
 go_upto_region 6 with (fail)
 have hq:Below W.heap.size W (W.drewN nq):=Wt (bR _ _) _;obtain⟨W2,hW2⟩:∃ W2,W2=W.drewN nq:=⟨_,rfl⟩;rw[← hW2]at hq ⊢;have HQ:=hD hq;clear k0 k1 b0 b1 b2 b3 b4 b5 b6 b7 hq hW2;obtain⟨b0,b1,b2,b3,b4,b5,b6,b7,k1⟩:=HS.out W2 HQ.out
 go_region_held3 (fun wz=>wz.cell? ⟨F.G,2,none⟩=some (.slice A0 n0 c0)∧wz.cell? ⟨F.G,3,none⟩=some (.slice A1 n1 c1)∧wz.cell? ⟨F.G,4,none⟩=some (.slice A2 n2 c2)∧wz.cell? ⟨F.G,5,none⟩=some (.slice A3 n3 c3)∧wz.cell? ⟨F.G,6,none⟩=some (.slice A4 n4 c4)∧wz.cell? ⟨F.G,7,none⟩=some (.slice A5 n5 c5)∧wz.cell? ⟨F.G,8,none⟩=some (.slice A6 n6 c6)∧wz.cell? ⟨F.G,9,none⟩=some (.slice A7 n7 c7)∧wz.cell? ⟨w.heap.size,1,none⟩=some (.int .i64 a))
  (first|go_keep|exact⟨b0,b1,b2,b3,b4,b5,b6,b7,k1⟩|exact HS.out _ HB1.out|exact HS.out _ (Wb HB1.out _)|exact HS.out _ (WL HB1.out HQ.out.size))
  ((go_at_call 117;refine(HCA.out _ (by first|exact Wa HQ.out ((bR _ _).drew)|exact Wa HQ.out (Wb ((bR _ _).drew) _))).mono ?_;rintro e w1 ⟨p,r,rfl,hp,hr,hb1⟩;obtain⟨A8,e8,rfl,_,_⟩:=hp.form;obtain⟨A9,e9,rfl,_,_⟩:=hr.form;have HB1:Hid (Below W.heap.size W w1):=hD (by first|exact Wa (Wa HQ.out ((bR _ _).drew)) hb1|exact Wa (Wa HQ.out (Wb ((bR _ _).drew) _)) hb1);(first|(have hN:=Vj W2.drew (.cells #[.slice none 0 0,.slice none 0 0] 40);have hZ:w1.heap[W2.heap.size]?=some (.cells #[.slice none 0 0,.slice none 0 0] 40 (0,0)):=(hb1.block W2.heap.size (Array.getElem?_eq_some_iff.1 hN).1).trans hN;clear hN;have z0:=WG hZ 0;have z1:=WG hZ 1;have f0:=Va hZ 0;have f1:=Va hZ 1;simp only[List.getElem?_toArray,List.getElem?_cons_zero,List.getElem?_cons_succ]at z0 z1;clear hZ)|skip);clear hp hr hb1))
 all_goals
  clear b0 b1 b2 b3 b4 b5 b6 b7 k1;go_wp2;go_ret;first|exact⟨rfl,Wa HB.out (Wb HB1.out _)⟩|exact⟨rfl,Wa HB.out (WL HB1.out HQ.out.size)⟩):P:=h
theorem Zm {P:Prop}(h:P:=by
 rw[← hW]at k0 k1 k2 k4 hg hb hm8;have HCA:=hD (fun wz (hz:Below W.heap.size W wz)=>sig_any wz F.v F.m ((hg.below hz).1.reads.mod.keep (.refl _ _) fun _ hk=>hk.1) hs a ha);have hmod:=hg.reads.mod;obtain⟨A0,c0,A1,c1,A2,c2,A3,c3,A4,c4,A5,c5,A6,c6,A7,c7,hv⟩:=Wr hmod;have HX:Hid (∀ wz,Below W.heap.size W wz→wz.cell? ⟨w.heap.size,1,none⟩=some (.int .i64 a)):=hD fun wz hz=>(hz.cell (p:=⟨w.heap.size,1,none⟩) (wL W _ k1)).trans k1;have HY:Hid (∀ wz,Below W.heap.size W wz→∀ j,wz.cell? ⟨F.G,j,none⟩=(WN F x)[j]?):=hD fun wz hz j=>(hg.below hz).1.cell j;unfold WN at HY;rw[hF.1,hv]at HY;rw[hv]at HCA;simp only[Mv.cells,Bool.false_eq_true,if_false]at HCA HY;generalize F.m.types.length=n0 at *;generalize F.m.imps.length=n1 at *;generalize F.m.funs.length=n2 at *;generalize F.m.mems.length=n3 at *;generalize F.m.globs.length=n4 at *;generalize F.m.exps.length=n5 at *;generalize F.m.datas.length=n6 at *;generalize F.m.cus.length=n7 at *;generalize WB F.m a=t at HCA ⊢;have HW:=hD hW;have HB:=hD hb;have HS:Hid (∀ wz,Below W.heap.size W wz→wz.cell? ⟨F.G,2,none⟩=some (.slice A0 n0 c0)∧wz.cell? ⟨F.G,3,none⟩=some (.slice A1 n1 c1)∧wz.cell? ⟨F.G,4,none⟩=some (.slice A2 n2 c2)∧wz.cell? ⟨F.G,5,none⟩=some (.slice A3 n3 c3)∧wz.cell? ⟨F.G,6,none⟩=some (.slice A4 n4 c4)∧wz.cell? ⟨F.G,7,none⟩=some (.slice A5 n5 c5)∧wz.cell? ⟨F.G,8,none⟩=some (.slice A6 n6 c6)∧wz.cell? ⟨F.G,9,none⟩=some (.slice A7 n7 c7)∧wz.cell? ⟨w.heap.size,1,none⟩=some (.int .i64 a)):=hD fun wz hz=>⟨HY.out wz hz 2,HY.out wz hz 3,HY.out wz hz 4,HY.out wz hz 5,HY.out wz hz 6,HY.out wz hz 7,HY.out wz hz 8,HY.out wz hz 9,HX.out wz hz⟩;clear h hg hm8 hmod hv hb hW hF hs HX HY k2 k4;obtain⟨b0,b1,b2,b3,b4,b5,b6,b7,-⟩:=HS.out W (bR _ _);go_enter Tryz.func83,Tryz.ntmps83
 go_upto_region 1 with (fail)
 rw[← HW.out];go_quiet (fail)
 go_upto_region 15 with (fail)
 have hq:Below W.heap.size W (W.drewN nq):=Wt (bR _ _) _;obtain⟨W2,hW2⟩:∃ W2,W2=W.drewN nq:=⟨_,rfl⟩;rw[← hW2]at hq ⊢;have HQ:=hD hq;clear k0 k1 b0 b1 b2 b3 b4 b5 b6 b7 hq hW2;obtain⟨b0,b1,b2,b3,b4,b5,b6,b7,k1⟩:=HS.out W2 HQ.out
 go_region_held3 (fun wz=>wz.cell? ⟨F.G,2,none⟩=some (.slice A0 n0 c0)∧wz.cell? ⟨F.G,3,none⟩=some (.slice A1 n1 c1)∧wz.cell? ⟨F.G,4,none⟩=some (.slice A2 n2 c2)∧wz.cell? ⟨F.G,5,none⟩=some (.slice A3 n3 c3)∧wz.cell? ⟨F.G,6,none⟩=some (.slice A4 n4 c4)∧wz.cell? ⟨F.G,7,none⟩=some (.slice A5 n5 c5)∧wz.cell? ⟨F.G,8,none⟩=some (.slice A6 n6 c6)∧wz.cell? ⟨F.G,9,none⟩=some (.slice A7 n7 c7)∧wz.cell? ⟨w.heap.size,1,none⟩=some (.int .i64 a))
  (first|go_keep|exact⟨b0,b1,b2,b3,b4,b5,b6,b7,k1⟩|exact HS.out _ HB1.out|exact HS.out _ (Wb HB1.out _)|exact HS.out _ (WL HB1.out HQ.out.size))
  ((go_at_call 52;refine(HCA.out _ (by first|exact Wa HQ.out ((bR _ _).drew)|exact Wa HQ.out (Wb ((bR _ _).drew) _))).mono ?_;rintro e w1 ⟨p,r,rfl,hp,hr,hb1⟩;obtain⟨A8,e8,rfl,_,_⟩:=hp.form;obtain⟨A9,e9,rfl,_,_⟩:=hr.form;have HB1:Hid (Below W.heap.size W w1):=hD (by first|exact Wa (Wa HQ.out ((bR _ _).drew)) hb1|exact Wa (Wa HQ.out (Wb ((bR _ _).drew) _)) hb1);(first|(have hN:=Vj W2.drew (.cells #[.slice none 0 0,.slice none 0 0] 40);have hZ:w1.heap[W2.heap.size]?=some (.cells #[.slice none 0 0,.slice none 0 0] 40 (0,0)):=(hb1.block W2.heap.size (Array.getElem?_eq_some_iff.1 hN).1).trans hN;clear hN;have z0:=WG hZ 0;have z1:=WG hZ 1;have f0:=Va hZ 0;have f1:=Va hZ 1;simp only[List.getElem?_toArray,List.getElem?_cons_zero,List.getElem?_cons_succ]at z0 z1;clear hZ)|skip);clear hp hr hb1))
 all_goals
  clear b0 b1 b2 b3 b4 b5 b6 b7 k1;go_wp2;go_ret;first|exact⟨rfl,Wa HB.out (Wb HB1.out _)⟩|exact⟨rfl,Wa HB.out (WL HB1.out HQ.out.size)⟩):P:=h
theorem exists_16 {F:Wx} {w:World} {x:Ws} (hF:F.prg) (h:Wk F w x) (hs:Vq F.m) (a b n:Int) (ha : -9223372036854775808≤a∧a≤9223372036854775807) (l:List Int) (Al:Option Addr) (nl cl:Nat) :
 Calls Tryz.prog 83 #[.pointer (some ⟨F.G,0,none⟩),.agg #[.int .i64 16,.int .i64 a,.int .i64 b,.int .u64 n,.slice Al nl cl]] w (Wh (Wo F.env x.pl ⟨16,a,b,n,l⟩) w):=by
 rw[show Wo F.env x.pl ⟨16,a,b,n,l⟩=(WB F.m a).isSome by unfold Wo Ws.pl Wx.env;simp];obtain⟨k0,k1,k2,k4,_,_,_,_,_⟩:=h.exi hF ⟨16,a,b,n,l⟩ Al nl cl;have hg:=(h.alloc (.cells #[.int .i64 16,.int .i64 a,.int .i64 b,.int .u64 n,.slice Al nl cl] 25)).1;have hb:=(bR w.heap.size w).alloc (nR _) (.cells #[.int .i64 16,.int .i64 a,.int .i64 b,.int .u64 n,.slice Al nl cl] 25);simp only at k0 k1 k2 k4 hb;have hm8:=fun j (hj:j<8)=>hg.cell (j+2);obtain⟨W,hW⟩:∃ W,W=w.alloc (.cells #[.int .i64 16,.int .i64 a,.int .i64 b,.int .u64 n,.slice Al nl cl] 25):=⟨_,rfl⟩;exact Zm
theorem exists_18 {F:Wx} {w:World} {x:Ws} (hF:F.prg) (h:Wk F w x) (hs:Vq F.m) (a b n:Int) (ha : -9223372036854775808≤a∧a≤9223372036854775807) (l:List Int) (Al:Option Addr) (nl cl:Nat) :
 Calls Tryz.prog 83 #[.pointer (some ⟨F.G,0,none⟩),.agg #[.int .i64 18,.int .i64 a,.int .i64 b,.int .u64 n,.slice Al nl cl]] w (Wh (Wo F.env x.pl ⟨18,a,b,n,l⟩) w):=by
 rw[show Wo F.env x.pl ⟨18,a,b,n,l⟩=(WB F.m a).isSome by unfold Wo Ws.pl Wx.env;simp];obtain⟨k0,k1,k2,k4,_,_,_,_,_⟩:=h.exi hF ⟨18,a,b,n,l⟩ Al nl cl;have hg:=(h.alloc (.cells #[.int .i64 18,.int .i64 a,.int .i64 b,.int .u64 n,.slice Al nl cl] 25)).1;have hb:=(bR w.heap.size w).alloc (nR _) (.cells #[.int .i64 18,.int .i64 a,.int .i64 b,.int .u64 n,.slice Al nl cl] 25);simp only at k0 k1 k2 k4 hb;have hm8:=fun j (hj:j<8)=>hg.cell (j+2);obtain⟨W,hW⟩:∃ W,W=w.alloc (.cells #[.int .i64 18,.int .i64 a,.int .i64 b,.int .u64 n,.slice Al nl cl] 25):=⟨_,rfl⟩;exact Zm
theorem exists_2 {F:Wx} {w:World} {x:Ws} (hF:F.prg) (h:Wk F w x) (hs:Vq F.m) (a b n:Int) (l:List Int) (Al:Option Addr) (nl cl:Nat) :
 Calls Tryz.prog 83 #[.pointer (some ⟨F.G,0,none⟩),.agg #[.int .i64 2,.int .i64 a,.int .i64 b,.int .u64 n,.slice Al nl cl]] w (Wh (Wo F.env x.pl ⟨2,a,b,n,l⟩) w):=by
 rw[show Wo F.env x.pl ⟨2,a,b,n,l⟩=(Wv F.m a).isSome by unfold Wo Ws.pl Wx.env;simp];obtain⟨k0,k1,k2,k4,_,_,_,_,_⟩:=h.exi hF ⟨2,a,b,n,l⟩ Al nl cl;have hg:=(h.alloc (.cells #[.int .i64 2,.int .i64 a,.int .i64 b,.int .u64 n,.slice Al nl cl] 25)).1;have hb:=(bR w.heap.size w).alloc (nR _) (.cells #[.int .i64 2,.int .i64 a,.int .i64 b,.int .u64 n,.slice Al nl cl] 25);simp only at k0 k1 k2 k4 hb;have hm8:=fun j (hj:j<8)=>hg.cell (j+2);obtain⟨W,hW⟩:∃ W,W=w.alloc (.cells #[.int .i64 2,.int .i64 a,.int .i64 b,.int .u64 n,.slice Al nl cl] 25):=⟨_,rfl⟩;exact Zd
theorem exists_3 {F:Wx} {w:World} {x:Ws} (hF:F.prg) (h:Wk F w x) (hs:Vq F.m) (a b n:Int) (l:List Int) (Al:Option Addr) (nl cl:Nat) :
 Calls Tryz.prog 83 #[.pointer (some ⟨F.G,0,none⟩),.agg #[.int .i64 3,.int .i64 a,.int .i64 b,.int .u64 n,.slice Al nl cl]] w (Wh (Wo F.env x.pl ⟨3,a,b,n,l⟩) w):=by
 rw[show Wo F.env x.pl ⟨3,a,b,n,l⟩=(Wv F.m a).isSome by unfold Wo Ws.pl Wx.env;simp];obtain⟨k0,k1,k2,k4,_,_,_,_,_⟩:=h.exi hF ⟨3,a,b,n,l⟩ Al nl cl;have hg:=(h.alloc (.cells #[.int .i64 3,.int .i64 a,.int .i64 b,.int .u64 n,.slice Al nl cl] 25)).1;have hb:=(bR w.heap.size w).alloc (nR _) (.cells #[.int .i64 3,.int .i64 a,.int .i64 b,.int .u64 n,.slice Al nl cl] 25);simp only at k0 k1 k2 k4 hb;have hm8:=fun j (hj:j<8)=>hg.cell (j+2);obtain⟨W,hW⟩:∃ W,W=w.alloc (.cells #[.int .i64 3,.int .i64 a,.int .i64 b,.int .u64 n,.slice Al nl cl] 25):=⟨_,rfl⟩;exact Zd
theorem exists_4 {F:Wx} {w:World} {x:Ws} (hF:F.prg) (h:Wk F w x) (hs:Vq F.m) (a b n:Int) (l:List Int) (Al:Option Addr) (nl cl:Nat) :
 Calls Tryz.prog 83 #[.pointer (some ⟨F.G,0,none⟩),.agg #[.int .i64 4,.int .i64 a,.int .i64 b,.int .u64 n,.slice Al nl cl]] w (Wh (Wo F.env x.pl ⟨4,a,b,n,l⟩) w):=by
 rw[show Wo F.env x.pl ⟨4,a,b,n,l⟩=(Wv F.m a).isSome by unfold Wo Ws.pl Wx.env;simp];obtain⟨k0,k1,k2,k4,_,_,_,_,_⟩:=h.exi hF ⟨4,a,b,n,l⟩ Al nl cl;have hg:=(h.alloc (.cells #[.int .i64 4,.int .i64 a,.int .i64 b,.int .u64 n,.slice Al nl cl] 25)).1;have hb:=(bR w.heap.size w).alloc (nR _) (.cells #[.int .i64 4,.int .i64 a,.int .i64 b,.int .u64 n,.slice Al nl cl] 25);simp only at k0 k1 k2 k4 hb;have hm8:=fun j (hj:j<8)=>hg.cell (j+2);obtain⟨W,hW⟩:∃ W,W=w.alloc (.cells #[.int .i64 4,.int .i64 a,.int .i64 b,.int .u64 n,.slice Al nl cl] 25):=⟨_,rfl⟩;exact Zd
end
section
open Go.RowKit
set_option maxHeartbeats 8000000
set_option maxRecDepth 100000
theorem step_rel {F:Wx} {w:World} {x:Ws} (hF:F.prg) (h:Wk F w x) (op a b n:Int) (l:List Int) (Al:Option Addr) (nl cl:Nat)
 (hE:Vc x.pl op=true→∀ w1,Wk F w1 x→Wz F w x w1 x→Calls Tryz.prog 83 #[.pointer (some ⟨F.G,0,none⟩),.agg #[.int .i64 op,.int .i64 a,.int .i64 b,.int .u64 n,.slice Al nl cl]] w1 (Wh (Wo F.env x.pl ⟨op,a,b,n,l⟩) w1))
 (hFo:Vc x.pl op=true→Wo F.env x.pl ⟨op,a,b,n,l⟩=true→∀ w1,Wk F w1 x→Wz F w x w1 x→Calls Tryz.prog 84 #[.pointer (some ⟨F.G,0,none⟩),.agg #[.int .i64 op,.int .i64 a,.int .i64 b,.int .u64 n,.slice Al nl cl]] w1 (Vy F w1 x (Wu F.env x.pl ⟨op,a,b,n,l⟩))) :
 Calls Tryz.prog 47 #[.pointer (some ⟨F.G,0,none⟩),.agg #[.int .i64 op,.int .i64 a,.int .i64 b,.int .u64 n,.slice Al nl cl]] w (StepPost F w x (Vr F.env x.pl ⟨op,a,b,n,l⟩)):=by
 have HE:=hD hE;have HFo:=hD hFo;have HRI:=hD (fun w=>richI_any ⟨op,a,b,n,l⟩ (.slice Al nl cl) ⟨_,_,_,rfl⟩ w);obtain⟨W,hW⟩:∃ W,W=w.alloc (.cells #[.int .i64 op,.int .i64 a,.int .i64 b,.int .u64 n,.slice Al nl cl] 25):=⟨_,rfl⟩;have hk:∀ j:Nat,W.cell? ⟨w.heap.size,j,none⟩=(#[.int .i64 op,.int .i64 a,.int .i64 b,.int .u64 n,.slice Al nl cl]:Array Value)[j]?:=fun j=>by rw[hW,wN]
 have HG1:=hD (hW ▸ h.alloc (.cells #[.int .i64 op,.int .i64 a,.int .i64 b,.int .u64 n,.slice Al nl cl] 25):Wk F W x∧Wz F w x W x);have HKX:Hid (∀ wz,Below W.heap.size W wz→wz.cell? ⟨w.heap.size,0,none⟩=some (.int .i64 op)∧wz.cell? ⟨w.heap.size,1,none⟩=some (.int .i64 a)∧wz.cell? ⟨w.heap.size,2,none⟩=some (.int .i64 b)∧wz.cell? ⟨w.heap.size,3,none⟩=some (.int .u64 n)∧wz.cell? ⟨w.heap.size,4,none⟩=some (.slice Al nl cl)∧wz.cell? ⟨F.G,10,none⟩=some (.int .i64 F.prof)):=hD fun wz hz =>
  ⟨(hz.cell (wL W _ (hk 0))).trans (hk 0),(hz.cell (wL W _ (hk 1))).trans (hk 1),(hz.cell (wL W _ (hk 2))).trans (hk 2),(hz.cell (wL W _ (hk 3))).trans (hk 3),(hz.cell (wL W _ (hk 4))).trans (hk 4),((HG1.out.1.below hz).1.q hF).2.2.2.1⟩
 have HIP:=hD (inPlace_any hF HG1.out.1 op);have HW:=hD hW;obtain⟨k0,k1,k2,k3,k4,kp⟩:=HKX.out W (bR _ _);unfold Vr;clear hE hFo hk hW h;cases hin:Vc x.pl op with
 | false =>
  exact Zbn
 | true =>
  rw[if_neg (by decide)];rw[hin]at HIP;generalize hpr:F.prof=pr at *;rw[show F.env.prof=pr from hpr];by_cases hp:pr=1
  ·have d1:(pr==1)=true:=by simpa using hp
   cases hri:richI ⟨op,a,b,n,l⟩ with
   | true =>
    exact Z3
   | false =>
    rw[if_neg (fun hx=>by cases hx.2)];rw[hri]at HRI;clear hri hp hpr;cases he:Wo F.env x.pl ⟨op,a,b,n,l⟩ with
    | false =>
     rw[if_pos rfl];have HEX:=hD (fun w1 g1 s1=>he ▸ HE.out hin w1 g1 s1);clear HE HFo he;go_enter Tryz.func47,Tryz.ntmps47
     go_upto_region 1 with (fail)
     rw[← HW.out];go_wp2_with (first|(go_at_call 81;refine HIP.out.mono ?_;rintro e w1 ⟨rfl,hb1⟩;have HB1:=hD (show Below W.heap.size W w1 from hb1);obtain⟨j0,j1,j2,j3,j4,jp⟩:=HKX.out w1 hb1;clear hb1)|(go_at_call 82;refine(HRI.out _).mono ?_;rintro e w2 ⟨rfl,hb2⟩;have HB2:=hD (show Below W.heap.size W w2 from Wa HB1.out hb2);obtain⟨j0,j1,j2,j3,j4,jp⟩:=HKX.out w2 HB2.out;clear hb2)|(go_at_call 83;refine(HEX.out _ (HG1.out.1.below HB2.out).1 (HG1.out.2.trans (HG1.out.1.below HB2.out).2)).mono ?_;rintro e w3 ⟨rfl,hb3⟩;have HB3:=hD (show Below W.heap.size W w3 from Wa HB2.out hb3);obtain⟨j0,j1,j2,j3,j4,jp⟩:=HKX.out w3 HB3.out;clear hb3))
     exact Zby
    | true =>
     rw[if_neg (by decide)];have HEX:=hD (fun w1 g1 s1=>he ▸ HE.out hin w1 g1 s1);have HFO:=hD (HFo.out hin he);clear HE HFo he;cases hf:Wu F.env x.pl ⟨op,a,b,n,l⟩ with
     | none =>
      rw[hf]at HFO;clear hf;go_enter Tryz.func47,Tryz.ntmps47
      go_upto_region 1 with (fail)
      rw[← HW.out];go_wp2_with (first|(go_at_call 81;refine HIP.out.mono ?_;rintro e w1 ⟨rfl,hb1⟩;have HB1:=hD (show Below W.heap.size W w1 from hb1);obtain⟨j0,j1,j2,j3,j4,jp⟩:=HKX.out w1 hb1;clear hb1)|(go_at_call 82;refine(HRI.out _).mono ?_;rintro e w2 ⟨rfl,hb2⟩;have HB2:=hD (show Below W.heap.size W w2 from Wa HB1.out hb2);obtain⟨j0,j1,j2,j3,j4,jp⟩:=HKX.out w2 HB2.out;clear hb2)|(go_at_call 83;refine(HEX.out _ (HG1.out.1.below HB2.out).1 (HG1.out.2.trans (HG1.out.1.below HB2.out).2)).mono ?_;rintro e w3 ⟨rfl,hb3⟩;have HB3:=hD (show Below W.heap.size W w3 from Wa HB2.out hb3);obtain⟨j0,j1,j2,j3,j4,jp⟩:=HKX.out w3 HB3.out;clear hb3)|(go_at_call 84;refine(HFO.out _ (HG1.out.1.below HB3.out).1 (HG1.out.2.trans (HG1.out.1.below HB3.out).2)).mono ?_;rintro e w4 ⟨x4,g4,s4,rfl,hp4⟩;have HG4:=hD g4;have HS4:=hD s4;have HP4:=hD hp4;clear g4 s4 hp4))
      exact ZbA
     | some q =>
      rw[hf]at HFO;clear hf;go_enter Tryz.func47,Tryz.ntmps47
      go_upto_region 1 with (fail)
      rw[← HW.out];go_wp2_with (first|(go_at_call 81;refine HIP.out.mono ?_;rintro e w1 ⟨rfl,hb1⟩;have HB1:=hD (show Below W.heap.size W w1 from hb1);obtain⟨j0,j1,j2,j3,j4,jp⟩:=HKX.out w1 hb1;clear hb1)|(go_at_call 82;refine(HRI.out _).mono ?_;rintro e w2 ⟨rfl,hb2⟩;have HB2:=hD (show Below W.heap.size W w2 from Wa HB1.out hb2);obtain⟨j0,j1,j2,j3,j4,jp⟩:=HKX.out w2 HB2.out;clear hb2)|(go_at_call 83;refine(HEX.out _ (HG1.out.1.below HB2.out).1 (HG1.out.2.trans (HG1.out.1.below HB2.out).2)).mono ?_;rintro e w3 ⟨rfl,hb3⟩;have HB3:=hD (show Below W.heap.size W w3 from Wa HB2.out hb3);obtain⟨j0,j1,j2,j3,j4,jp⟩:=HKX.out w3 HB3.out;clear hb3)|(go_at_call 84;refine(HFO.out _ (HG1.out.1.below HB3.out).1 (HG1.out.2.trans (HG1.out.1.below HB3.out).2)).mono ?_;rintro e w4 ⟨x4,g4,s4,rfl,hp4⟩;have HG4:=hD g4;have HS4:=hD s4;have HP4:=hD hp4;clear g4 s4 hp4))
      exact ZbB
  ·have d1:(pr==1)=false:=by simpa using hp
   rw[if_neg (fun hx=>hp hx.1)];clear hp hpr;cases he:Wo F.env x.pl ⟨op,a,b,n,l⟩ with
   | false =>
    rw[if_pos rfl];have HEX:=hD (fun w1 g1 s1=>he ▸ HE.out hin w1 g1 s1);clear HE HFo he;go_enter Tryz.func47,Tryz.ntmps47
    go_upto_region 1 with (fail)
    rw[← HW.out];go_wp2_with (first|(go_at_call 81;refine HIP.out.mono ?_;rintro e w1 ⟨rfl,hb1⟩;have HB1:=hD (show Below W.heap.size W w1 from hb1);obtain⟨j0,j1,j2,j3,j4,jp⟩:=HKX.out w1 hb1;clear hb1)|(go_at_call 83;refine(HEX.out _ (HG1.out.1.below HB1.out).1 (HG1.out.2.trans (HG1.out.1.below HB1.out).2)).mono ?_;rintro e w3 ⟨rfl,hb3⟩;have HB3:=hD (show Below W.heap.size W w3 from Wa HB1.out hb3);obtain⟨j0,j1,j2,j3,j4,jp⟩:=HKX.out w3 HB3.out;clear hb3))
    exact Zby
   | true =>
    rw[if_neg (by decide)];have HEX:=hD (fun w1 g1 s1=>he ▸ HE.out hin w1 g1 s1);have HFO:=hD (HFo.out hin he);clear HE HFo he;cases hf:Wu F.env x.pl ⟨op,a,b,n,l⟩ with
    | none =>
     rw[hf]at HFO;clear hf;go_enter Tryz.func47,Tryz.ntmps47
     go_upto_region 1 with (fail)
     rw[← HW.out];go_wp2_with (first|(go_at_call 81;refine HIP.out.mono ?_;rintro e w1 ⟨rfl,hb1⟩;have HB1:=hD (show Below W.heap.size W w1 from hb1);obtain⟨j0,j1,j2,j3,j4,jp⟩:=HKX.out w1 hb1;clear hb1)|(go_at_call 83;refine(HEX.out _ (HG1.out.1.below HB1.out).1 (HG1.out.2.trans (HG1.out.1.below HB1.out).2)).mono ?_;rintro e w3 ⟨rfl,hb3⟩;have HB3:=hD (show Below W.heap.size W w3 from Wa HB1.out hb3);obtain⟨j0,j1,j2,j3,j4,jp⟩:=HKX.out w3 HB3.out;clear hb3)|(go_at_call 84;refine(HFO.out _ (HG1.out.1.below HB3.out).1 (HG1.out.2.trans (HG1.out.1.below HB3.out).2)).mono ?_;rintro e w4 ⟨x4,g4,s4,rfl,hp4⟩;have HG4:=hD g4;have HS4:=hD s4;have HP4:=hD hp4;clear g4 s4 hp4))
     exact ZbA
    | some q =>
     rw[hf]at HFO;clear hf;go_enter Tryz.func47,Tryz.ntmps47
     go_upto_region 1 with (fail)
     rw[← HW.out];go_wp2_with (first|(go_at_call 81;refine HIP.out.mono ?_;rintro e w1 ⟨rfl,hb1⟩;have HB1:=hD (show Below W.heap.size W w1 from hb1);obtain⟨j0,j1,j2,j3,j4,jp⟩:=HKX.out w1 hb1;clear hb1)|(go_at_call 83;refine(HEX.out _ (HG1.out.1.below HB1.out).1 (HG1.out.2.trans (HG1.out.1.below HB1.out).2)).mono ?_;rintro e w3 ⟨rfl,hb3⟩;have HB3:=hD (show Below W.heap.size W w3 from Wa HB1.out hb3);obtain⟨j0,j1,j2,j3,j4,jp⟩:=HKX.out w3 HB3.out;clear hb3)|(go_at_call 84;refine(HFO.out _ (HG1.out.1.below HB3.out).1 (HG1.out.2.trans (HG1.out.1.below HB3.out).2)).mono ?_;rintro e w4 ⟨x4,g4,s4,rfl,hp4⟩;have HG4:=hD g4;have HS4:=hD s4;have HP4:=hD hp4;clear g4 s4 hp4))
     exact ZbB
end
section
open Go.RowKit
set_option maxHeartbeats 4000000
set_option maxRecDepth 100000
theorem ZcW {P:Prop}(h:P:=by
 go_wp2;go_ret;exact⟨Vd (HF.out).symm,Wa HBW.out HB.out⟩):P:=h
theorem Uk (n j d:Nat) (h:j<n):(List.range n).getD j d=j:=by
 rw[List.getD_eq_getElem?_getD,List.getElem?_range h];rfl
theorem fsig_some {m:Vt} (h:Ub m=true) {f:Nat} (hf:f<m.funs.length):∃ t,WB m ((m.imps.length:Int)+(f:Int))=some t:=by
 unfold Ub at h;rw[Bool.and_eq_true]at h;have h1:Wi (m.funs.getD f WW).ty m.types.length=true:=List.all_eq_true.1 h.2 _ (WA m.funs f WW hf);unfold Wi at h1;rw[Bool.and_eq_true]at h1;have h2:=of_decide_eq_true h1.1;have h3:=of_decide_eq_true h1.2;have h4:=fsigB_fun (m:=m) hf;rw[Int.natCast_add]at h4;rw[h4];unfold Uo;rw[if_pos (by omega)];exact⟨_,rfl⟩
theorem funcs_ok {good:Vl→Prop} (HS:StepsOk good) (w:World) (v:Mv) (m:Vt) (h:W7 (fun k=>k<w.heap.size) w v m) (hs:Vq m) (hty:∀ t ∈ m.types,t.1.length≤8∧t.2.length≤8) (htc:Ub m=true) (prof:Int) (hcl:∀ f ∈ m.funs,f.code.length≤65536∧∀ i ∈ f.code,good i) :
 Calls Tryz.prog 42 #[.agg v.cells,.int .i64 prof] w (fun e w'=>e=.returned (.int .i64 (funcsC m prof))∧Below w.heap.size w w'):=by
 have HFN:=hD (fun wz (hb:Below w.heap.size w wz) (f:Nat) (hf:f<m.funs.length)=>(by
  obtain⟨t,ht⟩:=fsig_some htc hf;have hm:=WA m.funs f WW hf;exact func_ok HS wz v m (h.keep (We.below hb fun _ hk=>hk) fun _ hk=>Ve hk hb.size) hs hty f hf t ht prof (hcl _ hm).1 (hcl _ hm).2:Calls Tryz.prog 21 #[.agg v.cells,.int .i64 (f:Int),.int .i64 prof] wz (FuncPost (Uq m (f:Int) prof) wz)))
 have hs2:=hs.2.2.1;clear hs hty htc hcl;obtain⟨A0,c0,A1,c1,A2,c2,A3,c3,A4,c4,A5,c5,A6,c6,A7,c7,rfl⟩:=Wr h;simp only[Mv.cells]at HFN ⊢;clear h;obtain⟨⟨n0,hn0⟩,⟨n1,hn1⟩,⟨n2,hn2⟩,⟨n3,hn3⟩,⟨n4,hn4⟩,⟨n5,hn5⟩,⟨n6,hn6⟩,⟨n7,hn7⟩⟩:=len8 m;have HN2:=hD hn2;have HN3:=hD hn3;rw[hn0,hn1,hn2,hn3,hn4,hn5,hn6,hn7]at HFN ⊢;obtain⟨W,hW,hbw,HB8⟩:=Vv w (.slice A0 n0 c0) (.slice A1 n1 c1) (.slice A2 n2 c2) (.slice A3 n3 c3) (.slice A4 n4 c4) (.slice A5 n5 c5) (.slice A6 n6 c6) (.slice A7 n7 c7);have HBW:=hD hbw;have HB8:=hD HB8;have HW:=hD hW;obtain⟨b0,b1,b2,b3,b4,b5,b6,b7⟩:=HB8.out W (bR _ _);clear hbw hW hn0 hn1 hn2 hn3 hn4 hn5 hn6 hn7;rw[HN2.out]at hs2;go_enter Tryz.func42,Tryz.ntmps42
 go_upto_region 1 with (fail)
 rw[← HW.out];go_wp2_with fail
 clear b0 b1 b2 b3 b4 b5 b6 b7;go_loopw [11] (fun i wr=>∃ k:Nat,k≤n2∧i=.int .i64 (k:Int)∧Hid (Below W.heap.size W wr)∧Hid (∀ j,j<k→(Uq m ((List.range n2).getD j 0:Nat) prof).2=0)) (fun i _=>n2 - (intOf i).toNat)
 case atStart=>exact⟨0,nZ _,rfl,hD (bR _ _),hD fun j hj=>absurd hj (Nat.not_lt_zero _)⟩
 case round =>
  obtain⟨w0,rfl⟩:∃ w0,w0=wr:=⟨_,rfl⟩;obtain⟨k,hk,rfl,HB,HA⟩:=hrel;by_cases hlt:k<n2
  ·have hd:decide ((k:Int)<(n2:Int))=true:=by simp;omega
   have hd2:decide (k<n2)=true:=by simp;omega
   obtain⟨b0,b1,b2,b3,b4,b5,b6,b7⟩:=HB8.out w0 HB.out;have HCF:=hD (HFN.out w0 (Wa HBW.out HB.out) k hlt);have HAT:=hD (fun (hz:(Uq m (k:Int) prof).2≠0)=>(by
    have h:=firstC_at (g:=fun q:Nat=>(Uq m (q:Int) prof).2) (d:=0) (l:=List.range n2) HA.out (by rw[List.length_range];exact hlt) (by rw[Uk n2 k 0 hlt];exact hz);rw[Uk n2 k 0 hlt]at h;unfold funcsC;rw[HN2.out];exact h:funcsC m prof=(Uq m (k:Int) prof).2))
   have HAN:=hD (fun (hz:(Uq m (k:Int) prof).2=0) j (hj:j<k+1)=>(by
    rcases Nat.lt_or_ge j k with h1|h1
    ·exact HA.out j h1
    ·rw[show j=k by omega,Uk n2 k 0 hlt];exact hz:(Uq m ((List.range n2).getD j 0:Nat) prof).2=0))
   generalize Uq m (k:Int) prof=r at HCF HAT HAN;obtain⟨r1,r2⟩:=r;by_cases hz:r2=0
   ·subst hz;have HAZ:=hD (HAN.out rfl);clear HAT HAN;go_wp2_with (go_at_call 21;refine(HCF.out).mono ?_;rintro e w1 ⟨rfl,hb1⟩;have HB1:=hD (Wa HB.out hb1);clear hb1)
    go_roundw
    case rel=>exact⟨k+1,by omega,by go_num,HB1,HAZ⟩
    case measure=>simp[intOf];omega
   ·have hzb:(r2 != 0)=true:=by simpa using hz
    have HAZ:=hD (HAT.out hz);clear HAT HAN hz;go_wp2_with (go_at_call 21;refine(HCF.out).mono ?_;rintro e w1 ⟨rfl,hb1⟩;have HB1:=hD (Wa HB.out hb1);clear hb1)
    go_ret;exact⟨Vd (HAZ.out).symm,Wa HBW.out HB1.out⟩
  ·have hd:decide ((k:Int)<(n2:Int))=false:=by simp;omega
   have hd2:decide (k<n2)=false:=by simp;omega
   obtain rfl:n2=k:=by omega
   have HF:=hD (show funcsC m prof=0 by unfold funcsC;rw[HN2.out];exact firstC_zero (g:=fun q:Nat=>(Uq m (q:Int) prof).2) (d:=0) (by rw[List.length_range];exact HA.out));exact ZcW
end
section
open Go.RowKit
set_option maxHeartbeats 4000000
set_option maxRecDepth 100000
theorem Zbw {P:Prop}(h:P:=by
 go_wp2_with (go_at_call 163;refine HPW.out.mono ?_;rintro e w6 ⟨rfl,h6⟩;have HD6:=hD h6;clear h6)
 go_ret;exact HD6.out):P:=h
theorem ZcX {P:Prop}(h:P:=by
 go_wp2;go_ret;exact⟨x5,HG5.out,HSS.out,rfl,fun hx=>by cases hx⟩):P:=h
theorem dpops_one (p:Pl) (a:Int):WC p [a]=(UL p a).map Prod.snd:=by
 unfold WC;show(UL p a).bind (fun q=>some q.2)=_;cases UL p a <;> rfl
theorem dchoose_is {p p3 p4 p5:Pl} {t3 t4 t5:Int} {b4 b5:Bool} (h:UL p 127=some (t3,p3)) (h4:UL p3 0=if b4 then some (t4,p4) else none) (h5:UL p4 0=if b5 then some (t5,p5) else none):U6 p=if b4 && b5 then (if t4≠t5∧t4≠0∧t5≠0 then none else some (Vg p5 [if t4=0 then t5 else t4])) else none:=by
 unfold U6;rw[dpops_one,h,Option.map_some,Option.bind_some,h4];exact Zdb
theorem dchoose_any {F:Wx} {w:World} {x:Ws} (hF:F.ref) (h:Wk F w x) (h0:0<x.f.length) (hs:x.s.length≤900000) (hh:x.top.h≤x.s.length) :
 Calls Tryz.prog 170 #[.pointer (some ⟨F.G,0,none⟩)] w (VI F w x (U6 x.pl)):=by
 have HPP:=hD (dpop_any hF h h0 (by omega) hh 127);have HF:=hD hF;have HH:=hD (⟨h0,hs⟩:0<x.f.length∧x.s.length≤900000);obtain⟨r,hr⟩:∃ r,U6 x.pl=r:=⟨_,rfl⟩;rw[hr];have HRR:=hD hr;clear hF h h0 hs hh hr;go_enter Tryz.func170,Tryz.ntmps170
 go_upto_region 2 with (go_at_call 164;refine HPP.out.mono ?_;rintro e w3 ⟨t3,b3,x3,rfl,g3,s3,f3,l3,h3,r3⟩;have HG3:=hD g3;have HS3:=hD s3;have HF3:=hD f3;have HL3:=hD l3;have HH3:=hD h3;have HR3:=hD r3;clear g3 s3 f3 l3 h3 r3)
 cases b3 with
 | false =>
  have hr:r=none:=by rw[← HRR.out];unfold U6;rw[dpops_one,HR3.out];rfl
  subst hr;go_wp2;go_ret;exact⟨x3,HG3.out,HS3.out,rfl,fun hx=>by cases hx⟩
 | true =>
  have HP4:=hD (dpop_any HF.out HG3.out (by rw[HF3.out];exact HH.out.1) (by have:=HL3.out;have:=HH.out.2;omega) (by rw[Ws.top_of HF3.out];exact HH3.out) 0)
  go_upto_region 5 with (go_at_call 164;refine HP4.out.mono ?_;rintro e w4 ⟨t4,b4,x4,rfl,g4,s4,f4,l4,h4,r4⟩;have HG4:=hD g4;have HS4:=hD s4;have HF4:=hD f4;have HL4:=hD l4;have HH4:=hD h4;have HR4:=hD r4;clear g4 s4 f4 l4 h4 r4)
  have HP5:=hD (dpop_any HF.out HG4.out (by rw[HF4.out,HF3.out];exact HH.out.1) (by have:=HL3.out;have:=HL4.out;have:=HH.out.2;omega) (by rw[Ws.top_of HF4.out];exact HH4.out) 0)
  go_upto_region 6 with (go_at_call 164;refine HP5.out.mono ?_;rintro e w5 ⟨t5,b5,x5,rfl,g5,s5,f5,l5,h5,r5⟩;have HG5:=hD g5;have HS5:=hD s5;have HF5:=hD f5;have HL5:=hD l5;have HH5:=hD h5;have HR5:=hD r5;clear g5 s5 f5 l5 h5 r5)
  have hr:=dchoose_is HR3.out HR4.out HR5.out;rw[HRR.out]at hr;have HSS:=hD ((HS3.out.trans HS4.out).trans HS5.out);have HLL:Hid (x5.s.length+1≤1000000):=hD (by have:=HL3.out;have:=HL4.out;have:=HL5.out;have:=HH.out.2;omega);cases b4 with
  | false =>
   have hr2:r=none:=by rw[hr];rfl
   subst hr2;clear hr;exact ZcX
  | true =>
   cases b5 with
   | false =>
    have hr2:r=none:=by rw[hr];rfl
    subst hr2;clear hr;exact ZcX
   | true =>
    rw[show(true && true)=true from rfl,if_pos rfl]at hr;have HPU:Hid (∀ t,Calls Tryz.prog 163 #[.pointer (some ⟨F.G,0,none⟩),.slice (some ⟨w5.heap.size,0,none⟩) 1 1] (w5.alloc (.cells #[.int .i64 t] 3)) (VI F w x (some (Vg x5.pl [t])) |> fun P e w'=>e=.returned (.tuple #[])∧P (.returned (.bool true)) w')):=hD fun t=>by
     have hg6:=HG5.out.alloc (.cells #[.int .i64 t] 3);have hi6:=WH w5 (bR w5.heap.size w5) t;refine(U4 HF.out hg6.1 _ [t] (hi6.keep (.refl _ _) fun k hk=>⟨hk.2,HG5.out.new_free hk.1⟩) (by simpa using HLL.out)).mono ?_;rintro e w6 ⟨rfl,x6,g6,s6,r6,q6⟩;refine⟨rfl,x6,g6,(HSS.out.trans hg6.2).trans s6,rfl,fun _=>?_⟩;unfold Vg Ws.pl;rw[r6,q6]
    by_cases c1:t4=t5
    ·have d1:(t4 != t5)=false:=by simpa using c1
     rw[if_neg (fun hx=>hx.1 c1),show(if t4=0 then t5 else t4)=t4 by split <;> simp[c1]]at hr
     subst hr;by_cases c2:t4=0
     ·have d2:(t4==0)=true:=by simpa using c2
      subst c1;have HPW:=hD (HPU.out t4);clear c2;exact Zbw
     ·have d2:(t4==0)=false:=by simpa using c2
      have HPW:=hD (HPU.out t4);clear c1 c2;exact Zbw
    ·have d1:(t4 != t5)=true:=by simpa using c1
     by_cases c2:t4=0
     ·have d2:(t4 != 0)=false:=by simpa using c2
      have d3:(t4==0)=true:=by simpa using c2
      rw[if_neg (fun hx=>hx.2.1 c2),if_pos c2]at hr;subst hr;have HPW:=hD (HPU.out t5);clear c1 c2;exact Zbw
     ·have d2:(t4 != 0)=true:=by simpa using c2
      have d3:(t4==0)=false:=by simpa using c2
      by_cases c3:t5=0
      ·have d4:(t5 != 0)=false:=by simpa using c3
       rw[if_neg (fun hx=>hx.2.2 c3),if_neg c2]at hr;subst hr;have HPW:=hD (HPU.out t4);clear c1 c2 c3;exact Zbw
      ·have d4:(t5 != 0)=true:=by simpa using c3
       rw[if_pos ⟨c1,c2,c3⟩]at hr;subst hr;clear c1 c2 c3;exact ZcX
end
end Go.Proofs.YtmfpnfdinoofpaaGreatDoor
