/- A part of the proof. -/
import Derived.Test.YtmfpnfdinoofpaaGreatDoorJ34
namespace Go.Proofs.YtmfpnfdinoofpaaGreatDoor
open Go.RowKit
set_option maxHeartbeats 8000000
set_option maxRecDepth 100000
theorem Ze {P:Prop}(h:P:=by
 rw[ho]at HOC;have h9:=HG.out.dl9 hF;obtain⟨A0,c0,A1,c1,A2,c2,A3,c3,A4,c4,A5,c5,A6,c6,A7,c7,hv⟩:=Wr HG.out.reads.mod;obtain⟨A9',c9',hlo,_⟩:=HG.out.reads.loc.form;have HY:Hid (∀ wz,Below W.heap.size W wz→∀ j,wz.cell? ⟨F.G,j,none⟩=(WN F x)[j]?):=hD fun wz hz j=>(HG.out.below hz).1.cell j;unfold WN at HY;rw[hF.1,hv]at HY;simp only[if_true]at HY;rw[hlo]at h9;generalize F.m.types.length=n0 at *;generalize F.m.imps.length=n1 at *;generalize F.m.funs.length=n2 at *;generalize F.m.mems.length=n3 at *;generalize F.m.globs.length=n4 at *;generalize F.m.exps.length=n5 at *;generalize F.m.datas.length=n6 at *;generalize F.m.cus.length=n7 at *;generalize F.lo.length=nlo at *;obtain⟨j0,j2,j3,j4,j6,j9⟩:W.cell? ⟨F.G,0,none⟩=some (.slice A0 n0 c0)∧W.cell? ⟨F.G,2,none⟩=some (.slice A2 n2 c2)∧W.cell? ⟨F.G,3,none⟩=some (.slice A3 n3 c3)∧W.cell? ⟨F.G,4,none⟩=some (.slice A4 n4 c4)∧W.cell? ⟨F.G,6,none⟩=some (.slice A6 n6 c6)∧W.cell? ⟨F.G,9,none⟩=some (.slice A9' nlo c9'):=⟨HY.out W (bR _ _) 0,HY.out W (bR _ _) 2,HY.out W (bR _ _) 3,HY.out W (bR _ _) 4,HY.out W (bR _ _) 6,h9⟩;clear h hgs hk hF hW hbw ha ho hv hlo h9 HY;go_enter Tryz.func88,Tryz.ntmps88
 go_upto_region 1 with (fail)
 rw[← HW.out];go_wp2_with (first|(go_at_call 131;refine(HAC.out _).mono ?_;rintro e w3 ⟨rfl,rfl⟩)|(go_at_call 87;refine(HOC.out _).mono ?_;rintro e w3 ⟨rfl,rfl⟩))
 go_quiet (fail)
 go_wp2;go_ret;exact⟨rfl,Wt HBW.out _⟩):P:=h
theorem Zn {P:Prop}(h:P:=by
 rw[ho]at HOC;have HCA:=hD (fun wz (hz:Below W.heap.size W wz)=>dsig_in wz F.v F.m (K:=Wq F W x) (fun k hk=>Ve hk.1 hz.size) (HG.out.reads.mod.keep (We.below hz fun _ hk=>hk.1) fun _ hk=>hk) hs a);have h9:=HG.out.dl9 hF;obtain⟨A0,c0,A1,c1,A2,c2,A3,c3,A4,c4,A5,c5,A6,c6,A7,c7,hv⟩:=Wr HG.out.reads.mod;obtain⟨A9',c9',hlo,_⟩:=HG.out.reads.loc.form;have HY:Hid (∀ wz,Below W.heap.size W wz→∀ j,wz.cell? ⟨F.G,j,none⟩=(WN F x)[j]?):=hD fun wz hz j=>(HG.out.below hz).1.cell j;unfold WN at HY;rw[hF.1,hv]at HY;simp only[if_true]at HY;rw[hv]at HCA;simp only[Mv.cells]at HCA;generalize F.m.types.length=n0 at *;generalize F.m.imps.length=n1 at *;generalize F.m.funs.length=n2 at *;generalize F.m.mems.length=n3 at *;generalize F.m.globs.length=n4 at *;generalize F.m.exps.length=n5 at *;generalize F.m.datas.length=n6 at *;generalize F.m.cus.length=n7 at *;have HS:Hid (∀ wz,Below W.heap.size W wz→wz.cell? ⟨F.G,0,none⟩=some (.slice A0 n0 c0)∧wz.cell? ⟨F.G,1,none⟩=some (.slice A1 n1 c1)∧wz.cell? ⟨F.G,2,none⟩=some (.slice A2 n2 c2)∧wz.cell? ⟨F.G,3,none⟩=some (.slice A3 n3 c3)∧wz.cell? ⟨F.G,4,none⟩=some (.slice A4 n4 c4)∧wz.cell? ⟨F.G,5,none⟩=some (.slice A5 n5 c5)∧wz.cell? ⟨F.G,6,none⟩=some (.slice A6 n6 c6)∧wz.cell? ⟨F.G,7,none⟩=some (.slice A7 n7 c7)∧wz.cell? ⟨w.heap.size,1,none⟩=some (.int .i64 a)):=hD fun wz hz=>⟨HY.out wz hz 0,HY.out wz hz 1,HY.out wz hz 2,HY.out wz hz 3,HY.out wz hz 4,HY.out wz hz 5,HY.out wz hz 6,HY.out wz hz 7,(HKX.out wz hz).2.1⟩;generalize WB F.m a=t at HCA ⊢;clear h hgs hk hF hW hbw ha ho hv hlo h9 HY hs;go_enter Tryz.func88,Tryz.ntmps88
 go_upto_region 1 with (fail)
 rw[← HW.out]
 go_upto_region 20 with (first|(go_at_call 131;refine(HAC.out _).mono ?_;rintro e w3 ⟨rfl,rfl⟩)|(go_at_call 87;refine(HOC.out _).mono ?_;rintro e w3 ⟨rfl,rfl⟩))
 clear k0 k1 k2 k4;obtain⟨b0,b1,b2,b3,b4,b5,b6,b7,k1⟩:=HS.out W (bR W.heap.size W)
 go_region_held3 (fun wz=>wz.cell? ⟨F.G,0,none⟩=some (.slice A0 n0 c0)∧wz.cell? ⟨F.G,1,none⟩=some (.slice A1 n1 c1)∧wz.cell? ⟨F.G,2,none⟩=some (.slice A2 n2 c2)∧wz.cell? ⟨F.G,3,none⟩=some (.slice A3 n3 c3)∧wz.cell? ⟨F.G,4,none⟩=some (.slice A4 n4 c4)∧wz.cell? ⟨F.G,5,none⟩=some (.slice A5 n5 c5)∧wz.cell? ⟨F.G,6,none⟩=some (.slice A6 n6 c6)∧wz.cell? ⟨F.G,7,none⟩=some (.slice A7 n7 c7)∧wz.cell? ⟨w.heap.size,1,none⟩=some (.int .i64 a))
  (first|go_keep|exact⟨b0,b1,b2,b3,b4,b5,b6,b7,k1⟩|exact HS.out _ HB1.out|exact HS.out _ (Wb HB1.out _)|exact HS.out _ (WL HB1.out (Below.size (bR W.heap.size W))))
  ((go_at_call 77;refine(HCA.out _ (by first|exact Wa (bR W.heap.size W) ((bR _ _).drew)|exact Wa (bR W.heap.size W) (Wb ((bR _ _).drew) _))).mono ?_;rintro e w1 ⟨p,q,rfl,hp,hq,hb1⟩;obtain⟨A8,e8,rfl,_,_⟩:=hp.form;obtain⟨A9,e9,rfl,_,_⟩:=hq.form;have HB1:Hid (Below W.heap.size W w1):=hD (by first|exact Wa (Wa (bR W.heap.size W) ((bR _ _).drew)) hb1|exact Wa (Wa (bR W.heap.size W) (Wb ((bR _ _).drew) _)) hb1);(first|(have hN:=Vj (W).drew (.cells #[.slice none 0 0,.slice none 0 0] 40);have hZ:w1.heap[(W).heap.size]?=some (.cells #[.slice none 0 0,.slice none 0 0] 40 (0,0)):=(hb1.block (W).heap.size (Array.getElem?_eq_some_iff.1 hN).1).trans hN;clear hN;have z0:=WG hZ 0;have z1:=WG hZ 1;have f0:=Va hZ 0;have f1:=Va hZ 1;simp only[List.getElem?_toArray,List.getElem?_cons_zero,List.getElem?_cons_succ]at z0 z1;clear hZ)|skip);clear hp hq hb1))
 ·go_wp2;go_ret;exact⟨rfl,Wa HBW.out (Wb HB1.out _)⟩
 ·go_wp2;go_ret;exact⟨rfl,Wa HBW.out (WL HB1.out (Below.size (bR W.heap.size W)))⟩):P:=h
theorem Zz {P:Prop}(h:P:=by
 rw[ho]at HOC;have h9:=HG.out.dl9 hF;obtain⟨A0,c0,A1,c1,A2,c2,A3,c3,A4,c4,A5,c5,A6,c6,A7,c7,hv⟩:=Wr HG.out.reads.mod;obtain⟨A9',c9',hlo,_⟩:=HG.out.reads.loc.form;have HY:Hid (∀ wz,Below W.heap.size W wz→∀ j,wz.cell? ⟨F.G,j,none⟩=(WN F x)[j]?):=hD fun wz hz j=>(HG.out.below hz).1.cell j;unfold WN at HY;rw[hF.1,hv]at HY;simp only[if_true]at HY;rw[hlo]at h9;generalize F.m.types.length=n0 at *;generalize F.m.imps.length=n1 at *;generalize F.m.funs.length=n2 at *;generalize F.m.mems.length=n3 at *;generalize F.m.globs.length=n4 at *;generalize F.m.exps.length=n5 at *;generalize F.m.datas.length=n6 at *;generalize F.m.cus.length=n7 at *;generalize F.lo.length=nlo at *;obtain⟨j0,j2,j3,j4,j6,j9⟩:W.cell? ⟨F.G,0,none⟩=some (.slice A0 n0 c0)∧W.cell? ⟨F.G,2,none⟩=some (.slice A2 n2 c2)∧W.cell? ⟨F.G,3,none⟩=some (.slice A3 n3 c3)∧W.cell? ⟨F.G,4,none⟩=some (.slice A4 n4 c4)∧W.cell? ⟨F.G,6,none⟩=some (.slice A6 n6 c6)∧W.cell? ⟨F.G,9,none⟩=some (.slice A9' nlo c9'):=⟨HY.out W (bR _ _) 0,HY.out W (bR _ _) 2,HY.out W (bR _ _) 3,HY.out W (bR _ _) 4,HY.out W (bR _ _) 6,h9⟩;clear h hgs hk hF hW hbw ha ho hv hlo h9 HY;rcases(show decide (a<(n3:Int))=true∨decide (a<(n3:Int))=false by cases decide (a<(n3:Int)) <;> simp) with da|da
 all_goals
  rw[da];go_enter Tryz.func88,Tryz.ntmps88
  go_upto_region 1 with (fail)
  rw[← HW.out];go_wp2_with (first|(go_at_call 131;refine(HAC.out _).mono ?_;rintro e w3 ⟨rfl,rfl⟩)|(go_at_call 87;refine(HOC.out _).mono ?_;rintro e w3 ⟨rfl,rfl⟩))
  go_quiet (fail)
  go_wp2;go_ret;exact⟨rfl,Wt HBW.out _⟩):P:=h
theorem ZR {P:Prop}(h:P:=by
 clear h hgs hk hF hW hbw ha ho hv hlo h9 HY;go_enter Tryz.func88,Tryz.ntmps88
 go_upto_region 1 with (fail)
 rw[← HW.out];go_wp2_with (first|(go_at_call 131;refine(HAC.out _).mono ?_;rintro e w3 ⟨rfl,rfl⟩)|(go_at_call 87;refine(HOC.out _).mono ?_;rintro e w3 ⟨rfl,rfl⟩))
 go_quiet (fail)
 go_wp2;go_ret;exact⟨rfl,Wt HBW.out _⟩):P:=h
theorem Zbh {P:Prop}(h:P:=by
 rw[ho]at HOC;have HLB:=hD (dlabel_b hF hgs.1 a);generalize Wi a x.f.length=r at *;clear h hgs hk hF hW hbw ha ho;go_enter Tryz.func88,Tryz.ntmps88
 go_upto_region 1 with (fail)
 rw[← HW.out];go_wp2_with (first|(go_at_call 131;refine(HAC.out _).mono ?_;rintro e w3 ⟨rfl,rfl⟩)|(go_at_call 87;refine(HOC.out _).mono ?_;rintro e w3 ⟨rfl,rfl⟩)|(go_at_call 133;refine(HLB.out).mono ?_;rintro e w4 ⟨A2,n2,c2,rfl,hb4⟩))
 go_ret;exact⟨rfl,Wa HBW.out hb4⟩):P:=h
theorem Wk.dl9 {F:Wx} {w:World} {x:Ws} (h:Wk F w x) (hF:F.ref):w.cell? ⟨F.G,9,none⟩=some F.lov:=by
 exact ZbT
theorem VU {F:Wx} {w:World} {x:Ws} (h:Wk F w x) (op a b n:Int) (Al:Option Addr) (nl cl:Nat):∃ W,W=w.alloc (.cells #[.int .i64 op,.int .i64 a,.int .i64 b,.int .u64 n,.slice Al nl cl] 25)∧Below w.heap.size w W∧(Wk F W x∧Wz F w x W x) ∧
 ∀ wz,Below W.heap.size W wz→wz.cell? ⟨w.heap.size,0,none⟩=some (.int .i64 op)∧wz.cell? ⟨w.heap.size,1,none⟩=some (.int .i64 a)∧wz.cell? ⟨w.heap.size,2,none⟩=some (.int .i64 b)∧wz.cell? ⟨w.heap.size,4,none⟩=some (.slice Al nl cl):=by
 refine⟨_,rfl,(bR _ _).alloc (nR _) _,h.alloc _,fun wz hz=>?_⟩;have hc:∀ j:Nat,wz.cell? ⟨w.heap.size,j,none⟩=(#[.int .i64 op,.int .i64 a,.int .i64 b,.int .u64 n,.slice Al nl cl]:Array Value)[j]?:=fun j=>(hz.cell (p:=⟨w.heap.size,j,none⟩) (by rw[Wj];exact Nat.lt_succ_self _)).trans (wN w _ _ j);exact⟨hc 0,hc 1,hc 2,hc 4⟩
theorem dindex_12 {F:Wx} {w:World} {x:Ws} (hF:F.ref) (h:Wk F w x) (a b n:Int) (Al:Option Addr) (nl cl:Nat) :
 Calls Tryz.prog 88 #[.pointer (some ⟨F.G,0,none⟩),.agg #[.int .i64 12,.int .i64 a,.int .i64 b,.int .u64 n,.slice Al nl cl]] w (Wh (Wi a x.f.length) w):=by
 obtain⟨W,hW,hbw,hgs,hk⟩:=VU h 12 a b n Al nl cl;have HBW:=hD hbw;have HG:=hD hgs.1;have HKX:=hD hk;obtain⟨k0,k1,k2,k4⟩:=HKX.out W (bR _ _);have HAC:=hD (fun w=>Wn 12 w);have HOC:=hD (fun w=>Wl 12 w);obtain⟨⟨a1,a2,a3,a4⟩,ha⟩:∃ q,WK 12=q:=⟨_,rfl⟩;rw[ha]at HAC;simp only at HAC;have HF:=hD hF;have HW:=hD hW;have ho:WF 12=false:=by decide
 exact Zbh
theorem dindex_13 {F:Wx} {w:World} {x:Ws} (hF:F.ref) (h:Wk F w x) (a b n:Int) (Al:Option Addr) (nl cl:Nat) :
 Calls Tryz.prog 88 #[.pointer (some ⟨F.G,0,none⟩),.agg #[.int .i64 13,.int .i64 a,.int .i64 b,.int .u64 n,.slice Al nl cl]] w (Wh (Wi a x.f.length) w):=by
 obtain⟨W,hW,hbw,hgs,hk⟩:=VU h 13 a b n Al nl cl;have HBW:=hD hbw;have HG:=hD hgs.1;have HKX:=hD hk;obtain⟨k0,k1,k2,k4⟩:=HKX.out W (bR _ _);have HAC:=hD (fun w=>Wn 13 w);have HOC:=hD (fun w=>Wl 13 w);obtain⟨⟨a1,a2,a3,a4⟩,ha⟩:∃ q,WK 13=q:=⟨_,rfl⟩;rw[ha]at HAC;simp only at HAC;have HF:=hD hF;have HW:=hD hW;have ho:WF 13=false:=by decide
 exact Zbh
theorem dindex_14 {F:Wx} {w:World} {x:Ws} (hF:F.ref) (h:Wk F w x) (a b n:Int) (Al:Option Addr) (nl cl:Nat) (l:List Int) (hl:nl=l.length) (hL:Wf (Wq F w x) w (.slice Al nl cl) l) :
 Calls Tryz.prog 88 #[.pointer (some ⟨F.G,0,none⟩),.agg #[.int .i64 14,.int .i64 a,.int .i64 b,.int .u64 n,.slice Al nl cl]] w (Wh (l.all fun k=>Wi k x.f.length) w):=by
 obtain⟨W,hW,hbw,hgs,hk⟩:=VU h 14 a b n Al nl cl;have HBW:=hD hbw;have HG:=hD hgs.1;have HKX:=hD hk;obtain⟨k0,k1,k2,k4⟩:=HKX.out W (bR _ _);have HAC:=hD (fun w=>Wn 14 w);have HOC:=hD (fun w=>Wl 14 w);obtain⟨⟨a1,a2,a3,a4⟩,ha⟩:∃ q,WK 14=q:=⟨_,rfl⟩;rw[ha]at HAC;simp only at HAC;have HF:=hD hF;have HW:=hD hW;have ho:WF 14=false:=by decide
 rw[ho]at HOC;have hLW:=hgs.2.ints hL;have HLB:=hD fun (wz:World) (hz:Below W.heap.size W wz) (k:Int)=>dlabel_b hF (hgs.1.below hz).1 k;have hln:nl≤maxLen:=by obtain⟨_,_,he,h1,_⟩:=hL;simp only[vI]at he;omega
 unfold maxLen at hln;have HLL:=hD hLW;have HNL:=hD hl;generalize x.f.length=m at *;clear h hgs hk hF hW hbw ha ho hL hLW hl;go_enter Tryz.func88,Tryz.ntmps88
 go_upto_region 1 with (fail)
 rw[← HW.out];go_wp2_with (first|(go_at_call 131;refine(HAC.out _).mono ?_;rintro e w3 ⟨rfl,rfl⟩)|(go_at_call 87;refine(HOC.out _).mono ?_;rintro e w3 ⟨rfl,rfl⟩))
 go_loopw [62] (fun i wr=>∃ k:Nat,k≤nl∧i=.int .i64 (k:Int)∧Hid (Below W.heap.size W wr)∧Hid (∀ j,j<k→Wi (l.getD j 0) m=true)) (fun i _=>nl - (intOf i).toNat)
 case atStart=>exact⟨0,nZ _,rfl,hD (bR _ _),hD fun j hj=>absurd hj (Nat.not_lt_zero _)⟩
 case round =>
  obtain⟨w0,rfl⟩:∃ w0,w0=wr:=⟨_,rfl⟩;obtain⟨k,hk,rfl,HB,HA⟩:=hrel;clear k0 k1 k2 k4;obtain⟨k0,k1,k2,k4⟩:=HKX.out w0 HB.out;by_cases hlt:k<nl
  ·have hd:decide (k<nl)=true:=by simp;omega
   obtain⟨g,o,c',he,_,_⟩:=HLL.out.some_ (by rw[← HNL.out];omega);simp only[vI]at he;obtain⟨rfl,-,rfl⟩:=he;have hat:=HLL.out.at_ k hlt;have hgl:=wL W _ hat;replace hat:=(HB.out.cell (p:=⟨g,o+k,none⟩) hgl).trans hat;have HLK:=hD (HLB.out w0 HB.out (l.getD k 0));have hstep:Wi (l.getD k 0) m=true→∀ j,j<k+1→Wi (l.getD j 0) m=true:=fun hz j hj=>by
    by_cases e:j=k
    ·rw[e];exact hz
    ·exact HA.out j (by omega)
   have hbad:Wi (l.getD k 0) m=false→(l.all fun k=>Wi k m)=false:=fun hz=>by
    rw[List.all_eq_false];exact⟨l.getD k 0,by rw[List.getD_eq_getElem?_getD,List.getElem?_eq_getElem (by rw[← HNL.out];exact hlt)];exact List.getElem_mem _,by rw[hz];decide⟩
   have HST:=hD hstep;have HBD:=hD hbad;clear hstep hbad;generalize l.getD k 0=z at hat HLK HST HBD;cases hz:Wi z m with
   | true =>
    rw[hz]at HLK HST HBD;have HST2:=hD (HST.out rfl);clear hz HST HBD;go_wp2_with (go_at_call 133;refine(HLK.out).mono ?_;rintro e w4 ⟨A2,n2,c2,rfl,hb4⟩)
    go_roundw
    case rel=>exact⟨k+1,by omega,by go_num,hD (Wa HB.out hb4),HST2⟩
    case measure=>simp[intOf];omega
   | false =>
    rw[hz]at HLK HST HBD;have HBD2:=hD (HBD.out rfl);clear hz HST HBD;go_wp2_with (go_at_call 133;refine(HLK.out).mono ?_;rintro e w4 ⟨A2,n2,c2,rfl,hb4⟩)
    go_ret;exact⟨WV HBD2.out.symm,Wa HBW.out (Wa HB.out hb4)⟩
  ·have hd:decide (k<nl)=false:=by simp;omega
   have hall:(l.all fun k=>Wi k m)=true:=by
    rw[List.all_eq_true];intro y hy;obtain⟨j,hj,rfl⟩:=List.getElem_of_mem hy;have h9:=HA.out j (by rw[← HNL.out]at hj;omega)
    rwa [List.getD_eq_getElem?_getD,List.getElem?_eq_getElem hj]at h9
   have HAL:=hD hall;clear hall;go_wp2;go_ret;exact⟨WV HAL.out.symm,Wa HBW.out HB.out⟩
theorem dindex_opens {F:Wx} {w:World} {x:Ws} (hF:F.ref) (h:Wk F w x) (op a b n:Int) (Al:Option Addr) (nl cl:Nat) (hop:WF op=true) :
 Calls Tryz.prog 88 #[.pointer (some ⟨F.G,0,none⟩),.agg #[.int .i64 op,.int .i64 a,.int .i64 b,.int .u64 n,.slice Al nl cl]] w (Wh ((Wv F.m a).isSome) w):=by
 obtain⟨W,hW,hbw,hgs,hk⟩:=VU h op a b n Al nl cl;have HBW:=hD hbw;have HG:=hD hgs.1;have HKX:=hD hk;obtain⟨k0,k1,k2,k4⟩:=HKX.out W (bR _ _);have HAC:=hD (fun w=>Wn op w);have HOC:=hD (fun w=>Wl op w);obtain⟨⟨a1,a2,a3,a4⟩,ha⟩:∃ q,WK op=q:=⟨_,rfl⟩;rw[ha]at HAC;simp only at HAC;have HF:=hD hF;have HW:=hD hW;have ho:WF op=true:=hop;rw[ho]at HOC;have HCA:=hD (fun wz (hz:Below W.heap.size W wz)=>dblock_in wz F.v F.m (K:=Wq F W x) (fun k hk=>Ve hk.1 hz.size) (HG.out.reads.mod.keep (We.below hz fun _ hk=>hk.1) fun _ hk=>hk) a);have h9:=HG.out.dl9 hF;obtain⟨A0,c0,A1,c1,A2,c2,A3,c3,A4,c4,A5,c5,A6,c6,A7,c7,hv⟩:=Wr HG.out.reads.mod;obtain⟨A9',c9',hlo,_⟩:=HG.out.reads.loc.form;have HY:Hid (∀ wz,Below W.heap.size W wz→∀ j,wz.cell? ⟨F.G,j,none⟩=(WN F x)[j]?):=hD fun wz hz j=>(HG.out.below hz).1.cell j;unfold WN at HY;rw[hF.1,hv]at HY;simp only[if_true]at HY;rw[hv]at HCA;simp only[Mv.cells]at HCA;generalize F.m.types.length=n0 at *;generalize F.m.imps.length=n1 at *;generalize F.m.funs.length=n2 at *;generalize F.m.mems.length=n3 at *;generalize F.m.globs.length=n4 at *;generalize F.m.exps.length=n5 at *;generalize F.m.datas.length=n6 at *;generalize F.m.cus.length=n7 at *;have HS:Hid (∀ wz,Below W.heap.size W wz→wz.cell? ⟨F.G,0,none⟩=some (.slice A0 n0 c0)∧wz.cell? ⟨F.G,1,none⟩=some (.slice A1 n1 c1)∧wz.cell? ⟨F.G,2,none⟩=some (.slice A2 n2 c2)∧wz.cell? ⟨F.G,3,none⟩=some (.slice A3 n3 c3)∧wz.cell? ⟨F.G,4,none⟩=some (.slice A4 n4 c4)∧wz.cell? ⟨F.G,5,none⟩=some (.slice A5 n5 c5)∧wz.cell? ⟨F.G,6,none⟩=some (.slice A6 n6 c6)∧wz.cell? ⟨F.G,7,none⟩=some (.slice A7 n7 c7)∧wz.cell? ⟨w.heap.size,1,none⟩=some (.int .i64 a)):=hD fun wz hz=>⟨HY.out wz hz 0,HY.out wz hz 1,HY.out wz hz 2,HY.out wz hz 3,HY.out wz hz 4,HY.out wz hz 5,HY.out wz hz 6,HY.out wz hz 7,(HKX.out wz hz).2.1⟩;generalize Wv F.m a=t at HCA ⊢;clear h hgs hk hF hW hbw ha ho hv hlo h9 HY hop;go_enter Tryz.func88,Tryz.ntmps88
 go_upto_region 1 with (fail)
 rw[← HW.out]
 go_upto_region 3 with (first|(go_at_call 131;refine(HAC.out _).mono ?_;rintro e w3 ⟨rfl,rfl⟩)|(go_at_call 87;refine(HOC.out _).mono ?_;rintro e w3 ⟨rfl,rfl⟩))
 clear k0 k1 k2 k4;obtain⟨b0,b1,b2,b3,b4,b5,b6,b7,k1⟩:=HS.out W (bR W.heap.size W)
 go_region_held3 (fun wz=>wz.cell? ⟨F.G,0,none⟩=some (.slice A0 n0 c0)∧wz.cell? ⟨F.G,1,none⟩=some (.slice A1 n1 c1)∧wz.cell? ⟨F.G,2,none⟩=some (.slice A2 n2 c2)∧wz.cell? ⟨F.G,3,none⟩=some (.slice A3 n3 c3)∧wz.cell? ⟨F.G,4,none⟩=some (.slice A4 n4 c4)∧wz.cell? ⟨F.G,5,none⟩=some (.slice A5 n5 c5)∧wz.cell? ⟨F.G,6,none⟩=some (.slice A6 n6 c6)∧wz.cell? ⟨F.G,7,none⟩=some (.slice A7 n7 c7)∧wz.cell? ⟨w.heap.size,1,none⟩=some (.int .i64 a))
  (first|go_keep|exact⟨b0,b1,b2,b3,b4,b5,b6,b7,k1⟩|exact HS.out _ HB1.out|exact HS.out _ (Wb HB1.out _)|exact HS.out _ (WL HB1.out (Below.size (bR W.heap.size W))))
  ((go_at_call 132;refine(HCA.out _ (by first|exact Wa (bR W.heap.size W) ((bR _ _).drew)|exact Wa (bR W.heap.size W) (Wb ((bR _ _).drew) _))).mono ?_;rintro e w1 ⟨p,q,rfl,hp,hq,hb1⟩;obtain⟨A8,e8,rfl,_,_⟩:=hp.form;obtain⟨A9,e9,rfl,_,_⟩:=hq.form;have HB1:Hid (Below W.heap.size W w1):=hD (by first|exact Wa (Wa (bR W.heap.size W) ((bR _ _).drew)) hb1|exact Wa (Wa (bR W.heap.size W) (Wb ((bR _ _).drew) _)) hb1);(first|(have hN:=Vj (W).drew (.cells #[.slice none 0 0,.slice none 0 0] 40);have hZ:w1.heap[(W).heap.size]?=some (.cells #[.slice none 0 0,.slice none 0 0] 40 (0,0)):=(hb1.block (W).heap.size (Array.getElem?_eq_some_iff.1 hN).1).trans hN;clear hN;have z0:=WG hZ 0;have z1:=WG hZ 1;have f0:=Va hZ 0;have f1:=Va hZ 1;simp only[List.getElem?_toArray,List.getElem?_cons_zero,List.getElem?_cons_succ]at z0 z1;clear hZ)|skip);clear hp hq hb1))
 ·go_wp2;go_ret;exact⟨rfl,Wa HBW.out (Wb HB1.out _)⟩
 ·go_wp2;go_ret;exact⟨rfl,Wa HBW.out (WL HB1.out (Below.size (bR W.heap.size W)))⟩
theorem dindex_16 {F:Wx} {w:World} {x:Ws} (hF:F.ref) (h:Wk F w x) (a b n:Int) (Al:Option Addr) (nl cl:Nat) (hs:Vq F.m) :
 Calls Tryz.prog 88 #[.pointer (some ⟨F.G,0,none⟩),.agg #[.int .i64 16,.int .i64 a,.int .i64 b,.int .u64 n,.slice Al nl cl]] w (Wh ((WB F.m a).isSome) w):=by
 obtain⟨W,hW,hbw,hgs,hk⟩:=VU h 16 a b n Al nl cl;have HBW:=hD hbw;have HG:=hD hgs.1;have HKX:=hD hk;obtain⟨k0,k1,k2,k4⟩:=HKX.out W (bR _ _);have HAC:=hD (fun w=>Wn 16 w);have HOC:=hD (fun w=>Wl 16 w);obtain⟨⟨a1,a2,a3,a4⟩,ha⟩:∃ q,WK 16=q:=⟨_,rfl⟩;rw[ha]at HAC;simp only at HAC;have HF:=hD hF;have HW:=hD hW;have ho:WF 16=false:=by decide
 exact Zn
theorem dindex_18 {F:Wx} {w:World} {x:Ws} (hF:F.ref) (h:Wk F w x) (a b n:Int) (Al:Option Addr) (nl cl:Nat) (hs:Vq F.m) :
 Calls Tryz.prog 88 #[.pointer (some ⟨F.G,0,none⟩),.agg #[.int .i64 18,.int .i64 a,.int .i64 b,.int .u64 n,.slice Al nl cl]] w (Wh ((WB F.m a).isSome) w):=by
 obtain⟨W,hW,hbw,hgs,hk⟩:=VU h 18 a b n Al nl cl;have HBW:=hD hbw;have HG:=hD hgs.1;have HKX:=hD hk;obtain⟨k0,k1,k2,k4⟩:=HKX.out W (bR _ _);have HAC:=hD (fun w=>Wn 18 w);have HOC:=hD (fun w=>Wl 18 w);obtain⟨⟨a1,a2,a3,a4⟩,ha⟩:∃ q,WK 18=q:=⟨_,rfl⟩;rw[ha]at HAC;simp only at HAC;have HF:=hD hF;have HW:=hD hW;have ho:WF 18=false:=by decide
 exact Zn
theorem dindex_32 {F:Wx} {w:World} {x:Ws} (hF:F.ref) (h:Wk F w x) (a b n:Int) (Al:Option Addr) (nl cl:Nat) :
 Calls Tryz.prog 88 #[.pointer (some ⟨F.G,0,none⟩),.agg #[.int .i64 32,.int .i64 a,.int .i64 b,.int .u64 n,.slice Al nl cl]] w (Wh (decide (a<(F.lo.length:Int))) w):=by
 obtain⟨W,hW,hbw,hgs,hk⟩:=VU h 32 a b n Al nl cl;have HBW:=hD hbw;have HG:=hD hgs.1;have HKX:=hD hk;obtain⟨k0,k1,k2,k4⟩:=HKX.out W (bR _ _);have HAC:=hD (fun w=>Wn 32 w);have HOC:=hD (fun w=>Wl 32 w);obtain⟨⟨a1,a2,a3,a4⟩,ha⟩:∃ q,WK 32=q:=⟨_,rfl⟩;rw[ha]at HAC;simp only at HAC;have HF:=hD hF;have HW:=hD hW;have ho:WF 32=false:=by decide
 exact Ze
theorem dindex_33 {F:Wx} {w:World} {x:Ws} (hF:F.ref) (h:Wk F w x) (a b n:Int) (Al:Option Addr) (nl cl:Nat) :
 Calls Tryz.prog 88 #[.pointer (some ⟨F.G,0,none⟩),.agg #[.int .i64 33,.int .i64 a,.int .i64 b,.int .u64 n,.slice Al nl cl]] w (Wh (decide (a<(F.lo.length:Int))) w):=by
 obtain⟨W,hW,hbw,hgs,hk⟩:=VU h 33 a b n Al nl cl;have HBW:=hD hbw;have HG:=hD hgs.1;have HKX:=hD hk;obtain⟨k0,k1,k2,k4⟩:=HKX.out W (bR _ _);have HAC:=hD (fun w=>Wn 33 w);have HOC:=hD (fun w=>Wl 33 w);obtain⟨⟨a1,a2,a3,a4⟩,ha⟩:∃ q,WK 33=q:=⟨_,rfl⟩;rw[ha]at HAC;simp only at HAC;have HF:=hD hF;have HW:=hD hW;have ho:WF 33=false:=by decide
 exact Ze
theorem dindex_34 {F:Wx} {w:World} {x:Ws} (hF:F.ref) (h:Wk F w x) (a b n:Int) (Al:Option Addr) (nl cl:Nat) :
 Calls Tryz.prog 88 #[.pointer (some ⟨F.G,0,none⟩),.agg #[.int .i64 34,.int .i64 a,.int .i64 b,.int .u64 n,.slice Al nl cl]] w (Wh (decide (a<(F.lo.length:Int))) w):=by
 obtain⟨W,hW,hbw,hgs,hk⟩:=VU h 34 a b n Al nl cl;have HBW:=hD hbw;have HG:=hD hgs.1;have HKX:=hD hk;obtain⟨k0,k1,k2,k4⟩:=HKX.out W (bR _ _);have HAC:=hD (fun w=>Wn 34 w);have HOC:=hD (fun w=>Wl 34 w);obtain⟨⟨a1,a2,a3,a4⟩,ha⟩:∃ q,WK 34=q:=⟨_,rfl⟩;rw[ha]at HAC;simp only at HAC;have HF:=hD hF;have HW:=hD hW;have ho:WF 34=false:=by decide
 exact Ze
theorem dindex_35 {F:Wx} {w:World} {x:Ws} (hF:F.ref) (h:Wk F w x) (a b n:Int) (Al:Option Addr) (nl cl:Nat) :
 Calls Tryz.prog 88 #[.pointer (some ⟨F.G,0,none⟩),.agg #[.int .i64 35,.int .i64 a,.int .i64 b,.int .u64 n,.slice Al nl cl]] w (Wh (decide (a<(F.m.globs.length:Int))) w):=by
 obtain⟨W,hW,hbw,hgs,hk⟩:=VU h 35 a b n Al nl cl;have HBW:=hD hbw;have HG:=hD hgs.1;have HKX:=hD hk;obtain⟨k0,k1,k2,k4⟩:=HKX.out W (bR _ _);have HAC:=hD (fun w=>Wn 35 w);have HOC:=hD (fun w=>Wl 35 w);obtain⟨⟨a1,a2,a3,a4⟩,ha⟩:∃ q,WK 35=q:=⟨_,rfl⟩;rw[ha]at HAC;simp only at HAC;have HF:=hD hF;have HW:=hD hW;have ho:WF 35=false:=by decide
 exact Ze
theorem dindex_36 {F:Wx} {w:World} {x:Ws} (hF:F.ref) (h:Wk F w x) (a b n:Int) (Al:Option Addr) (nl cl:Nat) :
 Calls Tryz.prog 88 #[.pointer (some ⟨F.G,0,none⟩),.agg #[.int .i64 36,.int .i64 a,.int .i64 b,.int .u64 n,.slice Al nl cl]] w (Wh (decide (a<(F.m.globs.length:Int))) w):=by
 obtain⟨W,hW,hbw,hgs,hk⟩:=VU h 36 a b n Al nl cl;have HBW:=hD hbw;have HG:=hD hgs.1;have HKX:=hD hk;obtain⟨k0,k1,k2,k4⟩:=HKX.out W (bR _ _);have HAC:=hD (fun w=>Wn 36 w);have HOC:=hD (fun w=>Wl 36 w);obtain⟨⟨a1,a2,a3,a4⟩,ha⟩:∃ q,WK 36=q:=⟨_,rfl⟩;rw[ha]at HAC;simp only at HAC;have HF:=hD hF;have HW:=hD hW;have ho:WF 36=false:=by decide
 exact Ze
theorem dindex_64521 {F:Wx} {w:World} {x:Ws} (hF:F.ref) (h:Wk F w x) (a b n:Int) (Al:Option Addr) (nl cl:Nat) :
 Calls Tryz.prog 88 #[.pointer (some ⟨F.G,0,none⟩),.agg #[.int .i64 64521,.int .i64 a,.int .i64 b,.int .u64 n,.slice Al nl cl]] w (Wh (decide (a<(F.m.datas.length:Int))) w):=by
 obtain⟨W,hW,hbw,hgs,hk⟩:=VU h 64521 a b n Al nl cl;have HBW:=hD hbw;have HG:=hD hgs.1;have HKX:=hD hk;obtain⟨k0,k1,k2,k4⟩:=HKX.out W (bR _ _);have HAC:=hD (fun w=>Wn 64521 w);have HOC:=hD (fun w=>Wl 64521 w);obtain⟨⟨a1,a2,a3,a4⟩,ha⟩:∃ q,WK 64521=q:=⟨_,rfl⟩;rw[ha]at HAC;simp only at HAC;have HF:=hD hF;have HW:=hD hW;have ho:WF 64521=false:=by decide
 exact Ze
theorem dindex_64520 {F:Wx} {w:World} {x:Ws} (hF:F.ref) (h:Wk F w x) (a b n:Int) (Al:Option Addr) (nl cl:Nat) :
 Calls Tryz.prog 88 #[.pointer (some ⟨F.G,0,none⟩),.agg #[.int .i64 64520,.int .i64 a,.int .i64 b,.int .u64 n,.slice Al nl cl]] w (Wh (decide (a<(F.m.mems.length:Int)) && decide (b<(F.m.datas.length:Int))) w):=by
 obtain⟨W,hW,hbw,hgs,hk⟩:=VU h 64520 a b n Al nl cl;have HBW:=hD hbw;have HG:=hD hgs.1;have HKX:=hD hk;obtain⟨k0,k1,k2,k4⟩:=HKX.out W (bR _ _);have HAC:=hD (fun w=>Wn 64520 w);have HOC:=hD (fun w=>Wl 64520 w);obtain⟨⟨a1,a2,a3,a4⟩,ha⟩:∃ q,WK 64520=q:=⟨_,rfl⟩;rw[ha]at HAC;simp only at HAC;have HF:=hD hF;have HW:=hD hW;have ho:WF 64520=false:=by decide
 exact Zz
theorem dindex_64522 {F:Wx} {w:World} {x:Ws} (hF:F.ref) (h:Wk F w x) (a b n:Int) (Al:Option Addr) (nl cl:Nat) :
 Calls Tryz.prog 88 #[.pointer (some ⟨F.G,0,none⟩),.agg #[.int .i64 64522,.int .i64 a,.int .i64 b,.int .u64 n,.slice Al nl cl]] w (Wh (decide (a<(F.m.mems.length:Int)) && decide (b<(F.m.mems.length:Int))) w):=by
 obtain⟨W,hW,hbw,hgs,hk⟩:=VU h 64522 a b n Al nl cl;have HBW:=hD hbw;have HG:=hD hgs.1;have HKX:=hD hk;obtain⟨k0,k1,k2,k4⟩:=HKX.out W (bR _ _);have HAC:=hD (fun w=>Wn 64522 w);have HOC:=hD (fun w=>Wl 64522 w);obtain⟨⟨a1,a2,a3,a4⟩,ha⟩:∃ q,WK 64522=q:=⟨_,rfl⟩;rw[ha]at HAC;simp only at HAC;have HF:=hD hF;have HW:=hD hW;have ho:WF 64522=false:=by decide
 exact Zz
theorem dindex_63 {F:Wx} {w:World} {x:Ws} (hF:F.ref) (h:Wk F w x) (a b n:Int) (Al:Option Addr) (nl cl:Nat) :
 Calls Tryz.prog 88 #[.pointer (some ⟨F.G,0,none⟩),.agg #[.int .i64 63,.int .i64 a,.int .i64 b,.int .u64 n,.slice Al nl cl]] w (Wh (decide (a<(F.m.mems.length:Int))) w):=by
 obtain⟨W,hW,hbw,hgs,hk⟩:=VU h 63 a b n Al nl cl;have HBW:=hD hbw;have HG:=hD hgs.1;have HKX:=hD hk;obtain⟨k0,k1,k2,k4⟩:=HKX.out W (bR _ _);have HAC:=hD (fun w=>Wn 63 w);have HOC:=hD (fun w=>Wl 63 w);obtain⟨⟨a1,a2,a3,a4⟩,ha⟩:∃ q,WK 63=q:=⟨_,rfl⟩;rw[ha]at HAC;simp only at HAC;have HF:=hD hF;have HW:=hD hW;have ho:WF 63=false:=by decide
 rw[ho]at HOC;have h9:=HG.out.dl9 hF;obtain⟨A0,c0,A1,c1,A2,c2,A3,c3,A4,c4,A5,c5,A6,c6,A7,c7,hv⟩:=Wr HG.out.reads.mod;obtain⟨A9',c9',hlo,_⟩:=HG.out.reads.loc.form;have HY:Hid (∀ wz,Below W.heap.size W wz→∀ j,wz.cell? ⟨F.G,j,none⟩=(WN F x)[j]?):=hD fun wz hz j=>(HG.out.below hz).1.cell j;unfold WN at HY;rw[hF.1,hv]at HY;simp only[if_true]at HY;rw[hlo]at h9;generalize F.m.types.length=n0 at *;generalize F.m.imps.length=n1 at *;generalize F.m.funs.length=n2 at *;generalize F.m.mems.length=n3 at *;generalize F.m.globs.length=n4 at *;generalize F.m.exps.length=n5 at *;generalize F.m.datas.length=n6 at *;generalize F.m.cus.length=n7 at *;generalize F.lo.length=nlo at *;obtain⟨j0,j2,j3,j4,j6,j9⟩:W.cell? ⟨F.G,0,none⟩=some (.slice A0 n0 c0)∧W.cell? ⟨F.G,2,none⟩=some (.slice A2 n2 c2)∧W.cell? ⟨F.G,3,none⟩=some (.slice A3 n3 c3)∧W.cell? ⟨F.G,4,none⟩=some (.slice A4 n4 c4)∧W.cell? ⟨F.G,6,none⟩=some (.slice A6 n6 c6)∧W.cell? ⟨F.G,9,none⟩=some (.slice A9' nlo c9'):=⟨HY.out W (bR _ _) 0,HY.out W (bR _ _) 2,HY.out W (bR _ _) 3,HY.out W (bR _ _) 4,HY.out W (bR _ _) 6,h9⟩;have d0:decide (0<a1)=false:=by have h9:(WK 63).1=a1:=congrArg Prod.fst ha;rw[← h9];decide
 exact ZR
theorem dindex_64 {F:Wx} {w:World} {x:Ws} (hF:F.ref) (h:Wk F w x) (a b n:Int) (Al:Option Addr) (nl cl:Nat) :
 Calls Tryz.prog 88 #[.pointer (some ⟨F.G,0,none⟩),.agg #[.int .i64 64,.int .i64 a,.int .i64 b,.int .u64 n,.slice Al nl cl]] w (Wh (decide (a<(F.m.mems.length:Int))) w):=by
 obtain⟨W,hW,hbw,hgs,hk⟩:=VU h 64 a b n Al nl cl;have HBW:=hD hbw;have HG:=hD hgs.1;have HKX:=hD hk;obtain⟨k0,k1,k2,k4⟩:=HKX.out W (bR _ _);have HAC:=hD (fun w=>Wn 64 w);have HOC:=hD (fun w=>Wl 64 w);obtain⟨⟨a1,a2,a3,a4⟩,ha⟩:∃ q,WK 64=q:=⟨_,rfl⟩;rw[ha]at HAC;simp only at HAC;have HF:=hD hF;have HW:=hD hW;have ho:WF 64=false:=by decide
 rw[ho]at HOC;have h9:=HG.out.dl9 hF;obtain⟨A0,c0,A1,c1,A2,c2,A3,c3,A4,c4,A5,c5,A6,c6,A7,c7,hv⟩:=Wr HG.out.reads.mod;obtain⟨A9',c9',hlo,_⟩:=HG.out.reads.loc.form;have HY:Hid (∀ wz,Below W.heap.size W wz→∀ j,wz.cell? ⟨F.G,j,none⟩=(WN F x)[j]?):=hD fun wz hz j=>(HG.out.below hz).1.cell j;unfold WN at HY;rw[hF.1,hv]at HY;simp only[if_true]at HY;rw[hlo]at h9;generalize F.m.types.length=n0 at *;generalize F.m.imps.length=n1 at *;generalize F.m.funs.length=n2 at *;generalize F.m.mems.length=n3 at *;generalize F.m.globs.length=n4 at *;generalize F.m.exps.length=n5 at *;generalize F.m.datas.length=n6 at *;generalize F.m.cus.length=n7 at *;generalize F.lo.length=nlo at *;obtain⟨j0,j2,j3,j4,j6,j9⟩:W.cell? ⟨F.G,0,none⟩=some (.slice A0 n0 c0)∧W.cell? ⟨F.G,2,none⟩=some (.slice A2 n2 c2)∧W.cell? ⟨F.G,3,none⟩=some (.slice A3 n3 c3)∧W.cell? ⟨F.G,4,none⟩=some (.slice A4 n4 c4)∧W.cell? ⟨F.G,6,none⟩=some (.slice A6 n6 c6)∧W.cell? ⟨F.G,9,none⟩=some (.slice A9' nlo c9'):=⟨HY.out W (bR _ _) 0,HY.out W (bR _ _) 2,HY.out W (bR _ _) 3,HY.out W (bR _ _) 4,HY.out W (bR _ _) 6,h9⟩;have d0:decide (0<a1)=false:=by have h9:(WK 64).1=a1:=congrArg Prod.fst ha;rw[← h9];decide
 exact ZR
theorem dindex_64523 {F:Wx} {w:World} {x:Ws} (hF:F.ref) (h:Wk F w x) (a b n:Int) (Al:Option Addr) (nl cl:Nat) :
 Calls Tryz.prog 88 #[.pointer (some ⟨F.G,0,none⟩),.agg #[.int .i64 64523,.int .i64 a,.int .i64 b,.int .u64 n,.slice Al nl cl]] w (Wh (decide (a<(F.m.mems.length:Int))) w):=by
 obtain⟨W,hW,hbw,hgs,hk⟩:=VU h 64523 a b n Al nl cl;have HBW:=hD hbw;have HG:=hD hgs.1;have HKX:=hD hk;obtain⟨k0,k1,k2,k4⟩:=HKX.out W (bR _ _);have HAC:=hD (fun w=>Wn 64523 w);have HOC:=hD (fun w=>Wl 64523 w);obtain⟨⟨a1,a2,a3,a4⟩,ha⟩:∃ q,WK 64523=q:=⟨_,rfl⟩;rw[ha]at HAC;simp only at HAC;have HF:=hD hF;have HW:=hD hW;have ho:WF 64523=false:=by decide
 rw[ho]at HOC;have h9:=HG.out.dl9 hF;obtain⟨A0,c0,A1,c1,A2,c2,A3,c3,A4,c4,A5,c5,A6,c6,A7,c7,hv⟩:=Wr HG.out.reads.mod;obtain⟨A9',c9',hlo,_⟩:=HG.out.reads.loc.form;have HY:Hid (∀ wz,Below W.heap.size W wz→∀ j,wz.cell? ⟨F.G,j,none⟩=(WN F x)[j]?):=hD fun wz hz j=>(HG.out.below hz).1.cell j;unfold WN at HY;rw[hF.1,hv]at HY;simp only[if_true]at HY;rw[hlo]at h9;generalize F.m.types.length=n0 at *;generalize F.m.imps.length=n1 at *;generalize F.m.funs.length=n2 at *;generalize F.m.mems.length=n3 at *;generalize F.m.globs.length=n4 at *;generalize F.m.exps.length=n5 at *;generalize F.m.datas.length=n6 at *;generalize F.m.cus.length=n7 at *;generalize F.lo.length=nlo at *;obtain⟨j0,j2,j3,j4,j6,j9⟩:W.cell? ⟨F.G,0,none⟩=some (.slice A0 n0 c0)∧W.cell? ⟨F.G,2,none⟩=some (.slice A2 n2 c2)∧W.cell? ⟨F.G,3,none⟩=some (.slice A3 n3 c3)∧W.cell? ⟨F.G,4,none⟩=some (.slice A4 n4 c4)∧W.cell? ⟨F.G,6,none⟩=some (.slice A6 n6 c6)∧W.cell? ⟨F.G,9,none⟩=some (.slice A9' nlo c9'):=⟨HY.out W (bR _ _) 0,HY.out W (bR _ _) 2,HY.out W (bR _ _) 3,HY.out W (bR _ _) 4,HY.out W (bR _ _) 6,h9⟩;have d0:decide (0<a1)=false:=by have h9:(WK 64523).1=a1:=congrArg Prod.fst ha;rw[← h9];decide
 exact ZR
theorem dindex_acc {F:Wx} {w:World} {x:Ws} (hF:F.ref) (h:Wk F w x) (op a b n:Int) (Al:Option Addr) (nl cl:Nat) (hac:0<(WK op).1) :
 Calls Tryz.prog 88 #[.pointer (some ⟨F.G,0,none⟩),.agg #[.int .i64 op,.int .i64 a,.int .i64 b,.int .u64 n,.slice Al nl cl]] w (Wh (decide (a<(F.m.mems.length:Int))) w):=by
 obtain⟨W,hW,hbw,hgs,hk⟩:=VU h op a b n Al nl cl;have HBW:=hD hbw;have HG:=hD hgs.1;have HKX:=hD hk;obtain⟨k0,k1,k2,k4⟩:=HKX.out W (bR _ _);have HAC:=hD (fun w=>Wn op w);have HOC:=hD (fun w=>Wl op w);obtain⟨⟨a1,a2,a3,a4⟩,ha⟩:∃ q,WK op=q:=⟨_,rfl⟩;rw[ha]at HAC;simp only at HAC;have HF:=hD hF;have HW:=hD hW;have ho:WF op=false:=by have hrg:=acc_range op hac;unfold WF;simp;omega
 rw[ho]at HOC;have h9:=HG.out.dl9 hF;obtain⟨A0,c0,A1,c1,A2,c2,A3,c3,A4,c4,A5,c5,A6,c6,A7,c7,hv⟩:=Wr HG.out.reads.mod;obtain⟨A9',c9',hlo,_⟩:=HG.out.reads.loc.form;have HY:Hid (∀ wz,Below W.heap.size W wz→∀ j,wz.cell? ⟨F.G,j,none⟩=(WN F x)[j]?):=hD fun wz hz j=>(HG.out.below hz).1.cell j;unfold WN at HY;rw[hF.1,hv]at HY;simp only[if_true]at HY;rw[hlo]at h9;generalize F.m.types.length=n0 at *;generalize F.m.imps.length=n1 at *;generalize F.m.funs.length=n2 at *;generalize F.m.mems.length=n3 at *;generalize F.m.globs.length=n4 at *;generalize F.m.exps.length=n5 at *;generalize F.m.datas.length=n6 at *;generalize F.m.cus.length=n7 at *;generalize F.lo.length=nlo at *;obtain⟨j0,j2,j3,j4,j6,j9⟩:W.cell? ⟨F.G,0,none⟩=some (.slice A0 n0 c0)∧W.cell? ⟨F.G,2,none⟩=some (.slice A2 n2 c2)∧W.cell? ⟨F.G,3,none⟩=some (.slice A3 n3 c3)∧W.cell? ⟨F.G,4,none⟩=some (.slice A4 n4 c4)∧W.cell? ⟨F.G,6,none⟩=some (.slice A6 n6 c6)∧W.cell? ⟨F.G,9,none⟩=some (.slice A9' nlo c9'):=⟨HY.out W (bR _ _) 0,HY.out W (bR _ _) 2,HY.out W (bR _ _) 3,HY.out W (bR _ _) 4,HY.out W (bR _ _) 6,h9⟩;have hrg:=acc_range op hac;have d0:decide (0<a1)=true:=by rw[ha]at hac;simpa using hac
 have r1:decide ((32:Int)≤op)=true:=by simp;omega
 have r2:decide (op≤34)=false:=by simp;omega
 have q12:(op==12)=false:=by simp;omega
 have q13:(op==13)=false:=by simp;omega
 have q14:(op==14)=false:=by simp;omega
 have q16:(op==16)=false:=by simp;omega
 have q18:(op==18)=false:=by simp;omega
 have q35:(op==35)=false:=by simp;omega
 have q36:(op==36)=false:=by simp;omega
 have q64520:(op==64520)=false:=by simp;omega
 have q64521:(op==64521)=false:=by simp;omega
 have q64522:(op==64522)=false:=by simp;omega
 clear hrg hac;exact ZR
theorem dindex_none {F:Wx} {w:World} {x:Ws} (hF:F.ref) (h:Wk F w x) (op a b n:Int) (Al:Option Addr) (nl cl:Nat) (ho:WF op=false) (hac:¬ 0<(WK op).1) (hn:∀ k:Int,k ∈ [12,13,14,16,18,35,36,64520,64521,64522,63,64,64523]→op≠k) (hr:¬ (32≤op∧op≤34)) :
 Calls Tryz.prog 88 #[.pointer (some ⟨F.G,0,none⟩),.agg #[.int .i64 op,.int .i64 a,.int .i64 b,.int .u64 n,.slice Al nl cl]] w (Wh (true) w):=by
 obtain⟨W,hW,hbw,hgs,hk⟩:=VU h op a b n Al nl cl;have HBW:=hD hbw;have HG:=hD hgs.1;have HKX:=hD hk;obtain⟨k0,k1,k2,k4⟩:=HKX.out W (bR _ _);have HAC:=hD (fun w=>Wn op w);have HOC:=hD (fun w=>Wl op w);obtain⟨⟨a1,a2,a3,a4⟩,ha⟩:∃ q,WK op=q:=⟨_,rfl⟩;rw[ha]at HAC;simp only at HAC;have HF:=hD hF;have HW:=hD hW;rw[ho]at HOC;have h9:=HG.out.dl9 hF;obtain⟨A0,c0,A1,c1,A2,c2,A3,c3,A4,c4,A5,c5,A6,c6,A7,c7,hv⟩:=Wr HG.out.reads.mod;obtain⟨A9',c9',hlo,_⟩:=HG.out.reads.loc.form;have HY:Hid (∀ wz,Below W.heap.size W wz→∀ j,wz.cell? ⟨F.G,j,none⟩=(WN F x)[j]?):=hD fun wz hz j=>(HG.out.below hz).1.cell j;unfold WN at HY;rw[hF.1,hv]at HY;simp only[if_true]at HY;rw[hlo]at h9;generalize F.m.types.length=n0 at *;generalize F.m.imps.length=n1 at *;generalize F.m.funs.length=n2 at *;generalize F.m.mems.length=n3 at *;generalize F.m.globs.length=n4 at *;generalize F.m.exps.length=n5 at *;generalize F.m.datas.length=n6 at *;generalize F.m.cus.length=n7 at *;generalize F.lo.length=nlo at *;obtain⟨j0,j2,j3,j4,j6,j9⟩:W.cell? ⟨F.G,0,none⟩=some (.slice A0 n0 c0)∧W.cell? ⟨F.G,2,none⟩=some (.slice A2 n2 c2)∧W.cell? ⟨F.G,3,none⟩=some (.slice A3 n3 c3)∧W.cell? ⟨F.G,4,none⟩=some (.slice A4 n4 c4)∧W.cell? ⟨F.G,6,none⟩=some (.slice A6 n6 c6)∧W.cell? ⟨F.G,9,none⟩=some (.slice A9' nlo c9'):=⟨HY.out W (bR _ _) 0,HY.out W (bR _ _) 2,HY.out W (bR _ _) 3,HY.out W (bR _ _) 4,HY.out W (bR _ _) 6,h9⟩;have d0:decide (0<a1)=false:=by rw[ha]at hac;simpa using hac
 have hways:decide ((32:Int)≤op)=false∨(decide ((32:Int)≤op)=true∧decide (op≤34)=false):=by simp;omega
 have q12:(op==12)=false:=by have:=hn 12 (by simp);simpa using this
 have q13:(op==13)=false:=by have:=hn 13 (by simp);simpa using this
 have q14:(op==14)=false:=by have:=hn 14 (by simp);simpa using this
 have q16:(op==16)=false:=by have:=hn 16 (by simp);simpa using this
 have q18:(op==18)=false:=by have:=hn 18 (by simp);simpa using this
 have q35:(op==35)=false:=by have:=hn 35 (by simp);simpa using this
 have q36:(op==36)=false:=by have:=hn 36 (by simp);simpa using this
 have q64520:(op==64520)=false:=by have:=hn 64520 (by simp);simpa using this
 have q64521:(op==64521)=false:=by have:=hn 64521 (by simp);simpa using this
 have q64522:(op==64522)=false:=by have:=hn 64522 (by simp);simpa using this
 have q63:(op==63)=false:=by have:=hn 63 (by simp);simpa using this
 have q64:(op==64)=false:=by have:=hn 64 (by simp);simpa using this
 have q64523:(op==64523)=false:=by have:=hn 64523 (by simp);simpa using this
 clear hn hr hac;clear h hgs hk hF hW hbw ha ho hv hlo h9 HY;rcases hways with r1|⟨r1,r2⟩
 all_goals
  go_enter Tryz.func88,Tryz.ntmps88
  go_upto_region 1 with (fail)
  rw[← HW.out];go_wp2_with (first|(go_at_call 131;refine(HAC.out _).mono ?_;rintro e w3 ⟨rfl,rfl⟩)|(go_at_call 87;refine(HOC.out _).mono ?_;rintro e w3 ⟨rfl,rfl⟩))
  go_ret;exact⟨rfl,HBW.out⟩
theorem dindex_any {F:Wx} {w:World} {x:Ws} (hF:F.ref) (h:Wk F w x) (hs:Vq F.m) (op a b n:Int) (l:List Int) (Al:Option Addr) (nl cl:Nat) (hl:nl=l.length) (hL:Wf (Wq F w x) w (.slice Al nl cl) l) :
 Calls Tryz.prog 88 #[.pointer (some ⟨F.G,0,none⟩),.agg #[.int .i64 op,.int .i64 a,.int .i64 b,.int .u64 n,.slice Al nl cl]] w (Wh (V6 F.env x.pl ⟨op,a,b,n,l⟩) w):=by
 have hfl:x.pl.f.length=x.f.length:=by show(x.f.map Fv.fr).length=_;rw[List.length_map]
 unfold V6;rw[hfl];show Calls _ _ _ _ (Wh (if WF op then (Wv F.m a).isSome else _) w);by_cases c0:WF op=true
 ·rw[if_pos c0];exact dindex_opens hF h op a b n Al nl cl c0
 rw[if_neg c0];have c0':WF op=false:=by simpa using c0
 by_cases c1:op=12∨op=13
 ·rw[if_pos c1];rcases c1 with rfl|rfl
  ·exact dindex_12 hF h a b n Al nl cl
  ·exact dindex_13 hF h a b n Al nl cl
 rw[if_neg c1];by_cases c2:op=14
 ·rw[if_pos c2];subst c2;exact dindex_14 hF h a b n Al nl cl l hl hL
 rw[if_neg c2];by_cases c3:op=16∨op=18
 ·rw[if_pos c3];rcases c3 with rfl|rfl
  ·exact dindex_16 hF h a b n Al nl cl hs
  ·exact dindex_18 hF h a b n Al nl cl hs
 rw[if_neg c3];by_cases c4:32≤op∧op≤34
 ·rw[if_pos c4];rcases(show op=32∨op=33∨op=34 by omega) with rfl|rfl|rfl
  ·exact dindex_32 hF h a b n Al nl cl
  ·exact dindex_33 hF h a b n Al nl cl
  ·exact dindex_34 hF h a b n Al nl cl
 rw[if_neg c4];by_cases c5:op=35∨op=36
 ·rw[if_pos c5];rcases c5 with rfl|rfl
  ·exact dindex_35 hF h a b n Al nl cl
  ·exact dindex_36 hF h a b n Al nl cl
 rw[if_neg c5];by_cases c6:op=64520
 ·rw[if_pos c6];subst c6;exact dindex_64520 hF h a b n Al nl cl
 rw[if_neg c6];by_cases c7:op=64521
 ·rw[if_pos c7];subst c7;exact dindex_64521 hF h a b n Al nl cl
 rw[if_neg c7];by_cases c8:op=64522
 ·rw[if_pos c8];subst c8;exact dindex_64522 hF h a b n Al nl cl
 rw[if_neg c8];by_cases c9:0<(WK op).1∨op=63∨op=64∨op=64523
 ·rw[if_pos c9];rcases c9 with c9|rfl|rfl|rfl
  ·exact dindex_acc hF h op a b n Al nl cl c9
  ·exact dindex_63 hF h a b n Al nl cl
  ·exact dindex_64 hF h a b n Al nl cl
  ·exact dindex_64523 hF h a b n Al nl cl
 rw[if_neg c9];exact dindex_none hF h op a b n Al nl cl c0' (fun hx=>c9 (.inl hx)) (fun k hk=>by
  simp only[List.mem_cons,List.not_mem_nil,or_false]at hk;omega) c4
end Go.Proofs.YtmfpnfdinoofpaaGreatDoor
