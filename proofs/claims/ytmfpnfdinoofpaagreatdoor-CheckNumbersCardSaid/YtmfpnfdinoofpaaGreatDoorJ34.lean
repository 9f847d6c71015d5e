/- A part of the proof. -/
import Derived.Test.YtmfpnfdinoofpaaGreatDoorJ33
import Derived.Test.YtmfpnfdinoofpaaGreatDoorJ31
namespace Go.Proofs.YtmfpnfdinoofpaaGreatDoor
section
open Go.RowKit
set_option maxHeartbeats 4000000
set_option maxRecDepth 100000
theorem cexportsExist_any (w:World) (v:Mv) (m:Vt) (h:W7 (fun k=>k<w.heap.size) w v m) (hs:Vq m):Calls Tryz.prog 39 #[.agg v.cells] w (Wh (m.exps.all (expIn m)) w):=by
 have q0:=h.types;have q1:=h.imps;have q2:=h.funs;have q3:=h.mems;have q4:=h.globs;have q5:=h.exps;have q6:=h.datas;have q7:=h.cus;obtain⟨A0,c0,A1,c1,A2,c2,A3,c3,A4,c4,A5,c5,A6,c6,A7,c7,rfl⟩:=Wr h;simp only[Mv.cells]at ⊢;simp only at q0 q1 q2 q3 q4 q5 q6 q7;obtain⟨⟨n0,hn0⟩,⟨n1,hn1⟩,⟨n2,hn2⟩,⟨n3,hn3⟩,⟨n4,hn4⟩,⟨n5,hn5⟩,⟨n6,hn6⟩,⟨n7,hn7⟩⟩:=len8 m;have HN0:=hD hn0;have HN1:=hD hn1;have HN2:=hD hn2;have HN3:=hD hn3;have HN4:=hD hn4;have HN5:=hD hn5;have HN6:=hD hn6;have HN7:=hD hn7;have HCT:=hD (fun wz (hb:Below w.heap.size w wz) kind=>ccount_any wz _ m kind (h.keep (We.below hb fun _ hk=>hk) fun _ hk=>Ve hk hb.size) hs);simp only[Mv.cells]at HCT;clear hs h;rw[hn0]at q0 HCT ⊢;rw[hn1]at q1 HCT ⊢;rw[hn2]at q2 HCT ⊢;rw[hn3]at q3 HCT ⊢;rw[hn4]at q4 HCT ⊢;rw[hn5]at q5 HCT ⊢;rw[hn6]at q6 HCT ⊢;rw[hn7]at q7 HCT ⊢;obtain⟨W,hW,hbw,HB8⟩:=Vv w (.slice A0 n0 c0) (.slice A1 n1 c1) (.slice A2 n2 c2) (.slice A3 n3 c3) (.slice A4 n4 c4) (.slice A5 n5 c5) (.slice A6 n6 c6) (.slice A7 n7 c7);have HBW:=hD hbw;have HB8:=hD HB8;have HW:=hD hW;have Q5:=hD (Wd.keep (K':=fun k=>k<W.heap.size) q5 (We.below hbw fun _ hk=>hk) (fun _ hk=>Ve hk hbw.size) (fun _ _ _ h=>h));clear hbw hW q0 q1 q2 q3 q4 q5 q6 q7 hn0 hn1 hn2 hn3 hn4 hn5 hn6 hn7;go_enter Tryz.func39,Tryz.ntmps39
 go_upto_region 1 with (fail)
 rw[← HW.out];obtain⟨b0,b1,b2,b3,b4,b5,b6,b7⟩:=HB8.out W (bR _ _);go_wp2_with fail
 clear b0 b1 b2 b3 b4 b5 b6 b7;go_loopw [8] (fun i wr=>∃ k:Nat,k≤n5∧i=.int .i64 (k:Int)∧Hid (Below W.heap.size W wr)∧Hid (W0 (expIn m) m.exps (ByteArray.empty,0,0) k)) (fun i _=>n5 - (intOf i).toNat)
 case atStart=>exact⟨0,nZ _,rfl,hD (bR _ _),hD (W0.zero _ _ _)⟩
 case round =>
  obtain⟨w0,rfl⟩:∃ w0,w0=wr:=⟨_,rfl⟩;obtain⟨k,hk,rfl,HB,HA⟩:=hrel;by_cases hlt:k<n5
  ·have hd:decide ((k:Int)<(n5:Int))=true:=by simp;omega
   have hd2:decide (k<n5)=true:=by simp;omega
   obtain⟨g,o,c',he,hq1,hq2⟩:=Wd.some_ Q5.out (by rw[HN5.out];omega);rw[HN5.out]at hq1;unfold maxLen at hq2;simp only[vI]at he;obtain⟨rfl,-,rfl⟩:=he;have hAT:=Wd.keep (K':=fun k=>k<w0.heap.size) Q5.out (We.below HB.out fun _ hk=>hk) (fun _ hk=>Ve hk HB.out.size) (fun _ _ _ h=>h);obtain⟨u0,k0,h0⟩:=Wd.at_ hAT k 0 (by rw[HN5.out];exact hlt) (by decide);obtain⟨u1,k1,h1⟩:=Wd.at_ hAT k 1 (by rw[HN5.out];exact hlt) (by decide);obtain⟨u2,k2,h2⟩:=Wd.at_ hAT k 2 (by rw[HN5.out];exact hlt) (by decide);have HMEM:=hD (WA m.exps k (ByteArray.empty,0,0) (by rw[HN5.out];exact hlt));have HNO:=hD (fun (h:(expIn m) (m.exps.getD k (ByteArray.empty,0,0))=false)=>VM (p:=expIn m) (by rw[HN5.out];exact hlt) h);have HYE:=hD (fun (h:(expIn m) (m.exps.getD k (ByteArray.empty,0,0))=true)=>HA.out.succ h);clear hAT;generalize m.exps.getD k (ByteArray.empty,0,0)=x at h0 h1 h2 HNO HYE HMEM;obtain⟨x1,x2,x3⟩:=x;obtain rfl:u0=.string x1:=h0;obtain rfl:u1=.int .i64 x2:=h1;obtain rfl:u2=.int .i64 x3:=h2;rw[Nat.add_zero]at k0;have hnx:=Wb (bR w0.heap.size w0) (.cells #[.string x1,.int .i64 x2,.int .i64 x3] 102);have HC:Hid (∀ wz,Below (w0.alloc (.cells #[.string x1,.int .i64 x2,.int .i64 x3] 102)).heap.size (w0.alloc (.cells #[.string x1,.int .i64 x2,.int .i64 x3] 102)) wz→(wz.cell? ⟨w0.heap.size,0,none⟩=some (.string x1)∧wz.cell? ⟨w0.heap.size,1,none⟩=some (.int .i64 x2)∧wz.cell? ⟨w0.heap.size,2,none⟩=some (.int .i64 x3))∧Box8 wz w.heap.size (.slice A0 n0 c0) (.slice A1 n1 c1) (.slice A2 n2 c2) (.slice A3 n3 c3) (.slice A4 n4 c4) (.slice (some ⟨g,o,none⟩) n5 c5) (.slice A6 n6 c6) (.slice A7 n7 c7)):=hD fun wz hb=>by
    have h9:∀ i,wz.cell? ⟨w0.heap.size,i,none⟩=(#[.string x1,.int .i64 x2,.int .i64 x3]:Array Value)[i]?:=fun i=>(hb.cell (p:=⟨w0.heap.size,i,none⟩) (by simp)).trans (wN w0 _ _ i);exact⟨⟨h9 0,h9 1,h9 2⟩,HB8.out wz (Wa HB.out (Wa hnx hb))⟩
   obtain⟨-,b0,b1,b2,b3,b4,b5,b6,b7⟩:=HC.out _ (bR _ _);cases hb0:(Wi x3 (countC m x2)) with
   | false =>
    have HF:=hD (HNO.out hb0);have HBZ:=hD hb0;clear HNO HYE
    go_upto_region 4 with (fail)
    obtain⟨⟨-,z1,z2⟩,-⟩:=HC.out _ (bR _ _);generalize hw1:w0.alloc (.cells #[.string x1,.int .i64 x2,.int .i64 x3] 102)=w1 at *;have HBX:=hD (Wa HBW.out (Wa HB.out hnx))
    go_region_held3 (fun wz=>wz.cell? ⟨w0.heap.size,1,none⟩=some (.int .i64 x2)∧wz.cell? ⟨w0.heap.size,2,none⟩=some (.int .i64 x3)∧wz.cell? ⟨w.heap.size,0,none⟩=some (.slice A0 n0 c0)∧wz.cell? ⟨w.heap.size,1,none⟩=some (.slice A1 n1 c1)∧wz.cell? ⟨w.heap.size,2,none⟩=some (.slice A2 n2 c2)∧wz.cell? ⟨w.heap.size,3,none⟩=some (.slice A3 n3 c3)∧wz.cell? ⟨w.heap.size,4,none⟩=some (.slice A4 n4 c4)∧wz.cell? ⟨w.heap.size,5,none⟩=some (.slice (some ⟨g,o,none⟩) n5 c5)∧wz.cell? ⟨w.heap.size,6,none⟩=some (.slice A6 n6 c6)∧wz.cell? ⟨w.heap.size,7,none⟩=some (.slice A7 n7 c7))
     (first|go_keep|exact⟨z1,z2,b0,b1,b2,b3,b4,b5,b6,b7⟩|exact HX2.out)
     ((first|(go_at_call 73;refine(HCT.out _ (Wa HBX.out ((bR _ _).drew)) x2).mono ?_;rintro e w2 ⟨rfl,hb2⟩;have HB2:=hD (Wa ((bR w1.heap.size w1).drew) hb2);have HX2:=hD (by obtain⟨⟨-,y1,y2⟩,y⟩:=HC.out _ HB2.out;exact⟨y1,y2,y⟩:w2.cell? ⟨w0.heap.size,1,none⟩=some (.int .i64 x2)∧w2.cell? ⟨w0.heap.size,2,none⟩=some (.int .i64 x3)∧w2.cell? ⟨w.heap.size,0,none⟩=some (.slice A0 n0 c0)∧w2.cell? ⟨w.heap.size,1,none⟩=some (.slice A1 n1 c1)∧w2.cell? ⟨w.heap.size,2,none⟩=some (.slice A2 n2 c2)∧w2.cell? ⟨w.heap.size,3,none⟩=some (.slice A3 n3 c3)∧w2.cell? ⟨w.heap.size,4,none⟩=some (.slice A4 n4 c4)∧w2.cell? ⟨w.heap.size,5,none⟩=some (.slice (some ⟨g,o,none⟩) n5 c5)∧w2.cell? ⟨w.heap.size,6,none⟩=some (.slice A6 n6 c6)∧w2.cell? ⟨w.heap.size,7,none⟩=some (.slice A7 n7 c7));clear hb2)|(go_at_call 72;refine(chkin_any _ _ _).mono ?_;rintro e w3 ⟨rfl,rfl⟩;try rw[HBZ.out])))
    go_wp2;go_ret;exact⟨WV (by rw[HF.out]),Wa HBW.out (Wa HB.out (Wa hnx HB2.out))⟩
   | true =>
    have HY:=hD (HYE.out hb0);have HBZ:=hD hb0;clear HNO HYE
    go_upto_region 4 with (fail)
    obtain⟨⟨-,z1,z2⟩,-⟩:=HC.out _ (bR _ _);generalize hw1:w0.alloc (.cells #[.string x1,.int .i64 x2,.int .i64 x3] 102)=w1 at *;have HBX:=hD (Wa HBW.out (Wa HB.out hnx))
    go_region_held3 (fun wz=>wz.cell? ⟨w0.heap.size,1,none⟩=some (.int .i64 x2)∧wz.cell? ⟨w0.heap.size,2,none⟩=some (.int .i64 x3)∧wz.cell? ⟨w.heap.size,0,none⟩=some (.slice A0 n0 c0)∧wz.cell? ⟨w.heap.size,1,none⟩=some (.slice A1 n1 c1)∧wz.cell? ⟨w.heap.size,2,none⟩=some (.slice A2 n2 c2)∧wz.cell? ⟨w.heap.size,3,none⟩=some (.slice A3 n3 c3)∧wz.cell? ⟨w.heap.size,4,none⟩=some (.slice A4 n4 c4)∧wz.cell? ⟨w.heap.size,5,none⟩=some (.slice (some ⟨g,o,none⟩) n5 c5)∧wz.cell? ⟨w.heap.size,6,none⟩=some (.slice A6 n6 c6)∧wz.cell? ⟨w.heap.size,7,none⟩=some (.slice A7 n7 c7))
     (first|go_keep|exact⟨z1,z2,b0,b1,b2,b3,b4,b5,b6,b7⟩|exact HX2.out)
     ((first|(go_at_call 73;refine(HCT.out _ (Wa HBX.out ((bR _ _).drew)) x2).mono ?_;rintro e w2 ⟨rfl,hb2⟩;have HB2:=hD (Wa ((bR w1.heap.size w1).drew) hb2);have HX2:=hD (by obtain⟨⟨-,y1,y2⟩,y⟩:=HC.out _ HB2.out;exact⟨y1,y2,y⟩:w2.cell? ⟨w0.heap.size,1,none⟩=some (.int .i64 x2)∧w2.cell? ⟨w0.heap.size,2,none⟩=some (.int .i64 x3)∧w2.cell? ⟨w.heap.size,0,none⟩=some (.slice A0 n0 c0)∧w2.cell? ⟨w.heap.size,1,none⟩=some (.slice A1 n1 c1)∧w2.cell? ⟨w.heap.size,2,none⟩=some (.slice A2 n2 c2)∧w2.cell? ⟨w.heap.size,3,none⟩=some (.slice A3 n3 c3)∧w2.cell? ⟨w.heap.size,4,none⟩=some (.slice A4 n4 c4)∧w2.cell? ⟨w.heap.size,5,none⟩=some (.slice (some ⟨g,o,none⟩) n5 c5)∧w2.cell? ⟨w.heap.size,6,none⟩=some (.slice A6 n6 c6)∧w2.cell? ⟨w.heap.size,7,none⟩=some (.slice A7 n7 c7));clear hb2)|(go_at_call 72;refine(chkin_any _ _ _).mono ?_;rintro e w3 ⟨rfl,rfl⟩;try rw[HBZ.out])))
    go_wp2;go_roundw
    case rel=>exact⟨k+1,by omega,by go_num,hD (Wa HB.out (Wa hnx HB2.out)),HY⟩
    case measure=>simp[intOf];omega
  ·have hd:decide ((k:Int)<(n5:Int))=false:=by simp;omega
   have hd2:decide (k<n5)=false:=by simp;omega
   obtain rfl:n5=k:=by omega
   have HF5:=hD (show m.exps.all (expIn m)=true by have h:=HA.out;rw[← HN5.out]at h;exact h.done);obtain⟨b0,b1,b2,b3,b4,b5,b6,b7⟩:=HB8.out _ HB.out;go_wp2;go_ret;exact⟨WV (by rw[HF5.out]),Wa HBW.out HB.out⟩
end
section
open Go.RowKit
set_option maxHeartbeats 4000000
set_option maxRecDepth 100000
theorem effect_13 {F:Wx} {w:World} {x:Ws} (hF:F.prg) (h:Wk F w x) (k:Nat) (hk:k<x.f.length) (hl:(Ww x.pl k).length≤100000) (a b n:Int) (ha:a=(k:Int)) (Al:Option Addr) (nl cl:Nat) :
 Calls Tryz.prog 130 #[.pointer (some ⟨F.G,0,none⟩),.agg #[.int .i64 13,.int .i64 a,.int .i64 b,.int .u64 n,.slice Al nl cl]] w (EffPost F w x (Ww x.pl k++[127],Ww x.pl k)):=by
 subst ha;obtain⟨W,hW⟩:∃ W,W=w.alloc (.cells #[.int .i64 13,.int .i64 (k:Int),.int .i64 b,.int .u64 n,.slice Al nl cl] 25):=⟨_,rfl⟩;have k0:W.cell? ⟨w.heap.size,0,none⟩=some (.int .i64 13):=by rw[hW,wN];rfl
 have k1:W.cell? ⟨w.heap.size,1,none⟩=some (.int .i64 (k:Int)):=by rw[hW,wN];rfl
 have HG1:=hD (hW ▸ h.alloc (.cells #[.int .i64 13,.int .i64 (k:Int),.int .i64 b,.int .u64 n,.slice Al nl cl] 25):Wk F W x∧Wz F w x W x);have HNP:Hid (Wq F W x w.heap.size):=hD ⟨wL W _ k1,h.new_free (nR _)⟩;have hd:=HG1.out.1.below ((bR W.heap.size W).drew);have HGD:=hD hd;have HLB:=hD (label_any hF hd.1 k hk);generalize Ww x.pl k=q at HLB hl ⊢;have HK1:=hD k1;have HW:=hD hW;clear hW h hF hd hk;go_enter Tryz.func130,Tryz.ntmps130
 go_upto_region 1 with (fail)
 rw[← HW.out]
 go_upto_region 3 with (fail)
 go_region_held3 (fun wz=>wz.cell? ⟨w.heap.size,1,none⟩=some (.int .i64 (k:Int)))
  (first|go_keep|exact k1|exact HX1.out)
  ((go_at_call 124;refine(HLB.out).mono ?_;rintro e w1 ⟨A1,c1,rfl,g1,s1,i1⟩;have HX1:=hD (((HGD.out.2.trans s1).keeps.cell (p:=⟨w.heap.size,1,none⟩) HNP.out).trans HK1.out);have HG2:=hD g1;have HS2:=hD (HG1.out.2.trans (HGD.out.2.trans s1));have HI2:=hD i1;clear g1 s1 i1))
 clear k0 k1
 go_upto_region 4 with (fail)
 obtain⟨q1,hq1⟩:∃ q1,q.length=q1:=⟨_,rfl⟩;have hb1:=Wb (bR w1.heap.size w1) (.cells #[.int .i64 127] 3);have hb2:=Wb hb1 (.cells #[.slice A1 q.length c1,.slice (some ⟨w1.heap.size,0,none⟩) 1 1] 23);have hb3:=Wb (bR (w1.alloc (.cells #[.int .i64 127] 3)).heap.size (w1.alloc (.cells #[.int .i64 127] 3))) (.cells #[.slice A1 q.length c1,.slice (some ⟨w1.heap.size,0,none⟩) 1 1] 23);have hc:=fun j=>wN (w1.alloc (.cells #[.int .i64 127] 3)) #[.slice A1 q.length c1,.slice (some ⟨w1.heap.size,0,none⟩) 1 1] 23 j;have hlab:=(HG2.out.below hb2).2.ints HI2.out;have hone:=(WH w1 (bR _ _) 127).keep (K':=fun k=>k<((w1.alloc (.cells #[.int .i64 127] 3)).alloc (.cells #[.slice A1 q.length c1,.slice (some ⟨w1.heap.size,0,none⟩) 1 1] 23)).heap.size) (We.below hb3 fun _ hk=>hk.2) fun _ hk=>Ve hk.2 hb3.size;have hcc:=concat_any _ _ _ _ q [127] (hc 0) (hc 1) (hlab.keep (.refl _ _) fun _ hk=>hk.1) hone hl (by simp);rw[Wj]at hcc;have HCC:=hD hcc;have HGX:=hD (HG2.out.below hb2);have HLX:=hD hlab;clear hb1 hb2 hb3 hc hlab hone hcc hq1;go_wp2_with (go_at_call 92;refine(HCC.out).mono ?_;rintro e w5 ⟨A5,c5,rfl,_,hi5,hb5⟩;have HI5:=hD hi5;have HB5:=hD hb5;clear hi5 hb5)
 go_ret2
 have hg5:=HGX.out.1.below HB5.out;have hi5:=HI5.out;rw[List.length_append]at hi5;exact⟨_,_,rfl,hg5.1,HS2.out.trans (HGX.out.2.trans hg5.2),HGX.out.1.new_ints hi5,hg5.2.ints HLX.out⟩
end
section
open Go.RowKit
set_option maxHeartbeats 4000000
set_option maxRecDepth 100000
theorem Zbb {P:Prop}(h:P:=by
 rw[← hX,← hRR];have hgx:=HG.out.1.below hbx;have hpp:=dgives_any HF.out hgx.1 HX.out.1 HX.out.2.1 HX.out.2.2 _ _ _ _ HPX.out HRX.out HTY.out.1 HTY.out.2;rw[HRE.out]at hpp;have HPP:=hD hpp;have HGX:=hD hgx.2;clear hX hRR hbx HP HR HB1 b0 b1 b2 b3 b4 b5 b6 b7 k1 hgx hpp;go_wp2_with (go_at_call 135;refine(HPP.out).mono ?_;rintro e w4 ⟨x3,g3,s3,rfl,r3⟩;have HG3:=hD g3;have HS3:=hD s3;have HR3:=hD r3;clear g3 s3 r3)
 go_ret;exact⟨x3,HG3.out,(HG.out.2.trans HGX.out).trans HS3.out,rfl,HR3.out⟩):P:=h
theorem Zbr {P:Prop}(h:P:=by
 have hsz:(W.drew.alloc (.cells #[.slice none 0 0,.slice none 0 0] 40)).heap.size=W.heap.size+1:=Wj _ _;rcases hk.1 with h|h <;> omega):P:=h
theorem VN {F:Wx} {W Wc w1 X:World} {x:Ws} (hW:Wk F W x) (hs:W.heap.size≤Wc.heap.size) {v:Value} {l:List Int} (hi:Wf (fun k=>Wq F W x k∨(Wc.heap.size≤k∧k<w1.heap.size)) w1 v l) (h1:W.heap.size≤w1.heap.size)
 (hk:We (fun k=>(k<W.heap.size∨Wc.heap.size≤k)∧k<w1.heap.size) w1 X):Wf (Wq F X x) X v l :=
 hi.keep (hk.mono fun k hk=>by
  rcases hk with h|h
  ·exact⟨.inl h.1,Ve h.1 h1⟩
  ·exact⟨.inr h.1,h.2⟩) fun k hk'=>by
  have hx:=hk.size;rcases hk' with h|h
  ·exact⟨by have:=h.1;omega,h.2⟩
  ·exact⟨by omega,hW.new_free (by omega)⟩
theorem keeps_two (w:World) (B:Nat) (a b:Value):We (fun k=>k≠B) w ((w.setCell ⟨B,0,none⟩ a).setCell ⟨B,1,none⟩ b) :=
 (We.setCell w (fun h=>h rfl) a).trans (.setCell _ (fun h=>h rfl) b)
theorem dleave_16 {F:Wx} {w:World} {x:Ws} (hF:F.ref) (h:Wk F w x) (h0:0<x.f.length) (hl:x.s.length≤900000) (hh:x.top.h≤x.s.length) (hs:Vq F.m) (a b n:Int) (hty:((WB F.m a).getD ([],[])).1.length≤100000∧((WB F.m a).getD ([],[])).2.length≤100000) (Al:Option Addr) (nl cl:Nat) :
 Calls Tryz.prog 169 #[.pointer (some ⟨F.G,0,none⟩),.agg #[.int .i64 16,.int .i64 a,.int .i64 b,.int .u64 n,.slice Al nl cl]] w (VI F w x (VL x.pl ((WB F.m a).getD ([],[])).1 ((WB F.m a).getD ([],[])).2)):=by
 obtain⟨W,hW⟩:∃ W,W=w.alloc (.cells #[.int .i64 16,.int .i64 a,.int .i64 b,.int .u64 n,.slice Al nl cl] 25):=⟨_,rfl⟩;have hk:∀ j:Nat,W.cell? ⟨w.heap.size,j,none⟩=(#[.int .i64 16,.int .i64 a,.int .i64 b,.int .u64 n,.slice Al nl cl]:Array Value)[j]?:=fun j=>by rw[hW,wN]
 have k0:=hk 0;have k1:=hk 1;simp only[List.getElem?_toArray,List.getElem?_cons_zero,List.getElem?_cons_succ]at k0 k1;have hgs:=h.alloc (.cells #[.int .i64 16,.int .i64 a,.int .i64 b,.int .u64 n,.slice Al nl cl] 25);rw[← hW]at hgs;have hg:=hgs.1;have HG:=hD hgs;have HX:=hD (⟨h0,hl,hh⟩:0<x.f.length∧x.s.length≤900000∧x.top.h≤x.s.length);have HCA:=hD (fun wz (hz:Below W.heap.size W wz)=>dsig_in wz F.v F.m (K:=Wq F W x) (fun k hk=>Ve hk.1 hz.size) (hg.reads.mod.keep (We.below hz fun _ hk=>hk.1) fun _ hk=>hk) hs a);obtain⟨A0,c0,A1,c1,A2,c2,A3,c3,A4,c4,A5,c5,A6,c6,A7,c7,hv⟩:=Wr hg.reads.mod;have HX1:Hid (∀ wz,Below W.heap.size W wz→wz.cell? ⟨w.heap.size,1,none⟩=some (.int .i64 a)):=hD fun wz hz=>(hz.cell (p:=⟨w.heap.size,1,none⟩) (wL W _ k1)).trans k1;have HY:Hid (∀ wz,Below W.heap.size W wz→∀ j,wz.cell? ⟨F.G,j,none⟩=(WN F x)[j]?):=hD fun wz hz j=>(hg.below hz).1.cell j;unfold WN at HY;rw[hF.1,hv]at HY;rw[hv]at HCA;simp only[Mv.cells,if_true]at HCA HY;generalize F.m.types.length=n0 at *;generalize F.m.imps.length=n1 at *;generalize F.m.funs.length=n2 at *;generalize F.m.mems.length=n3 at *;generalize F.m.globs.length=n4 at *;generalize F.m.exps.length=n5 at *;generalize F.m.datas.length=n6 at *;generalize F.m.cus.length=n7 at *;have HW:=hD hW;have HF:=hD hF;have HTY:=hD hty;have HS:Hid (∀ wz,Below W.heap.size W wz→wz.cell? ⟨F.G,0,none⟩=some (.slice A0 n0 c0)∧wz.cell? ⟨F.G,1,none⟩=some (.slice A1 n1 c1)∧wz.cell? ⟨F.G,2,none⟩=some (.slice A2 n2 c2)∧wz.cell? ⟨F.G,3,none⟩=some (.slice A3 n3 c3)∧wz.cell? ⟨F.G,4,none⟩=some (.slice A4 n4 c4)∧wz.cell? ⟨F.G,5,none⟩=some (.slice A5 n5 c5)∧wz.cell? ⟨F.G,6,none⟩=some (.slice A6 n6 c6)∧wz.cell? ⟨F.G,7,none⟩=some (.slice A7 n7 c7)∧wz.cell? ⟨w.heap.size,1,none⟩=some (.int .i64 a)):=hD fun wz hz=>⟨HY.out wz hz 0,HY.out wz hz 1,HY.out wz hz 2,HY.out wz hz 3,HY.out wz hz 4,HY.out wz hz 5,HY.out wz hz 6,HY.out wz hz 7,HX1.out wz hz⟩;generalize WB F.m a=t at HCA HTY ⊢;obtain⟨r,hr⟩:∃ r,VL x.pl (t.getD ([],[])).1 (t.getD ([],[])).2=r:=⟨_,rfl⟩;rw[hr];have HRE:=hD hr;clear h hg hgs hv hW hF hs HX1 HY hk h0 hl hh hty hr;go_enter Tryz.func169,Tryz.ntmps169
 go_upto_region 1 with (fail)
 rw[← HW.out]
 go_upto_region 19 with (fail)
 clear k0 k1;obtain⟨b0,b1,b2,b3,b4,b5,b6,b7,k1⟩:=HS.out W (bR W.heap.size W)
 go_region_held3 (fun wz=>wz.cell? ⟨F.G,0,none⟩=some (.slice A0 n0 c0)∧wz.cell? ⟨F.G,1,none⟩=some (.slice A1 n1 c1)∧wz.cell? ⟨F.G,2,none⟩=some (.slice A2 n2 c2)∧wz.cell? ⟨F.G,3,none⟩=some (.slice A3 n3 c3)∧wz.cell? ⟨F.G,4,none⟩=some (.slice A4 n4 c4)∧wz.cell? ⟨F.G,5,none⟩=some (.slice A5 n5 c5)∧wz.cell? ⟨F.G,6,none⟩=some (.slice A6 n6 c6)∧wz.cell? ⟨F.G,7,none⟩=some (.slice A7 n7 c7)∧wz.cell? ⟨w.heap.size,1,none⟩=some (.int .i64 a))
  (first|go_keep|exact⟨b0,b1,b2,b3,b4,b5,b6,b7,k1⟩|exact HS.out _ HB1.out|exact HS.out _ (Wb HB1.out _)|exact HS.out _ (WL HB1.out (Below.size (bR W.heap.size W))))
  ((go_at_call 77;refine(HCA.out _ (by first|exact Wa (bR W.heap.size W) ((bR _ _).drew)|exact Wa (bR W.heap.size W) (Wb ((bR _ _).drew) _))).mono ?_;rintro e w1 ⟨p,q,rfl,hp,hq,hb1⟩;obtain⟨A8,e8,rfl,_,_⟩:=hp.form;obtain⟨A9,e9,rfl,_,_⟩:=hq.form;have HB1:Hid (Below W.heap.size W w1):=hD (by first|exact Wa (Wa (bR W.heap.size W) ((bR _ _).drew)) hb1|exact Wa (Wa (bR W.heap.size W) (Wb ((bR _ _).drew) _)) hb1);(first|(have hN:=Vj (W).drew (.cells #[.slice none 0 0,.slice none 0 0] 40);have hZ:w1.heap[(W).heap.size]?=some (.cells #[.slice none 0 0,.slice none 0 0] 40 (0,0)):=(hb1.block (W).heap.size (Array.getElem?_eq_some_iff.1 hN).1).trans hN;clear hN;have z0:=WG hZ 0;have z1:=WG hZ 1;have f0:=Va hZ 0;have f1:=Va hZ 1;simp only[List.getElem?_toArray,List.getElem?_cons_zero,List.getElem?_cons_succ]at z0 z1;have HZ:=hD hZ;clear hZ)|skip);have HP:=hD hp;have HR:=hD hq;clear hp hq hb1))
 ·skip
  obtain⟨X,hX⟩:∃ X,X=w1.alloc (.cells #[.slice A8 (t.getD ([],[])).1.length e8,.slice A9 (t.getD ([],[])).2.length e9] 40):=⟨_,rfl⟩;obtain⟨RR,hRR⟩:∃ RR,RR=w1.heap.size:=⟨_,rfl⟩;have y0:X.cell? ⟨RR,0,none⟩=some (.slice A8 (t.getD ([],[])).1.length e8):=by rw[hX,hRR,wN];rfl
  have y1:X.cell? ⟨RR,1,none⟩=some (.slice A9 (t.getD ([],[])).2.length e9):=by rw[hX,hRR,wN];rfl
  have hbx:Below W.heap.size W X:=hX ▸ Wb HB1.out _;have hkx:We (fun k=>(k<W.heap.size∨W.drew.heap.size≤k)∧k<w1.heap.size) w1 X:=hX ▸ We.below (Wb (bR w1.heap.size w1) _) fun _ hk=>hk.2;have HPX:=hD (VN HG.out.1 (by exact nR _) HP.out HB1.out.size hkx);have HRX:=hD (VN HG.out.1 (by exact nR _) HR.out HB1.out.size hkx);clear hkx;exact Zbb
 ·skip
  obtain⟨X,hX⟩:∃ X,X=(w1.setCell ⟨W.heap.size,0,none⟩ (.slice A8 (t.getD ([],[])).1.length e8)).setCell ⟨W.heap.size,1,none⟩ (.slice A9 (t.getD ([],[])).2.length e9):=⟨_,rfl⟩;obtain⟨RR,hRR⟩:∃ RR,RR=W.heap.size:=⟨_,rfl⟩;have s1:=Wg w1 W.heap.size 0 _ _ (.slice A8 (t.getD ([],[])).1.length e8) HZ.out;have s2:=Wg _ W.heap.size 1 _ _ (.slice A9 (t.getD ([],[])).2.length e9) s1;rw[← hX,← hRR]at s2;have y0:X.cell? ⟨RR,0,none⟩=some (.slice A8 (t.getD ([],[])).1.length e8):=WG s2 0;have y1:X.cell? ⟨RR,1,none⟩=some (.slice A9 (t.getD ([],[])).2.length e9):=WG s2 1;have hbx:Below W.heap.size W X:=hX ▸ WL HB1.out (Below.size (bR W.heap.size W));have hkx:We (fun k=>(k<W.heap.size∨(W.drew.alloc (.cells #[.slice none 0 0,.slice none 0 0] 40)).heap.size≤k)∧k<w1.heap.size) w1 X:=hX ▸ (keeps_two w1 W.heap.size _ _).mono fun k hk e=>by
   exact Zbr
  have HPX:=hD (VN HG.out.1 (by show W.heap.size≤(W.drew.alloc (.cells #[.slice none 0 0,.slice none 0 0] 40)).heap.size;rw[Wj];exact Nat.le_succ _) HP.out HB1.out.size hkx);have HRX:=hD (VN HG.out.1 (by show W.heap.size≤(W.drew.alloc (.cells #[.slice none 0 0,.slice none 0 0] 40)).heap.size;rw[Wj];exact Nat.le_succ _) HR.out HB1.out.size hkx);clear s1 s2 z0 z1 f0 f1 hkx;exact Zbb
end
section
theorem ZbQ {P:Prop}(h:P:=by
 unfold locB;cases h:WB m ((m.imps.length:Int)+f) with
 | none=>exact VX
 | some t =>
  show nz (if _ then _ else _)
  split
  ·exact VX
  ·rw[show((m.imps.length:Int)+f - m.imps.length).toNat=f by omega];exact nz_app (htn t (fsigB_mem h)).1 (kinds_nz hfn.1.2)):P:=h
theorem Zct {P:Prop}(h:P:=by
 have:=List.all_eq_true.1 hty t ht;unfold typB at this;rw[Bool.and_eq_true]at this;have h1:=kinds_len this.1;have h2:=kinds_len this.2;exact⟨kinds_nz this.1,kinds_nz this.2,by omega,by omega⟩):P:=h
theorem ZcQ {P:Prop}(h:P:=by
 cases h:WB m k with
 | none=>exact⟨VX,VX,nZ _⟩
 | some t=>have:=htn t (fsigB_mem h);exact⟨this.1,this.2.1,this.2.2.2⟩):P:=h
theorem Zdk {P:Prop}(h:P:=by
 unfold WU at hr
 split at hr
 ·split at hr
  ·assumption
  ·cases hr
 ·cases hr):P:=h
def dwalkC (e:U5):List Vl→Nat→Pl→Int×Int
 | [],_,_=>(-1,0)
 | x :: l,k,p=>if (VB e p x).1=0 then dwalkC e l (k+1) (VB e p x).2 else ((k:Int),(VB e p x).1)
theorem known_nn (op:Int):W9 op=true→0≤op :=
 VO (fun op=>W9 op=true→0≤op) (fun n _=>by omega) (fun n _=>by omega) (fun op h e=>by rw[far_known op h]at e;cases e) op
theorem match_run {ops:List Int} (h:(VY ops).2=0):0<ops.length∧ops.getD (ops.length - 1) 0=11∧∃ s,V1 ops 0 (ops.length - 1)=some s∧s.op=[]:=by
 unfold VY at h;by_cases c:ops.length=0∨ops.getD (ops.length - 1) 0≠11
 ·rw[if_pos c]at h;cases h
 ·rw[if_neg c]at h;refine⟨by omega,Classical.not_not.1 fun e=>c (.inr e),?_⟩;cases hr:V1 ops 0 (ops.length - 1) with
  | none=>rw[hr]at h;cases h
  | some s =>
   rw[hr]at h;refine⟨s,rfl,?_⟩;by_cases c1:s.op≠[]
   ·simp only[if_pos c1]at h;cases h
   ·exact Classical.not_not.1 c1
theorem npl_flen {p q:Pl} (h:Uf p=Uf q):p.f.length=q.f.length:=by
 have:=congrArg (fun r:Pl=>r.f.length) h;simpa [npl_len] using this
theorem inPlace_same {p q:Pl} (h:Uf p=Uf q) (op:Int):Vc p op=Vc q op:=by
 rw[← inPlaceC_norm p,← inPlaceC_norm q,h]
theorem dwalk_eq {e:U5} (ho:EnvOk e) (he:EnvNz e) {code:List Vl} (hv:∀ x ∈ code,WX x=true) (hm:(VY (code.map Vl.op)).2=0) :
 ∀ n i,i+n=code.length→0<n→∀ s p q,V1 (code.map Vl.op) 0 i=some s→FI (code.map Vl.op) s p→Uf q=Uf p→Ur i q→VS q→dwalkC e (code.drop i) i q=walkC e (code.drop i) i p:=by
 obtain⟨hl,h11,sl,hsl,hop⟩:=match_run hm;rw[List.length_map]at hl h11 hsl;intro n;induction n with
 | zero=>intro i _ h0;omega
 | succ n ih =>
  intro i hin _ s p q hs hFI hpq hI hZ;have hi:i<code.length:=by omega
  have hd:code.drop i=code[i] :: code.drop (i+1):=List.drop_eq_getElem_cons hi;have hx:(code.map Vl.op).getD i 0=code[i].op:=by
   rw[List.getD_eq_getElem?_getD,List.getElem?_map,List.getElem?_eq_getElem hi];rfl
  have hxv:=hv _ (List.getElem_mem hi);generalize code[i]=x at hd hx hxv;have hkn:=(ins_nn hxv).2.2.2;have hnn:=known_nn _ hkn;have h0:=hFI.pos;rw[hd];have hplace:Vc p x.op=true:=by
   rcases Nat.eq_zero_or_pos n with h1|h1
   ·subst h1;have hxe:x.op=11:=by rw[← hx,show i=code.length - 1 by omega];exact h11
    unfold Vc;rw[if_neg (by omega),if_neg (by omega)];exact hkn
   ·cases ht:V1 (code.map Vl.op) 0 (i+1) with
    | none=>have:=mrun_none ht (code.length - 1) (by omega);rw[this]at hsl;cases hsl
    | some t =>
     have ht':(V1 (code.map Vl.op) 0 i).bind (V3 (code.map Vl.op) 0 i)=some t:=ht;rw[hs]at ht';exact hFI.place hx ht' hkn
  have hqp:=inPlace_same hpq x.op;rw[hplace]at hqp;have hq0:0<q.f.length:=by rw[npl_flen hpq];exact h0
  have hds:=dstep_eq (e:=e) he hI hq0 hZ hxv hnn hqp;obtain⟨g1,g2⟩:=stepC_same e hpq x;show(if (VB e q x).1=0 then dwalkC e (code.drop (i+1)) (i+1) (VB e q x).2 else ((i:Int),(VB e q x).1))=(if (Vr e p x).1=0 then walkC e (code.drop (i+1)) (i+1) (Vr e p x).2 else ((i:Int),(Vr e p x).1));rw[hds,g1];by_cases hz:(Vr e p x).1=0
  ·rw[if_pos hz,if_pos hz];have hzq:(Vr e q x).1=0:=by rw[g1];exact hz
   rcases Nat.eq_zero_or_pos n with h1|h1
   ·subst h1;have hxe:x.op=11:=by rw[← hx,show i=code.length - 1 by omega];exact h11
    have hdn:code.drop (i+1)=[]:=List.drop_eq_nil_of_le (by omega);have hss:s=sl:=by rw[show i=code.length - 1 by omega,hsl]at hs;exact(Option.some.inj hs).symm
    rw[hdn];obtain⟨o,hoo⟩:=hFI;rw[hss,hop]at hoo;have hf:=followC_opF (stepC_follow hz);rw[if_neg (by omega),if_neg (by omega),if_pos hxe,hoo]at hf;have hlen:(Vr e p x).2.f.length=0:=by
     have:=congrArg List.length hf;unfold opF at this;simpa using this
    show((-1:Int),(0:Int))=if 0<(Vr e p x).2.f.length then ((-1:Int),(12:Int)) else (-1,0);rw[if_neg (by omega)]
   ·cases ht:V1 (code.map Vl.op) 0 (i+1) with
    | none=>have:=mrun_none ht (code.length - 1) (by omega);rw[this]at hsl;cases hsl
    | some t =>
     have ht':(V1 (code.map Vl.op) 0 i).bind (V3 (code.map Vl.op) 0 i)=some t:=ht;rw[hs]at ht';exact ih (i+1) (by omega) h1 t _ _ ht (hFI.step (mrun_inv _ _ _ _ hs) hx ht' hz) g2 (hI.step ho hzq) (hZ.step he hI hzq)
  ·rw[if_neg hz,if_neg hz]
def VJ (m:Vt) (f:Int) (prof:Int):Int×Int :=
 if Wi f m.funs.length=false then (-1,1)
 else dwalkC (UI m f.toNat prof) (m.funs.getD f.toNat WW).code 0 (WY ⟨[],[]⟩ 0 [] (UI m f.toNat prof).ro)
theorem kinds_nz {l:List Int} {n:Int} (h:Vs l n=true):nz l:=fun a ha=>by
 unfold Vs at h;rw[Bool.and_eq_true]at h;have h1:=List.all_eq_true.1 h.2 a ha;unfold VF at h1;have h2:=of_decide_eq_true h1;omega
theorem kinds_len {l:List Int} {n:Int} (h:Vs l n=true):(l.length:Int)≤n:=by
 unfold Vs at h;rw[Bool.and_eq_true]at h;exact of_decide_eq_true h.1
theorem dfunc_eq {m:Vt} {f:Nat} {prof:Int} (hr:WU m=0) (hf:f<m.funs.length) (hs:(WB m ((m.imps.length:Int)+f)).isSome=true) (hm:UO (m.funs.getD f WW)=0):VJ m (f:Int) prof=Uq m (f:Int) prof:=by
 have hp:UG m=true:=by
  exact Zdk
 unfold UG at hp;simp only[Bool.and_eq_true]at hp;obtain⟨⟨⟨⟨⟨⟨⟨hty,_⟩,hfu⟩,_⟩,hgl⟩,_⟩,_⟩,_⟩:=hp;have hfn:=List.all_eq_true.1 hfu _ (WA m.funs f WW hf);unfold fncB codeB at hfn;simp only[Bool.and_eq_true]at hfn;have htn:∀ t ∈ m.types,nz t.1∧nz t.2∧t.1.length≤8∧t.2.length≤8:=fun t ht=>by
  exact Zct
 have hsn:∀ k,nz ((WB m k).getD ([],[])).1∧nz ((WB m k).getD ([],[])).2∧((WB m k).getD ([],[])).2.length≤8:=fun k=>by
  exact ZcQ
 have hlo:nz (locB m ((m.imps.length:Int)+f)):=by
  exact ZbQ
 have he:EnvNz (UI m f prof):=⟨(hsn _).2.1,hlo,fun t ht=>⟨(htn t ht).1,(htn t ht).2.1⟩,fun g hg=>by
  have:=List.all_eq_true.1 hgl g hg;unfold Uj VF at this;rw[Bool.and_eq_true]at this;have h2:=of_decide_eq_true this.1;omega⟩
 have ho:EnvOk (UI m f prof):=⟨(hsn _).2.2,fun t ht=>(htn t ht).2.2⟩;have hw:Wi (f:Int) m.funs.length=true:=by unfold Wi;simp;omega
 unfold VJ Uq;rw[hw,hs,if_neg (by decide),if_neg (by decide),if_neg (by decide),Int.toNat_natCast];obtain⟨hl,_⟩:=match_run hm;rw[List.length_map]at hl;exact dwalk_eq ho he (List.all_eq_true.1 hfn.2.2) hm (m.funs.getD f WW).code.length 0 (by omega) hl ⟨[],[],0⟩ _ _ rfl ⟨2,rfl⟩ rfl (Ur.first 0 _ (hsn _).2.2) (VS.first 0 _ (hsn _).2.1)
end
end Go.Proofs.YtmfpnfdinoofpaaGreatDoor
