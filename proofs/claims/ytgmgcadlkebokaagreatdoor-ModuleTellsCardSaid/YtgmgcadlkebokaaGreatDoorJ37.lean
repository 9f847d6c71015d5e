/- A part of the proof. -/
import Derived.Test.YtgmgcadlkebokaaGreatDoorJ35
namespace Go.Proofs.YtgmgcadlkebokaaGreatDoor
open Go.RowKit
set_option maxHeartbeats 3000000
set_option maxRecDepth 100000
theorem Zb {P:Prop}(h:P:=by
 have HN2:=hD (HN.out (by simp));clear HY HN;refine wp_region_held_drew (S:=fun wz=>Below w0.heap.size w0 wz) (by kernel_rfl) ((bR _ _).drew) (fun hS=>?_);show wpAnyH _ _ _ _ _ 64 #[false,false,false,false,false,false,false,false,false,false,false,false,false,false,false,false,false,false,false,false,false,false,false,false,false,false,false,false,false,false,false,false,false,false,false,false,false,false,false,false,false,false,false,false,false,false,false,false,false,false,false,false,false,false,false,false,false,false,false,false,false,false,false,false] _ _;first|refine mT 0 17 rfl hS ?_|refine mN 0 17 rfl hS ?_
 first|refine mT 1 18 rfl hS ?_|refine mN 1 18 rfl hS ?_
 first|refine mT 2 19 rfl hS ?_|refine mN 2 19 rfl hS ?_
 first|refine mT 3 20 rfl hS ?_|refine mN 3 20 rfl hS ?_
 first|refine mT 4 21 rfl hS ?_ (hy:=by intro wS hSw;obtain⟨s0,s1,s2,s3,s4,s5,s6,s7,s8,s9⟩:=HF.out wS hSw;go_simp;try with_reducible rfl)|refine mN 4 21 rfl hS ?_
 first|refine mT 5 22 rfl hS ?_|refine mN 5 22 rfl hS ?_
 first|refine mT 6 23 rfl hS ?_|refine mN 6 23 rfl hS ?_
 first|refine mT 7 24 rfl hS ?_|refine mN 7 24 rfl hS ?_
 first|refine mT 8 25 rfl hS ?_|refine mN 8 25 rfl hS ?_
 first|refine mT 9 26 rfl hS ?_ (hy:=by intro wS hSw;obtain⟨s0,s1,s2,s3,s4,s5,s6,s7,s8,s9⟩:=HF.out wS hSw;go_simp;try with_reducible rfl)|refine mN 9 26 rfl hS ?_
 first|refine mT 10 27 rfl hS ?_|refine mN 10 27 rfl hS ?_
 first|refine mT 11 28 rfl hS ?_|refine mN 11 28 rfl hS ?_
 first|refine mT 12 29 rfl hS ?_|refine mN 12 29 rfl hS ?_
 first|refine mT 13 30 rfl hS ?_|refine mN 13 30 rfl hS ?_
 first|refine mT 14 31 rfl hS ?_|refine mN 14 31 rfl hS ?_
 first|refine mT 15 32 rfl hS ?_|refine mN 15 32 rfl hS ?_
 first|refine mT 16 33 rfl hS ?_ (hy:=by intro wS hSw;obtain⟨s0,s1,s2,s3,s4,s5,s6,s7,s8,s9⟩:=HF.out wS hSw;go_simp;try with_reducible rfl)|refine mN 16 33 rfl hS ?_
 first|refine mT 17 34 rfl hS ?_|refine mN 17 34 rfl hS ?_
 first|refine mT 18 35 rfl hS ?_|refine mN 18 35 rfl hS ?_
 first|refine mT 19 36 rfl hS ?_|refine mN 19 36 rfl hS ?_
 first|refine mT 20 37 rfl hS ?_|refine mN 20 37 rfl hS ?_
 first|refine mT 21 38 rfl hS ?_ (hy:=by intro wS hSw;obtain⟨s0,s1,s2,s3,s4,s5,s6,s7,s8,s9⟩:=HF.out wS hSw;go_simp;try with_reducible rfl)|refine mN 21 38 rfl hS ?_
 first|refine mT 22 39 rfl hS ?_|refine mN 22 39 rfl hS ?_
 first|refine mT 23 40 rfl hS ?_|refine mN 23 40 rfl hS ?_
 first|refine mT 24 41 rfl hS ?_|refine mN 24 41 rfl hS ?_
 first|refine mT 25 42 rfl hS ?_|refine mN 25 42 rfl hS ?_
 first|refine mT 26 43 rfl hS ?_|refine mN 26 43 rfl hS ?_
 first|refine mT 27 44 rfl hS ?_|refine mN 27 44 rfl hS ?_
 first|refine mT 28 45 rfl hS ?_|refine mN 28 45 rfl hS ?_
 first|refine mT 29 46 rfl hS ?_ (hy:=by intro wS hSw;obtain⟨s0,s1,s2,s3,s4,s5,s6,s7,s8,s9⟩:=HF.out wS hSw;go_simp;try with_reducible rfl)|refine mN 29 46 rfl hS ?_
 first|refine mT 30 47 rfl hS ?_|refine mN 30 47 rfl hS ?_
 first|refine mT 31 48 rfl hS ?_|refine mN 31 48 rfl hS ?_
 first|refine mT 32 49 rfl hS ?_|refine mN 32 49 rfl hS ?_
 first|refine mT 33 50 rfl hS ?_|refine mN 33 50 rfl hS ?_
 first|refine mT 34 51 rfl hS ?_ (hy:=by intro wS hSw;obtain⟨s0,s1,s2,s3,s4,s5,s6,s7,s8,s9⟩:=HF.out wS hSw;go_simp;try with_reducible rfl)|refine mN 34 51 rfl hS ?_
 first|refine mT 35 52 rfl hS ?_|refine mN 35 52 rfl hS ?_
 first|refine mT 36 53 rfl hS ?_|refine mN 36 53 rfl hS ?_
 first|refine mT 37 54 rfl hS ?_|refine mN 37 54 rfl hS ?_
 first|refine mT 38 55 rfl hS ?_|refine mN 38 55 rfl hS ?_
 first|refine mT 39 56 rfl hS ?_|refine mN 39 56 rfl hS ?_
 first|refine mT 40 57 rfl hS ?_|refine mN 40 57 rfl hS ?_
 first|refine mT 41 58 rfl hS ?_|refine mN 41 58 rfl hS ?_
 first|refine mT 42 59 rfl hS ?_ (hy:=by intro wS hSw;obtain⟨s0,s1,s2,s3,s4,s5,s6,s7,s8,s9⟩:=HF.out wS hSw;go_simp;try with_reducible rfl)|refine mN 42 59 rfl hS ?_
 first|refine mT 43 60 rfl hS ?_|refine mN 43 60 rfl hS ?_
 first|refine mT 44 61 rfl hS ?_|refine mN 44 61 rfl hS ?_
 first|refine mT 45 62 rfl hS ?_|refine mN 45 62 rfl hS ?_
 first|refine mT 46 63 rfl hS ?_|refine mN 46 63 rfl hS ?_
 first|refine mT 47 64 rfl hS ?_ (hy:=by intro wS hSw;obtain⟨s0,s1,s2,s3,s4,s5,s6,s7,s8,s9⟩:=HF.out wS hSw;go_simp;try with_reducible rfl)|refine mN 47 64 rfl hS ?_
 first|refine mT 48 65 rfl hS ?_|refine mN 48 65 rfl hS ?_
 first|refine mT 49 66 rfl hS ?_|refine mN 49 66 rfl hS ?_
 first|refine mT 50 67 rfl hS ?_|refine mN 50 67 rfl hS ?_
 first|refine mT 51 68 rfl hS ?_|refine mN 51 68 rfl hS ?_
 first|refine mT 52 69 rfl hS ?_|refine mN 52 69 rfl hS ?_
 first|refine mT 53 70 rfl hS ?_|refine mN 53 70 rfl hS ?_
 first|refine mT 54 71 rfl hS ?_|refine mN 54 71 rfl hS ?_
 first|refine mT 55 72 rfl hS ?_ (hy:=by intro wS hSw;obtain⟨s0,s1,s2,s3,s4,s5,s6,s7,s8,s9⟩:=HF.out wS hSw;go_simp;try with_reducible rfl)|refine mN 55 72 rfl hS ?_
 first|refine mT 56 73 rfl hS ?_|refine mN 56 73 rfl hS ?_
 first|refine mT 57 74 rfl hS ?_|refine mN 57 74 rfl hS ?_
 first|refine mT 58 75 rfl hS ?_|refine mN 58 75 rfl hS ?_
 first|refine mT 59 76 rfl hS ?_|refine mN 59 76 rfl hS ?_
 first|refine mT 60 77 rfl hS ?_ (hy:=by intro wS hSw;obtain⟨s0,s1,s2,s3,s4,s5,s6,s7,s8,s9⟩:=HF.out wS hSw;go_simp;try with_reducible rfl)|refine mN 60 77 rfl hS ?_
 refine mR 61 78 rfl fun K hK=>?_;first|(go_simp;go_at_call 46;refine(C4.out _ (Wa HB0W.out hS)).mono ?_;rintro e wq ⟨rfl,hwq⟩;go_wp2_with fail;refine hK.out _ _ (Wa hS hwq) (fun hS'=>?_);clear hK K hS hwq;have hS:=hS';clear hS';try simp only[sA,List.set])|(go_simp;refine hK.out _ _ hS (fun _=>?_);clear hK K)
 first|refine mT 62 79 rfl hS ?_|refine mN 62 79 rfl hS ?_
 first|refine mT 63 80 rfl hS ?_|refine mN 63 80 rfl hS ?_
 refine wpAnyH_done (by kernel_rfl) ?_ _;go_wp2;go_ret;exact⟨WA (by rw[HN2.out]),(Wa HBW.out hS)⟩):P:=h
theorem dinsts_any (w:World) (v1 v2:Value) (q1 q2:List (Ins)) (h1:WO (fun k=>k<w.heap.size) w v1 q1) (h2:WO (fun k=>k<w.heap.size) w v2 q2):Calls Tryz.prog 47 #[v1,v2] w (Wj (Ww insE VX q1 q2) w):=by
 obtain⟨A1,c1,hv1,hl1,hm1⟩:=Wb.form h1;obtain⟨A2,c2,hv2,hl2,hm2⟩:=Wb.form h2;unfold maxLen at hm1 hm2;rw[hv1]at h1 ⊢;rw[hv2]at h2 ⊢;have H1:=hD (fun wz (hb:Below w.heap.size w wz)=>(WO.keep (K':=fun k=>k<wz.heap.size) h1 (We.below hb fun _ hk=>hk) (fun _ hk=>WK hk hb.size)));have H2:=hD (fun wz (hb:Below w.heap.size w wz)=>(WO.keep (K':=fun k=>k<wz.heap.size) h2 (We.below hb fun _ hk=>hk) (fun _ hk=>WK hk hb.size)));clear h1 h2 hv1 hv2;generalize hQ1:q1.length=n at *;generalize hQ2:q2.length=m at *;have HQ1:=hD hQ1;have HQ2:=hD hQ2;clear hQ1 hQ2;by_cases hnm:n=m
 rotate_left
 ·have hd:((n:Int) != (m:Int))=true:=by simp;omega
  have HN:=hD (WQ (e:=insE) (d:=VX) (a:=q1) (b:=q2) (by rw[HQ1.out,HQ2.out];exact hnm));go_enter Tryz.func47,Tryz.ntmps47;exact Zbo
 ·subst hnm;go_enter Tryz.func47,Tryz.ntmps47;go_wp2_with fail
  go_loopw [5] (fun i wr=>∃ k:Nat,k≤n∧i=.int .i64 (k:Int)∧Hid (Below w.heap.size w wr)∧Hid (UI insE VX q1 q2 k)) (fun i _=>n - (intOf i).toNat)
  case atStart=>exact⟨0,nZ _,rfl,hD (bR _ _),hD (UI.zero _ _ _ _)⟩
  case round =>
   obtain⟨w0,rfl⟩:∃ w0,w0=wr:=⟨_,rfl⟩;obtain⟨k,hk,rfl,HB,HE⟩:=hrel;by_cases hlt:k<n
   rotate_left
   ·exact ZP
   ·have hkn:(0:Int)≤(k:Int)∧(k:Int)<(n:Int):=by omega
    have hd:decide ((k:Int)<(n:Int))=true:=by simp;omega
    obtain⟨g1,o1,c3,he,_,_⟩:=Wb.some_ (H1.out w0 HB.out) (by rw[HQ1.out];omega);simp only[vI]at he;obtain⟨rfl,-,-⟩:=he;obtain⟨g2,o2,c4,he,_,_⟩:=Wb.some_ (H2.out w0 HB.out) (by rw[HQ2.out];omega);simp only[vI]at he;obtain⟨rfl,-,-⟩:=he;have hA1:=H1.out w0 HB.out;have hA2:=H2.out w0 HB.out;obtain⟨u10,k10,f10⟩:=Wb.at_ hA1 k 0 (by rw[HQ1.out];exact hlt) (by decide);obtain⟨u11,k11,f11⟩:=Wb.at_ hA1 k 1 (by rw[HQ1.out];exact hlt) (by decide);obtain⟨u12,k12,f12⟩:=Wb.at_ hA1 k 2 (by rw[HQ1.out];exact hlt) (by decide);obtain⟨u13,k13,f13⟩:=Wb.at_ hA1 k 3 (by rw[HQ1.out];exact hlt) (by decide);obtain⟨u14,k14,f14⟩:=Wb.at_ hA1 k 4 (by rw[HQ1.out];exact hlt) (by decide);obtain⟨u20,k20,f20⟩:=Wb.at_ hA2 k 0 (by rw[HQ2.out];exact hlt) (by decide);obtain⟨u21,k21,f21⟩:=Wb.at_ hA2 k 1 (by rw[HQ2.out];exact hlt) (by decide);obtain⟨u22,k22,f22⟩:=Wb.at_ hA2 k 2 (by rw[HQ2.out];exact hlt) (by decide);obtain⟨u23,k23,f23⟩:=Wb.at_ hA2 k 3 (by rw[HQ2.out];exact hlt) (by decide);obtain⟨u24,k24,f24⟩:=Wb.at_ hA2 k 4 (by rw[HQ2.out];exact hlt) (by decide);have HY:=hD (fun (h:insE (q1.getD k VX) (q2.getD k VX)=true)=>HE.out.succ h);have HN:=hD (fun (h:insE (q1.getD k VX) (q2.getD k VX)=false)=>W6 HQ1.out hlt h);clear hA1 hA2;generalize q1.getD k VX=x at f10 f11 f12 f13 f14 HY HN;obtain⟨x0,x1,x2,x3,x4⟩:=x;obtain rfl:u10=.int .i64 x0:=f10;obtain rfl:u11=.int .i64 x1:=f11;obtain rfl:u12=.int .i64 x2:=f12;obtain rfl:u13=.int .u64 x3:=f13.1;have f14:Wh (fun k=>k<w0.heap.size) w0 u14 x4:=f14.1;obtain⟨P14,e14,rfl,_,_⟩:=Wh.form f14;generalize q2.getD k VX=y at f20 f21 f22 f23 f24 HY HN;obtain⟨y0,y1,y2,y3,y4⟩:=y;obtain rfl:u20=.int .i64 y0:=f20;obtain rfl:u21=.int .i64 y1:=f21;obtain rfl:u22=.int .i64 y2:=f22;obtain rfl:u23=.int .u64 y3:=f23.1;have f24:Wh (fun k=>k<w0.heap.size) w0 u24 y4:=f24.1;obtain⟨P24,e24,rfl,_,_⟩:=Wh.form f24;rw[Nat.add_zero]at k10 k20;rw[show insE ⟨x0,x1,x2,x3,x4⟩ ⟨y0,y1,y2,y3,y4⟩=(x0==y0 && (x1==y1 && (x2==y2 && (x3==y3 && (Vu x4 y4))))) from rfl]at HY HN;have C4:=hD (fun wz (hb:Below w0.heap.size w0 wz)=>(show Calls Tryz.prog 46 #[.slice P14 x4.length e14,.slice P24 y4.length e24] wz (Wj (Vu x4 y4) wz) from rints_is (fun k=>k<wz.heap.size) wz _ _ x4 y4 (f14.keep (We.below hb fun _ hk=>hk) fun _ hk=>WK hk hb.size) (f24.keep (We.below hb fun _ hk=>hk) fun _ hk=>WK hk hb.size)));generalize Vu x4 y4=b4 at C4 HY HN;generalize x4.length=m14 at *;generalize y4.length=m24 at *;clear f14 f24;have HF:=hD (fun wz (hb:Below w0.heap.size w0 wz)=>(show wz.cell? ⟨g1,o1+k * 5,none⟩=some (.int .i64 x0)∧wz.cell? ⟨g1,o1+k * 5+1,none⟩=some (.int .i64 x1)∧wz.cell? ⟨g1,o1+k * 5+2,none⟩=some (.int .i64 x2)∧wz.cell? ⟨g1,o1+k * 5+3,none⟩=some (.int .u64 x3)∧wz.cell? ⟨g1,o1+k * 5+4,none⟩=some (.slice P14 m14 e14)∧wz.cell? ⟨g2,o2+k * 5,none⟩=some (.int .i64 y0)∧wz.cell? ⟨g2,o2+k * 5+1,none⟩=some (.int .i64 y1)∧wz.cell? ⟨g2,o2+k * 5+2,none⟩=some (.int .i64 y2)∧wz.cell? ⟨g2,o2+k * 5+3,none⟩=some (.int .u64 y3)∧wz.cell? ⟨g2,o2+k * 5+4,none⟩=some (.slice P24 m24 e24) from ⟨(hb.cell (p:=⟨g1,o1+k * 5,none⟩) (wL _ _ k10)).trans k10,(hb.cell (p:=⟨g1,o1+k * 5+1,none⟩) (wL _ _ k11)).trans k11,(hb.cell (p:=⟨g1,o1+k * 5+2,none⟩) (wL _ _ k12)).trans k12,(hb.cell (p:=⟨g1,o1+k * 5+3,none⟩) (wL _ _ k13)).trans k13,(hb.cell (p:=⟨g1,o1+k * 5+4,none⟩) (wL _ _ k14)).trans k14,(hb.cell (p:=⟨g2,o2+k * 5,none⟩) (wL _ _ k20)).trans k20,(hb.cell (p:=⟨g2,o2+k * 5+1,none⟩) (wL _ _ k21)).trans k21,(hb.cell (p:=⟨g2,o2+k * 5+2,none⟩) (wL _ _ k22)).trans k22,(hb.cell (p:=⟨g2,o2+k * 5+3,none⟩) (wL _ _ k23)).trans k23,(hb.cell (p:=⟨g2,o2+k * 5+4,none⟩) (wL _ _ k24)).trans k24⟩));have HBW:=HB;have HB0W:=hD (bR w0.heap.size w0)
    go_upto_region 6 with (fail)
    clear k10 k20 k11 k21 k12 k22 k13 k23 k14 k24;by_cases hc0:x0=y0
    rotate_left
    ·have hn0:(x0==y0)=false:=by simpa using hc0
     have hm0:(x0 != y0)=true:=by simpa using hc0
     rw[hn0]at HN;exact Zb
    ·subst hc0;have hm0:(x0 != x0)=false:=by simp
     rw[show(x0==x0)=true by simp,Bool.true_and]at HY HN;by_cases hc1:x1=y1
     rotate_left
     ·have hn1:(x1==y1)=false:=by simpa using hc1
      have hm1:(x1 != y1)=true:=by simpa using hc1
      rw[hn1]at HN;exact Zb
     ·subst hc1;have hm1:(x1 != x1)=false:=by simp
      rw[show(x1==x1)=true by simp,Bool.true_and]at HY HN;by_cases hc2:x2=y2
      rotate_left
      ·have hn2:(x2==y2)=false:=by simpa using hc2
       have hm2:(x2 != y2)=true:=by simpa using hc2
       rw[hn2]at HN;exact Zb
      ·subst hc2;have hm2:(x2 != x2)=false:=by simp
       rw[show(x2==x2)=true by simp,Bool.true_and]at HY HN;by_cases hc3:x3=y3
       rotate_left
       ·have hn3:(x3==y3)=false:=by simpa using hc3
        have hm3:(x3 != y3)=true:=by simpa using hc3
        rw[hn3]at HN;exact Zb
       ·subst hc3;have hm3:(x3 != x3)=false:=by simp
        rw[show(x3==x3)=true by simp,Bool.true_and]at HY HN;cases b4 with
        | false =>
         exact Zb
        | true =>
         have HY2:=hD (HY.out (by simp));clear HY HN;refine wp_region_held_drew (S:=fun wz=>Below w0.heap.size w0 wz) (by kernel_rfl) ((bR _ _).drew) (fun hS=>?_);show wpAnyH _ _ _ _ _ 64 #[false,false,false,false,false,false,false,false,false,false,false,false,false,false,false,false,false,false,false,false,false,false,false,false,false,false,false,false,false,false,false,false,false,false,false,false,false,false,false,false,false,false,false,false,false,false,false,false,false,false,false,false,false,false,false,false,false,false,false,false,false,false,false,false] _ _;first|refine mT 0 17 rfl hS ?_|refine mN 0 17 rfl hS ?_
         first|refine mT 1 18 rfl hS ?_|refine mN 1 18 rfl hS ?_
         first|refine mT 2 19 rfl hS ?_|refine mN 2 19 rfl hS ?_
         first|refine mT 3 20 rfl hS ?_|refine mN 3 20 rfl hS ?_
         first|refine mT 4 21 rfl hS ?_ (hy:=by intro wS hSw;obtain⟨s0,s1,s2,s3,s4,s5,s6,s7,s8,s9⟩:=HF.out wS hSw;go_simp;try with_reducible rfl)|refine mN 4 21 rfl hS ?_
         first|refine mT 5 22 rfl hS ?_|refine mN 5 22 rfl hS ?_
         first|refine mT 6 23 rfl hS ?_|refine mN 6 23 rfl hS ?_
         first|refine mT 7 24 rfl hS ?_|refine mN 7 24 rfl hS ?_
         first|refine mT 8 25 rfl hS ?_|refine mN 8 25 rfl hS ?_
         first|refine mT 9 26 rfl hS ?_ (hy:=by intro wS hSw;obtain⟨s0,s1,s2,s3,s4,s5,s6,s7,s8,s9⟩:=HF.out wS hSw;go_simp;try with_reducible rfl)|refine mN 9 26 rfl hS ?_
         first|refine mT 10 27 rfl hS ?_|refine mN 10 27 rfl hS ?_
         first|refine mT 11 28 rfl hS ?_|refine mN 11 28 rfl hS ?_
         first|refine mT 12 29 rfl hS ?_|refine mN 12 29 rfl hS ?_
         first|refine mT 13 30 rfl hS ?_|refine mN 13 30 rfl hS ?_
         first|refine mT 14 31 rfl hS ?_|refine mN 14 31 rfl hS ?_
         first|refine mT 15 32 rfl hS ?_|refine mN 15 32 rfl hS ?_
         first|refine mT 16 33 rfl hS ?_ (hy:=by intro wS hSw;obtain⟨s0,s1,s2,s3,s4,s5,s6,s7,s8,s9⟩:=HF.out wS hSw;go_simp;try with_reducible rfl)|refine mN 16 33 rfl hS ?_
         first|refine mT 17 34 rfl hS ?_|refine mN 17 34 rfl hS ?_
         first|refine mT 18 35 rfl hS ?_|refine mN 18 35 rfl hS ?_
         first|refine mT 19 36 rfl hS ?_|refine mN 19 36 rfl hS ?_
         first|refine mT 20 37 rfl hS ?_|refine mN 20 37 rfl hS ?_
         first|refine mT 21 38 rfl hS ?_ (hy:=by intro wS hSw;obtain⟨s0,s1,s2,s3,s4,s5,s6,s7,s8,s9⟩:=HF.out wS hSw;go_simp;try with_reducible rfl)|refine mN 21 38 rfl hS ?_
         first|refine mT 22 39 rfl hS ?_|refine mN 22 39 rfl hS ?_
         first|refine mT 23 40 rfl hS ?_|refine mN 23 40 rfl hS ?_
         first|refine mT 24 41 rfl hS ?_|refine mN 24 41 rfl hS ?_
         first|refine mT 25 42 rfl hS ?_|refine mN 25 42 rfl hS ?_
         first|refine mT 26 43 rfl hS ?_|refine mN 26 43 rfl hS ?_
         first|refine mT 27 44 rfl hS ?_|refine mN 27 44 rfl hS ?_
         first|refine mT 28 45 rfl hS ?_|refine mN 28 45 rfl hS ?_
         first|refine mT 29 46 rfl hS ?_ (hy:=by intro wS hSw;obtain⟨s0,s1,s2,s3,s4,s5,s6,s7,s8,s9⟩:=HF.out wS hSw;go_simp;try with_reducible rfl)|refine mN 29 46 rfl hS ?_
         first|refine mT 30 47 rfl hS ?_|refine mN 30 47 rfl hS ?_
         first|refine mT 31 48 rfl hS ?_|refine mN 31 48 rfl hS ?_
         first|refine mT 32 49 rfl hS ?_|refine mN 32 49 rfl hS ?_
         first|refine mT 33 50 rfl hS ?_|refine mN 33 50 rfl hS ?_
         first|refine mT 34 51 rfl hS ?_ (hy:=by intro wS hSw;obtain⟨s0,s1,s2,s3,s4,s5,s6,s7,s8,s9⟩:=HF.out wS hSw;go_simp;try with_reducible rfl)|refine mN 34 51 rfl hS ?_
         first|refine mT 35 52 rfl hS ?_|refine mN 35 52 rfl hS ?_
         first|refine mT 36 53 rfl hS ?_|refine mN 36 53 rfl hS ?_
         first|refine mT 37 54 rfl hS ?_|refine mN 37 54 rfl hS ?_
         first|refine mT 38 55 rfl hS ?_|refine mN 38 55 rfl hS ?_
         first|refine mT 39 56 rfl hS ?_|refine mN 39 56 rfl hS ?_
         first|refine mT 40 57 rfl hS ?_|refine mN 40 57 rfl hS ?_
         first|refine mT 41 58 rfl hS ?_|refine mN 41 58 rfl hS ?_
         first|refine mT 42 59 rfl hS ?_ (hy:=by intro wS hSw;obtain⟨s0,s1,s2,s3,s4,s5,s6,s7,s8,s9⟩:=HF.out wS hSw;go_simp;try with_reducible rfl)|refine mN 42 59 rfl hS ?_
         first|refine mT 43 60 rfl hS ?_|refine mN 43 60 rfl hS ?_
         first|refine mT 44 61 rfl hS ?_|refine mN 44 61 rfl hS ?_
         first|refine mT 45 62 rfl hS ?_|refine mN 45 62 rfl hS ?_
         first|refine mT 46 63 rfl hS ?_|refine mN 46 63 rfl hS ?_
         first|refine mT 47 64 rfl hS ?_ (hy:=by intro wS hSw;obtain⟨s0,s1,s2,s3,s4,s5,s6,s7,s8,s9⟩:=HF.out wS hSw;go_simp;try with_reducible rfl)|refine mN 47 64 rfl hS ?_
         first|refine mT 48 65 rfl hS ?_|refine mN 48 65 rfl hS ?_
         first|refine mT 49 66 rfl hS ?_|refine mN 49 66 rfl hS ?_
         first|refine mT 50 67 rfl hS ?_|refine mN 50 67 rfl hS ?_
         first|refine mT 51 68 rfl hS ?_|refine mN 51 68 rfl hS ?_
         first|refine mT 52 69 rfl hS ?_|refine mN 52 69 rfl hS ?_
         first|refine mT 53 70 rfl hS ?_|refine mN 53 70 rfl hS ?_
         first|refine mT 54 71 rfl hS ?_|refine mN 54 71 rfl hS ?_
         first|refine mT 55 72 rfl hS ?_ (hy:=by intro wS hSw;obtain⟨s0,s1,s2,s3,s4,s5,s6,s7,s8,s9⟩:=HF.out wS hSw;go_simp;try with_reducible rfl)|refine mN 55 72 rfl hS ?_
         first|refine mT 56 73 rfl hS ?_|refine mN 56 73 rfl hS ?_
         first|refine mT 57 74 rfl hS ?_|refine mN 57 74 rfl hS ?_
         first|refine mT 58 75 rfl hS ?_|refine mN 58 75 rfl hS ?_
         first|refine mT 59 76 rfl hS ?_|refine mN 59 76 rfl hS ?_
         first|refine mT 60 77 rfl hS ?_ (hy:=by intro wS hSw;obtain⟨s0,s1,s2,s3,s4,s5,s6,s7,s8,s9⟩:=HF.out wS hSw;go_simp;try with_reducible rfl)|refine mN 60 77 rfl hS ?_
         refine mR 61 78 rfl fun K hK=>?_;first|(go_simp;go_at_call 46;refine(C4.out _ (Wa HB0W.out hS)).mono ?_;rintro e wq ⟨rfl,hwq⟩;go_wp2_with fail;refine hK.out _ _ (Wa hS hwq) (fun hS'=>?_);clear hK K hS hwq;have hS:=hS';clear hS';try simp only[sA,List.set])|(go_simp;refine hK.out _ _ hS (fun _=>?_);clear hK K)
         first|refine mT 62 79 rfl hS ?_|refine mN 62 79 rfl hS ?_
         first|refine mT 63 80 rfl hS ?_|refine mN 63 80 rfl hS ?_
         exact Zbg
end Go.Proofs.YtgmgcadlkebokaaGreatDoor
