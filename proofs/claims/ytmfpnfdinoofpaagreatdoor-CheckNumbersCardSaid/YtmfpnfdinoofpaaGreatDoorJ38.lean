/- A part of the proof. -/
import Derived.Test.YtmfpnfdinoofpaaGreatDoorJ34
namespace Go.Proofs.YtmfpnfdinoofpaaGreatDoor
section
open Go.RowKit
set_option maxHeartbeats 4000000
set_option maxRecDepth 100000
theorem Zb {P:Prop}(h:P:=by
 rw[← HW.out];obtain⟨b0,b1,b2,b3,b4,b5,b6,b7⟩:=HB8.out W (bR _ _);go_wp2_with fail
 clear b0 b1 b2 b3 b4 b5 b6 b7;go_loopw [12] (fun i wr=>∃ k:Nat,k≤n0∧i=.int .i64 (k:Int)∧Hid (Below W.heap.size W wr)∧Hid (W0 (typPl) m.types ([],[]) k)) (fun i _=>n0 - (intOf i).toNat)
 case atStart=>exact⟨0,nZ _,rfl,hD (bR _ _),hD (W0.zero _ _ _)⟩
 case round =>
  obtain⟨w0,rfl⟩:∃ w0,w0=wr:=⟨_,rfl⟩;obtain⟨k,hk,rfl,HB,HA⟩:=hrel;by_cases hlt:k<n0
  ·have hd:decide ((k:Int)<(n0:Int))=true:=by simp;omega
   have hd2:decide (k<n0)=true:=by simp;omega
   obtain⟨g,o,c',he,hq1,hq2⟩:=Wd.some_ Q0.out (by rw[HN0.out];omega);rw[HN0.out]at hq1;unfold maxLen at hq2;simp only[vI]at he;obtain⟨rfl,-,rfl⟩:=he;have hAT:=UN.keep (K':=fun k=>k<w0.heap.size) Q0.out (We.below HB.out fun _ hk=>hk) (fun _ hk=>Ve hk HB.out.size);obtain⟨u0,k0,h0⟩:=Wd.at_ hAT k 0 (by rw[HN0.out];exact hlt) (by decide);obtain⟨u1,k1,h1⟩:=Wd.at_ hAT k 1 (by rw[HN0.out];exact hlt) (by decide);have HMEM:=hD (WA m.types k ([],[]) (by rw[HN0.out];exact hlt));have HNO:=hD (fun (h:(typPl) (m.types.getD k ([],[]))=false)=>VM (p:=typPl) (by rw[HN0.out];exact hlt) h);have HYE:=hD (fun (h:(typPl) (m.types.getD k ([],[]))=true)=>HA.out.succ h);clear hAT;generalize m.types.getD k ([],[])=x at h0 h1 HNO HYE HMEM;obtain⟨x1,x2⟩:=x;have h0:Wf (fun g=>g<w0.heap.size) w0 u0 x1:=h0;have h1:Wf (fun g=>g<w0.heap.size) w0 u1 x2:=h1;obtain⟨P0,p0,rfl,_,_⟩:=h0.form;obtain⟨P1,p1,rfl,_,_⟩:=h1.form;generalize hm0:x1.length=m0 at k0;generalize hm1:x2.length=m1 at k1;clear h0 h1;rw[Nat.add_zero]at k0;have hnx:=Wb (bR w0.heap.size w0) (.cells #[.slice P0 m0 p0,.slice P1 m1 p1] 40);have HC:Hid (∀ wz,Below (w0.alloc (.cells #[.slice P0 m0 p0,.slice P1 m1 p1] 40)).heap.size (w0.alloc (.cells #[.slice P0 m0 p0,.slice P1 m1 p1] 40)) wz→(wz.cell? ⟨w0.heap.size,0,none⟩=some (.slice P0 m0 p0)∧wz.cell? ⟨w0.heap.size,1,none⟩=some (.slice P1 m1 p1))∧Box8 wz w.heap.size (.slice (some ⟨g,o,none⟩) n0 c0) (.slice A1 n1 c1) (.slice A2 n2 c2) (.slice A3 n3 c3) (.slice A4 n4 c4) (.slice A5 n5 c5) (.slice A6 n6 c6) (.slice A7 n7 c7)):=hD fun wz hb=>by
    have h9:∀ i,wz.cell? ⟨w0.heap.size,i,none⟩=(#[.slice P0 m0 p0,.slice P1 m1 p1]:Array Value)[i]?:=fun i=>(hb.cell (p:=⟨w0.heap.size,i,none⟩) (by simp)).trans (wN w0 _ _ i);exact⟨⟨h9 0,h9 1⟩,HB8.out wz (Wa HB.out (Wa hnx hb))⟩
   obtain⟨-,b0,b1,b2,b3,b4,b5,b6,b7⟩:=HC.out _ (bR _ _);by_cases hz:m1≤1
   ·have d1:decide ((1:Int)<(m1:Int))=false:=by simp;omega
    have HY:=hD (HYE.out (by show decide _=true;rw[hm1];exact decide_eq_true hz));clear HNO HYE hz hm0 hm1;go_wp2;go_roundw
    case rel=>exact⟨k+1,by omega,by go_num,hD (Wa HB.out hnx),HY⟩
    case measure=>simp[intOf];omega
   ·have d1:decide ((1:Int)<(m1:Int))=true:=by simp;omega
    have HF:=hD (HNO.out (by show decide _=false;rw[hm1];exact decide_eq_false hz));clear HNO HYE hz hm0 hm1;go_wp2;go_ret;exact⟨WV (by unfold plainC;rw[HF.out];rfl),Wa HBW.out (Wa HB.out hnx)⟩
  ·have hd:decide ((k:Int)<(n0:Int))=false:=by simp;omega
   have hd2:decide (k<n0)=false:=by simp;omega
   obtain rfl:n0=k:=by omega
   have HF0:=hD (show m.types.all (typPl)=true by have h:=HA.out;rw[← HN0.out]at h;exact h.done);obtain⟨b0,b1,b2,b3,b4,b5,b6,b7⟩:=HB8.out _ HB.out;go_wp2_with fail
   clear b0 b1 b2 b3 b4 b5 b6 b7;go_loopw [24] (fun i wr=>∃ k:Nat,k≤n6∧i=.int .i64 (k:Int)∧Hid (Below W.heap.size W wr)∧Hid (W0 (Dat.act) m.datas dat0 k)) (fun i _=>n6 - (intOf i).toNat)
   case atStart=>exact⟨0,nZ _,rfl,HB,hD (W0.zero _ _ _)⟩
   case round =>
    obtain⟨w0,rfl⟩:∃ w0,w0=wr:=⟨_,rfl⟩;obtain⟨k,hk,rfl,HB,HA⟩:=hrel;by_cases hlt:k<n6
    ·have hd:decide ((k:Int)<(n6:Int))=true:=by simp;omega
     have hd2:decide (k<n6)=true:=by simp;omega
     obtain⟨g,o,c',he,hq1,hq2⟩:=Wd.some_ Q6.out (by rw[HN6.out];omega);rw[HN6.out]at hq1;unfold maxLen at hq2;simp only[vI]at he;obtain⟨rfl,-,rfl⟩:=he;have hAT:=DatasK.keep (K':=fun k=>k<w0.heap.size) Q6.out (We.below HB.out fun _ hk=>hk) (fun _ hk=>Ve hk HB.out.size);obtain⟨u0,k0,h0⟩:=Wd.at_ hAT k 0 (by rw[HN6.out];exact hlt) (by decide);obtain⟨u1,k1,h1⟩:=Wd.at_ hAT k 1 (by rw[HN6.out];exact hlt) (by decide);obtain⟨u2,k2,h2⟩:=Wd.at_ hAT k 2 (by rw[HN6.out];exact hlt) (by decide);obtain⟨u3,k3,h3⟩:=Wd.at_ hAT k 3 (by rw[HN6.out];exact hlt) (by decide);have HMEM:=hD (WA m.datas k dat0 (by rw[HN6.out];exact hlt));have HNO:=hD (fun (h:(Dat.act) (m.datas.getD k dat0)=false)=>VM (p:=Dat.act) (by rw[HN6.out];exact hlt) h);have HYE:=hD (fun (h:(Dat.act) (m.datas.getD k dat0)=true)=>HA.out.succ h);clear hAT;generalize m.datas.getD k dat0=x at h0 h1 h2 h3 HNO HYE HMEM;obtain⟨x1,x2,x3,x4⟩:=x;obtain rfl:u0=.bool x1:=h0;obtain rfl:u1=.int .i64 x2:=h1;obtain rfl:u2=.int .i64 x3:=h2;obtain⟨P3,p3,rfl,_,_⟩:=h3;generalize x4.length=m3 at k3;rw[Nat.add_zero]at k0;have hnx:=Wb (bR w0.heap.size w0) (.cells #[.bool x1,.int .i64 x2,.int .i64 x3,.slice P3 m3 p3] 61);have HC:Hid (∀ wz,Below (w0.alloc (.cells #[.bool x1,.int .i64 x2,.int .i64 x3,.slice P3 m3 p3] 61)).heap.size (w0.alloc (.cells #[.bool x1,.int .i64 x2,.int .i64 x3,.slice P3 m3 p3] 61)) wz→(wz.cell? ⟨w0.heap.size,0,none⟩=some (.bool x1)∧wz.cell? ⟨w0.heap.size,1,none⟩=some (.int .i64 x2)∧wz.cell? ⟨w0.heap.size,2,none⟩=some (.int .i64 x3)∧wz.cell? ⟨w0.heap.size,3,none⟩=some (.slice P3 m3 p3))∧Box8 wz w.heap.size (.slice A0 n0 c0) (.slice A1 n1 c1) (.slice A2 n2 c2) (.slice A3 n3 c3) (.slice A4 n4 c4) (.slice A5 n5 c5) (.slice (some ⟨g,o,none⟩) n6 c6) (.slice A7 n7 c7)):=hD fun wz hb=>by
      have h9:∀ i,wz.cell? ⟨w0.heap.size,i,none⟩=(#[.bool x1,.int .i64 x2,.int .i64 x3,.slice P3 m3 p3]:Array Value)[i]?:=fun i=>(hb.cell (p:=⟨w0.heap.size,i,none⟩) (by simp)).trans (wN w0 _ _ i);exact⟨⟨h9 0,h9 1,h9 2,h9 3⟩,HB8.out wz (Wa HB.out (Wa hnx hb))⟩
     obtain⟨-,b0,b1,b2,b3,b4,b5,b6,b7⟩:=HC.out _ (bR _ _);cases x1 with
     | true =>
      have HY:=hD (HYE.out rfl);clear HNO HYE;go_wp2;go_roundw
      case rel=>exact⟨k+1,by omega,by go_num,hD (Wa HB.out hnx),HY⟩
      case measure=>simp[intOf];omega
     | false =>
      have HF:=hD (HNO.out rfl);clear HNO HYE;go_wp2;go_ret;exact⟨WV (by unfold plainC;rw[HF0.out,HF.out];rfl),Wa HBW.out (Wa HB.out hnx)⟩
    ·have hd:decide ((k:Int)<(n6:Int))=false:=by simp;omega
     have hd2:decide (k<n6)=false:=by simp;omega
     obtain rfl:n6=k:=by omega
     have HF6:=hD (show m.datas.all (Dat.act)=true by have h:=HA.out;rw[← HN6.out]at h;exact h.done);obtain⟨b0,b1,b2,b3,b4,b5,b6,b7⟩:=HB8.out _ HB.out;go_wp2_with fail
     clear b0 b1 b2 b3 b4 b5 b6 b7;go_loopw [35] (fun i wr=>∃ k:Nat,k≤n5∧i=.int .i64 (k:Int)∧Hid (Below W.heap.size W wr)∧Hid (W0 (expPl m) m.exps (ByteArray.empty,0,0) k)) (fun i _=>n5 - (intOf i).toNat)
     case atStart=>exact⟨0,nZ _,rfl,HB,hD (W0.zero _ _ _)⟩
     case round =>
      obtain⟨w0,rfl⟩:∃ w0,w0=wr:=⟨_,rfl⟩;obtain⟨k,hk,rfl,HB,HA⟩:=hrel;by_cases hlt:k<n5
      ·have hd:decide ((k:Int)<(n5:Int))=true:=by simp;omega
       have hd2:decide (k<n5)=true:=by simp;omega
       obtain⟨g,o,c',he,hq1,hq2⟩:=Wd.some_ Q5.out (by rw[HN5.out];omega);rw[HN5.out]at hq1;unfold maxLen at hq2;simp only[vI]at he;obtain⟨rfl,-,rfl⟩:=he;have hAT:=Wd.keep (K':=fun k=>k<w0.heap.size) Q5.out (We.below HB.out fun _ hk=>hk) (fun _ hk=>Ve hk HB.out.size) (fun _ _ _ h=>h);obtain⟨u0,k0,h0⟩:=Wd.at_ hAT k 0 (by rw[HN5.out];exact hlt) (by decide);obtain⟨u1,k1,h1⟩:=Wd.at_ hAT k 1 (by rw[HN5.out];exact hlt) (by decide);obtain⟨u2,k2,h2⟩:=Wd.at_ hAT k 2 (by rw[HN5.out];exact hlt) (by decide);have HMEM:=hD (WA m.exps k (ByteArray.empty,0,0) (by rw[HN5.out];exact hlt));have HNO:=hD (fun (h:(expPl m) (m.exps.getD k (ByteArray.empty,0,0))=false)=>VM (p:=expPl m) (by rw[HN5.out];exact hlt) h);have HYE:=hD (fun (h:(expPl m) (m.exps.getD k (ByteArray.empty,0,0))=true)=>HA.out.succ h);clear hAT;generalize m.exps.getD k (ByteArray.empty,0,0)=x at h0 h1 h2 HNO HYE HMEM;obtain⟨x1,x2,x3⟩:=x;obtain rfl:u0=.string x1:=h0;obtain rfl:u1=.int .i64 x2:=h1;obtain rfl:u2=.int .i64 x3:=h2;rw[Nat.add_zero]at k0;have hnx:=Wb (bR w0.heap.size w0) (.cells #[.string x1,.int .i64 x2,.int .i64 x3] 102);have HC:Hid (∀ wz,Below (w0.alloc (.cells #[.string x1,.int .i64 x2,.int .i64 x3] 102)).heap.size (w0.alloc (.cells #[.string x1,.int .i64 x2,.int .i64 x3] 102)) wz→(wz.cell? ⟨w0.heap.size,0,none⟩=some (.string x1)∧wz.cell? ⟨w0.heap.size,1,none⟩=some (.int .i64 x2)∧wz.cell? ⟨w0.heap.size,2,none⟩=some (.int .i64 x3))∧Box8 wz w.heap.size (.slice A0 n0 c0) (.slice A1 n1 c1) (.slice A2 n2 c2) (.slice A3 n3 c3) (.slice A4 n4 c4) (.slice (some ⟨g,o,none⟩) n5 c5) (.slice A6 n6 c6) (.slice A7 n7 c7)):=hD fun wz hb=>by
        have h9:∀ i,wz.cell? ⟨w0.heap.size,i,none⟩=(#[.string x1,.int .i64 x2,.int .i64 x3]:Array Value)[i]?:=fun i=>(hb.cell (p:=⟨w0.heap.size,i,none⟩) (by simp)).trans (wN w0 _ _ i);exact⟨⟨h9 0,h9 1,h9 2⟩,HB8.out wz (Wa HB.out (Wa hnx hb))⟩
       obtain⟨-,b0,b1,b2,b3,b4,b5,b6,b7⟩:=HC.out _ (bR _ _);by_cases hz:x2=3
       ·subst hz;have hin:Wi x3 (countC m 3)=true:=List.all_eq_true.1 HE.out _ HMEM.out;rw[show countC m 3=n4 from HN4.out]at hin;unfold Wi at hin;rw[Bool.and_eq_true]at hin;obtain⟨j,rfl⟩:∃ j:Nat,x3=(j:Int):=⟨x3.toNat,by have:=of_decide_eq_true hin.1;omega⟩;have hj:j<n4:=by have:=of_decide_eq_true hin.2;omega
        obtain⟨g4,o4,c4',he4,_,_⟩:=Wd.some_ Q4.out (by rw[HN4.out];omega);simp only[vI]at he4;obtain⟨rfl,-,rfl⟩:=he4;have hAG:=Wd.keep (K':=fun k=>k<w0.heap.size) Q4.out (We.below HB.out fun _ hk=>hk) (fun _ hk=>Ve hk HB.out.size) (fun _ _ _ h=>h);obtain⟨v1,kg1,hg1⟩:=Wd.at_ hAG j 1 (by rw[HN4.out];exact hj) (by decide);have hg1:v1=.bool (m.globs.getD j glob0).2.1:=hg1;have kg2:(w0.alloc (.cells #[.string x1,.int .i64 3,.int .i64 (j:Int)] 102)).cell? ⟨g4,o4+j * 3+1,none⟩=some v1:=(hnx.cell (wL w0 _ kg1)).trans kg1;have hj0:decide ((0:Int)≤(j:Int))=true:=by simp
        have hj1:decide ((j:Int)<(n4:Int))=true:=by simp;omega
        have hj2:decide (j<n4)=true:=by simp;omega
        have hep:expPl m (x1,3,(j:Int))=!(m.globs.getD j glob0).2.1:=by unfold expPl;simp
        rw[hep]at HNO HYE;clear hep hin hAG HMEM;cases hv:(m.globs.getD j glob0).2.1 with
        | false =>
         rw[hv]at hg1 HYE HNO;subst hg1;have HY:=hD (HYE.out rfl);clear hv;clear HNO HYE;go_wp2;go_roundw
         case rel=>exact⟨k+1,by omega,by go_num,hD (Wa HB.out hnx),HY⟩
         case measure=>simp[intOf];omega
        | true =>
         rw[hv]at hg1 HYE HNO;subst hg1;have HF:=hD (HNO.out rfl);clear HNO HYE hv;go_wp2;go_ret;exact⟨WV (by unfold plainC;rw[HF0.out,HF6.out,HF.out];rfl),Wa HBW.out (Wa HB.out hnx)⟩
       ·have dz:(x2==3)=false:=by simpa using hz
        have HY:=hD (HYE.out (by unfold expPl;simp[hz]));clear hz;clear HNO HYE;go_wp2;go_roundw
        case rel=>exact⟨k+1,by omega,by go_num,hD (Wa HB.out hnx),HY⟩
        case measure=>simp[intOf];omega
      ·have hd:decide ((k:Int)<(n5:Int))=false:=by simp;omega
       have hd2:decide (k<n5)=false:=by simp;omega
       obtain rfl:n5=k:=by omega
       have HF5:=hD (show m.exps.all (expPl m)=true by have h:=HA.out;rw[← HN5.out]at h;exact h.done);obtain⟨b0,b1,b2,b3,b4,b5,b6,b7⟩:=HB8.out _ HB.out;by_cases hz:n3≤1
       ·have d1:decide ((n3:Int)≤(1:Int))=true:=by simp;omega
        have d2:decide (n3≤1)=true:=by simp;omega
        have HZ:=hD d2;clear hz;go_wp2;go_ret;exact⟨WV (by unfold plainC;rw[HF0.out,HF6.out,HF5.out,HN3.out,HZ.out];rfl),Wa HBW.out HB.out⟩
       ·have d1:decide ((n3:Int)≤(1:Int))=false:=by simp;omega
        have d2:decide (n3≤1)=false:=by simp;omega
        have HZ:=hD d2;clear hz;go_wp2;go_ret;exact⟨WV (by unfold plainC;rw[HF0.out,HF6.out,HF5.out,HN3.out,HZ.out];rfl),Wa HBW.out HB.out⟩):P:=h
theorem cplain_any (w:World) (v:Mv) (m:Vt) (h:W7 (fun k=>k<w.heap.size) w v m) (he:m.exps.all (expIn m)=true):Calls Tryz.prog 41 #[.agg v.cells] w (Wh (plainC m) w):=by
 have q0:=h.types;have q1:=h.imps;have q2:=h.funs;have q3:=h.mems;have q4:=h.globs;have q5:=h.exps;have q6:=h.datas;have q7:=h.cus;obtain⟨A0,c0,A1,c1,A2,c2,A3,c3,A4,c4,A5,c5,A6,c6,A7,c7,rfl⟩:=Wr h;simp only[Mv.cells]at ⊢;simp only at q0 q1 q2 q3 q4 q5 q6 q7;clear h;obtain⟨⟨n0,hn0⟩,⟨n1,hn1⟩,⟨n2,hn2⟩,⟨n3,hn3⟩,⟨n4,hn4⟩,⟨n5,hn5⟩,⟨n6,hn6⟩,⟨n7,hn7⟩⟩:=len8 m;have HN0:=hD hn0;have HN1:=hD hn1;have HN2:=hD hn2;have HN3:=hD hn3;have HN4:=hD hn4;have HN5:=hD hn5;have HN6:=hD hn6;have HN7:=hD hn7;have HE:=hD he;clear he;rw[hn0]at q0 ⊢;rw[hn1]at q1 ⊢;rw[hn2]at q2 ⊢;rw[hn3]at q3 ⊢;rw[hn4]at q4 ⊢;rw[hn5]at q5 ⊢;rw[hn6]at q6 ⊢;rw[hn7]at q7 ⊢;obtain⟨W,hW,hbw,HB8⟩:=Vv w (.slice A0 n0 c0) (.slice A1 n1 c1) (.slice A2 n2 c2) (.slice A3 n3 c3) (.slice A4 n4 c4) (.slice A5 n5 c5) (.slice A6 n6 c6) (.slice A7 n7 c7);have HBW:=hD hbw;have HB8:=hD HB8;have HW:=hD hW;have Q0:=hD (UN.keep (K':=fun k=>k<W.heap.size) q0 (We.below hbw fun _ hk=>hk) (fun _ hk=>Ve hk hbw.size));have Q6:=hD (DatasK.keep (K':=fun k=>k<W.heap.size) q6 (We.below hbw fun _ hk=>hk) (fun _ hk=>Ve hk hbw.size));have Q5:=hD (Wd.keep (K':=fun k=>k<W.heap.size) q5 (We.below hbw fun _ hk=>hk) (fun _ hk=>Ve hk hbw.size) (fun _ _ _ h=>h));have Q4:=hD (Wd.keep (K':=fun k=>k<W.heap.size) q4 (We.below hbw fun _ hk=>hk) (fun _ hk=>Ve hk hbw.size) (fun _ _ _ h=>h));clear hbw hW q0 q1 q2 q3 q4 q5 q6 q7 hn0 hn1 hn2 hn3 hn4 hn5 hn6 hn7;go_enter Tryz.func41,Tryz.ntmps41
 go_upto_region 1 with (fail)
 exact Zb
end
section
open Go.RowKit
set_option maxHeartbeats 4000000
set_option maxRecDepth 100000
theorem Zg {P:Prop}(h:P:=by
 have hxd:Below W.heap.size W X.drew:=Wa hbx (bR _ _).drew;have hgd:=HG.out.1.below hxd;have hxx:=(hgx.1.below ((bR X.heap.size X).drew)).2;have hpp:=VD HF.out hgd.1 HX.out.1 (by have:=HX.out.2.1;omega) HX.out.2.2 _ _ (hxx.ints HPX.out) (by have:=HTY.out.1;omega);rw[HR1.out]at hpp;have HPP:=hD hpp;have HGX:=hD hgd.2;have HRD:=hD (hxx.ints HRX.out);have hwr:Wq F X.drew x RR:=⟨wL X _ y0,HG.out.1.new_free hrw⟩;have HY1:Hid (∀ wz xz,Wz F X.drew x wz xz→wz.cell? ⟨RR,1,none⟩=some (.slice A9 (t.getD ([],[])).2.length e9)):=hD fun wz xz hz=>(hz.keeps.cell (p:=⟨RR,1,none⟩) hwr).trans y1;clear hX hRR hRR' hbx HP HR HB1 b0 b1 b2 b3 b4 b5 b6 b7 k1 hgx hpp hxd hgd hxx hwr hrw;cases R1 with
 | none =>
  go_upto_region 23 with (fail)
  refine wp_region_held_drew (S:=fun _=>True) (by kernel_rfl) trivial (fun hS=>?_);show wpAnyH _ _ _ _ _ 15 #[false,false,false,false,false,false,false,false,false,false,false,false,false,false,false] _ _;refine mT 0 96 rfl hS ?_;refine mT 1 97 rfl hS ?_;refine mR 2 98 rfl fun K hK=>?_;go_simp;refine hK.out _ _ trivial (fun _=>?_);clear hK K;try simp only[sA,List.set]
  refine mR 3 99 rfl fun K hK=>?_;go_simp;go_at_call 137;refine HPP.out.mono ?_;rintro e w4 ⟨x4,g4,s4,he4,l4,r4⟩;have he4:e=.returned (.bool false):=he4;subst he4;go_wp2_with fail
  refine hK.out _ _ trivial (fun _=>?_);clear hK K;try simp only[sA,List.set]
  refine U3 (S':=fun wz=>Below w4.heap.size w4 wz) (fun _ _=>trivial) ?_;replace hS:Below w4.heap.size w4 w4:=bR _ _;have HG4:=hD g4;have HS4:=hD s4;clear g4 s4 l4 r4 y0 y1;refine mT 4 100 rfl hS ?_;refine mT 5 101 rfl hS ?_;refine mN 6 102 rfl hS ?_;refine mN 7 103 rfl hS ?_;refine mN 8 104 rfl hS ?_;refine mN 9 105 rfl hS ?_;refine mN 10 106 rfl hS ?_;refine mN 11 107 rfl hS ?_;refine mN 12 108 rfl hS ?_;refine mN 13 109 rfl hS ?_;refine mT 14 110 rfl hS ?_;refine wpAnyH_done (by kernel_rfl) ?_ _;clear hS;go_wp2
  all_goals go_ret
  all_goals exact⟨x4,HG4.out,(HG.out.2.trans HGX.out).trans HS4.out,rfl,fun hx=>by cases hx⟩
 | some p1 =>
  go_upto_region 23 with (fail)
  refine wp_region_held_drew (S:=fun _=>True) (by kernel_rfl) trivial (fun hS=>?_);show wpAnyH _ _ _ _ _ 15 #[false,false,false,false,false,false,false,false,false,false,false,false,false,false,false] _ _;refine mT 0 96 rfl hS ?_;refine mT 1 97 rfl hS ?_;refine mR 2 98 rfl fun K hK=>?_;go_simp;refine hK.out _ _ trivial (fun _=>?_);clear hK K;try simp only[sA,List.set]
  refine mR 3 99 rfl fun K hK=>?_;go_simp;go_at_call 137;refine HPP.out.mono ?_;rintro e w4 ⟨x4,g4,s4,he4,l4,r4⟩;have he4:e=.returned (.bool true):=he4;subst he4;go_wp2_with fail
  refine hK.out _ _ trivial (fun _=>?_);clear hK K;try simp only[sA,List.set]
  refine U3 (S':=fun wz=>Below w4.heap.size w4 wz) (fun _ _=>trivial) ?_;replace hS:Below w4.heap.size w4 w4:=bR _ _;have hown:=g4.reads.own;obtain⟨Ao,co,eo,_⟩:=hown.form;have p10:=g4.d10 HF.out;rw[eo]at p10 hown;have HSA:=hD (dsame_is _ _ _ _ (t.getD ([],[])).2 F.ro (s4.ints HRD.out) hown);have y4:=HY1.out _ _ s4;have HBO:Hid (∀ wz,Below w4.heap.size w4 wz→wz.cell? ⟨RR,1,none⟩=some (.slice A9 (t.getD ([],[])).2.length e9)∧wz.cell? ⟨F.G,10,none⟩=some (.slice Ao F.ro.length co)):=hD fun wz hz=>⟨(hz.cell (wL w4 _ y4)).trans y4,(hz.cell (wL w4 _ p10)).trans p10⟩;have HG4:=hD g4;have HS4:=hD s4;have HL4:=hD l4;have HR4:Hid (p1=x4.pl):=hD (Option.some.inj (r4 rfl));clear g4 s4 l4 r4 y0 y1 y4 p10 hown eo;generalize F.ro.length=no at *;refine mT 4 100 rfl hS ?_;refine mT 5 101 rfl hS ?_;refine mT 6 102 rfl hS ?_;refine mT 7 103 rfl hS ?_ (hy:=by intro wS hSw;obtain⟨y4,p10⟩:=HBO.out _ hSw;go_simp;try with_reducible rfl);refine mT 8 104 rfl hS ?_;refine mT 9 105 rfl hS ?_;refine mT 10 106 rfl hS ?_;refine mT 11 107 rfl hS ?_ (hy:=by intro wS hSw;obtain⟨y4,p10⟩:=HBO.out _ hSw;go_simp;try with_reducible rfl);refine mR 12 108 rfl fun K hK=>?_;go_simp;go_at_call 168;refine HSA.out.mono ?_;rintro e w5 ⟨rfl,hb5⟩;go_wp2_with fail
  refine hK.out _ _ hb5 (fun _=>?_);clear hK K;try simp only[sA,List.set]
  refine mT 13 109 rfl hb5 ?_;refine mT 14 110 rfl hb5 ?_;refine wpAnyH_done (by kernel_rfl) ?_ _;have HG5:=hD (HG4.out.below hb5);clear hS hb5 HSA;cases hd:decide ((t.getD ([],[])).2=F.ro) with
  | false =>
   have HN:=hD (of_decide_eq_false hd);clear hd;go_wp2;go_ret;exact⟨x4,HG5.out.1,((HG.out.2.trans HGX.out).trans HS4.out).trans HG5.out.2,by first|rfl|(rw[Option.bind_some,if_neg HN.out];rfl),fun hx=>by first|(cases hx;done)|(rw[Option.bind_some,if_neg HN.out]at hx;cases hx)⟩
  | true =>
   have HN:=hD (of_decide_eq_true hd);clear hd;have HDD:=hD (ddead_any HF.out HG5.out.1 (by rw[HL4.out.1];exact HX.out.1) (by rw[Ws.top_of HL4.out.1];exact HL4.out.2.2));go_wp2_with (go_at_call 165;refine(HDD.out).mono ?_;rintro e w9 ⟨rfl,x9,g9,s9,a9,b9⟩;have HG9:=hD g9;have HS9:=hD s9;have HA9:=hD a9;have HB9:=hD b9;clear g9 s9 a9 b9)
   go_ret;exact⟨x9,HG9.out,(((HG.out.2.trans HGX.out).trans HS4.out).trans HG5.out.2).trans HS9.out,by first|rfl|(rw[Option.bind_some,if_pos HN.out];rfl),fun _=>by first|(rw[HR4.out,dead_pl HA9.out HB9.out];done)|rw[Option.bind_some,if_pos HN.out,HR4.out,dead_pl HA9.out HB9.out]⟩):P:=h
theorem dleave_18 {F:Wx} {w:World} {x:Ws} (hF:F.ref) (h:Wk F w x) (h0:0<x.f.length) (hl:x.s.length≤900000) (hh:x.top.h≤x.s.length) (hs:Vq F.m) (a b n:Int) (hty:((WB F.m a).getD ([],[])).1.length≤100000∧((WB F.m a).getD ([],[])).2.length≤100000) (Al:Option Addr) (nl cl:Nat) :
 Calls Tryz.prog 169 #[.pointer (some ⟨F.G,0,none⟩),.agg #[.int .i64 18,.int .i64 a,.int .i64 b,.int .u64 n,.slice Al nl cl]] w (VI F w x ((WC x.pl ((WB F.m a).getD ([],[])).1).bind fun q=>if ((WB F.m a).getD ([],[])).2=F.ro then some (VP q) else none)):=by
 obtain⟨W,hW⟩:∃ W,W=w.alloc (.cells #[.int .i64 18,.int .i64 a,.int .i64 b,.int .u64 n,.slice Al nl cl] 25):=⟨_,rfl⟩;have hk:∀ j:Nat,W.cell? ⟨w.heap.size,j,none⟩=(#[.int .i64 18,.int .i64 a,.int .i64 b,.int .u64 n,.slice Al nl cl]:Array Value)[j]?:=fun j=>by rw[hW,wN]
 have k0:=hk 0;have k1:=hk 1;simp only[List.getElem?_toArray,List.getElem?_cons_zero,List.getElem?_cons_succ]at k0 k1;have hgs:=h.alloc (.cells #[.int .i64 18,.int .i64 a,.int .i64 b,.int .u64 n,.slice Al nl cl] 25);rw[← hW]at hgs;have hg:=hgs.1;have HG:=hD hgs;have HX:=hD (⟨h0,hl,hh⟩:0<x.f.length∧x.s.length≤900000∧x.top.h≤x.s.length);have HCA:=hD (fun wz (hz:Below W.heap.size W wz)=>dsig_in wz F.v F.m (K:=Wq F W x) (fun k hk=>Ve hk.1 hz.size) (hg.reads.mod.keep (We.below hz fun _ hk=>hk.1) fun _ hk=>hk) hs a);obtain⟨A0,c0,A1,c1,A2,c2,A3,c3,A4,c4,A5,c5,A6,c6,A7,c7,hv⟩:=Wr hg.reads.mod;have HX1:Hid (∀ wz,Below W.heap.size W wz→wz.cell? ⟨w.heap.size,1,none⟩=some (.int .i64 a)):=hD fun wz hz=>(hz.cell (p:=⟨w.heap.size,1,none⟩) (wL W _ k1)).trans k1;have HY:Hid (∀ wz,Below W.heap.size W wz→∀ j,wz.cell? ⟨F.G,j,none⟩=(WN F x)[j]?):=hD fun wz hz j=>(hg.below hz).1.cell j;unfold WN at HY;rw[hF.1,hv]at HY;rw[hv]at HCA;simp only[Mv.cells,if_true]at HCA HY;generalize F.m.types.length=n0 at *;generalize F.m.imps.length=n1 at *;generalize F.m.funs.length=n2 at *;generalize F.m.mems.length=n3 at *;generalize F.m.globs.length=n4 at *;generalize F.m.exps.length=n5 at *;generalize F.m.datas.length=n6 at *;generalize F.m.cus.length=n7 at *;have HW:=hD hW;have HF:=hD hF;have HTY:=hD hty;have HS:Hid (∀ wz,Below W.heap.size W wz→wz.cell? ⟨F.G,0,none⟩=some (.slice A0 n0 c0)∧wz.cell? ⟨F.G,1,none⟩=some (.slice A1 n1 c1)∧wz.cell? ⟨F.G,2,none⟩=some (.slice A2 n2 c2)∧wz.cell? ⟨F.G,3,none⟩=some (.slice A3 n3 c3)∧wz.cell? ⟨F.G,4,none⟩=some (.slice A4 n4 c4)∧wz.cell? ⟨F.G,5,none⟩=some (.slice A5 n5 c5)∧wz.cell? ⟨F.G,6,none⟩=some (.slice A6 n6 c6)∧wz.cell? ⟨F.G,7,none⟩=some (.slice A7 n7 c7)∧wz.cell? ⟨w.heap.size,1,none⟩=some (.int .i64 a)):=hD fun wz hz=>⟨HY.out wz hz 0,HY.out wz hz 1,HY.out wz hz 2,HY.out wz hz 3,HY.out wz hz 4,HY.out wz hz 5,HY.out wz hz 6,HY.out wz hz 7,HX1.out wz hz⟩;generalize WB F.m a=t at HCA HTY ⊢;obtain⟨R1,hR1⟩:∃ R1,WC x.pl (t.getD ([],[])).1=R1:=⟨_,rfl⟩;rw[hR1];have HR1:=hD hR1;clear h hg hgs hv hW hF hs HX1 HY hk h0 hl hh hty hR1;go_enter Tryz.func169,Tryz.ntmps169
 go_upto_region 1 with (fail)
 rw[← HW.out]
 go_upto_region 22 with (fail)
 clear k0 k1;obtain⟨b0,b1,b2,b3,b4,b5,b6,b7,k1⟩:=HS.out W (bR W.heap.size W)
 go_region_held3 (fun wz=>wz.cell? ⟨F.G,0,none⟩=some (.slice A0 n0 c0)∧wz.cell? ⟨F.G,1,none⟩=some (.slice A1 n1 c1)∧wz.cell? ⟨F.G,2,none⟩=some (.slice A2 n2 c2)∧wz.cell? ⟨F.G,3,none⟩=some (.slice A3 n3 c3)∧wz.cell? ⟨F.G,4,none⟩=some (.slice A4 n4 c4)∧wz.cell? ⟨F.G,5,none⟩=some (.slice A5 n5 c5)∧wz.cell? ⟨F.G,6,none⟩=some (.slice A6 n6 c6)∧wz.cell? ⟨F.G,7,none⟩=some (.slice A7 n7 c7)∧wz.cell? ⟨w.heap.size,1,none⟩=some (.int .i64 a))
  (first|go_keep|exact⟨b0,b1,b2,b3,b4,b5,b6,b7,k1⟩|exact HS.out _ HB1.out|exact HS.out _ (Wb HB1.out _)|exact HS.out _ (WL HB1.out (Below.size (bR W.heap.size W))))
  ((go_at_call 77;refine(HCA.out _ (by first|exact Wa (bR W.heap.size W) ((bR _ _).drew)|exact Wa (bR W.heap.size W) (Wb ((bR _ _).drew) _))).mono ?_;rintro e w1 ⟨p,q,rfl,hp,hq,hb1⟩;obtain⟨A8,e8,rfl,_,_⟩:=hp.form;obtain⟨A9,e9,rfl,_,_⟩:=hq.form;have HB1:Hid (Below W.heap.size W w1):=hD (by first|exact Wa (Wa (bR W.heap.size W) ((bR _ _).drew)) hb1|exact Wa (Wa (bR W.heap.size W) (Wb ((bR _ _).drew) _)) hb1);(first|(have hN:=Vj (W).drew (.cells #[.slice none 0 0,.slice none 0 0] 40);have hZ:w1.heap[(W).heap.size]?=some (.cells #[.slice none 0 0,.slice none 0 0] 40 (0,0)):=(hb1.block (W).heap.size (Array.getElem?_eq_some_iff.1 hN).1).trans hN;clear hN;have z0:=WG hZ 0;have z1:=WG hZ 1;have f0:=Va hZ 0;have f1:=Va hZ 1;simp only[List.getElem?_toArray,List.getElem?_cons_zero,List.getElem?_cons_succ]at z0 z1;have HZ:=hD hZ;clear hZ)|skip);have HP:=hD hp;have HR:=hD hq;clear hp hq hb1))
 ·skip
  obtain⟨X,hX⟩:∃ X,X=w1.alloc (.cells #[.slice A8 (t.getD ([],[])).1.length e8,.slice A9 (t.getD ([],[])).2.length e9] 40):=⟨_,rfl⟩;obtain⟨RR,hRR⟩:∃ RR,RR=w1.heap.size:=⟨_,rfl⟩;have y0:X.cell? ⟨RR,0,none⟩=some (.slice A8 (t.getD ([],[])).1.length e8):=by rw[hX,hRR,wN];rfl
  have y1:X.cell? ⟨RR,1,none⟩=some (.slice A9 (t.getD ([],[])).2.length e9):=by rw[hX,hRR,wN];rfl
  have hbx:Below W.heap.size W X:=hX ▸ Wb HB1.out _;have hkx:We (fun k=>(k<W.heap.size∨W.drew.heap.size≤k)∧k<w1.heap.size) w1 X:=hX ▸ We.below (Wb (bR w1.heap.size w1) _) fun _ hk=>hk.2;have HPX:=hD (VN HG.out.1 (by exact nR _) HP.out HB1.out.size hkx);have HRX:=hD (VN HG.out.1 (by exact nR _) HR.out HB1.out.size hkx);clear hkx;have hRR':=hRR;rw[← hX,← hRR];have hgx:=HG.out.1.below hbx;have hrw:W.heap.size≤RR:=by rw[hRR'];exact HB1.out.size
  exact Zg
 ·skip
  obtain⟨X,hX⟩:∃ X,X=(w1.setCell ⟨W.heap.size,0,none⟩ (.slice A8 (t.getD ([],[])).1.length e8)).setCell ⟨W.heap.size,1,none⟩ (.slice A9 (t.getD ([],[])).2.length e9):=⟨_,rfl⟩;obtain⟨RR,hRR⟩:∃ RR,RR=W.heap.size:=⟨_,rfl⟩;have s1:=Wg w1 W.heap.size 0 _ _ (.slice A8 (t.getD ([],[])).1.length e8) HZ.out;have s2:=Wg _ W.heap.size 1 _ _ (.slice A9 (t.getD ([],[])).2.length e9) s1;rw[← hX,← hRR]at s2;have y0:X.cell? ⟨RR,0,none⟩=some (.slice A8 (t.getD ([],[])).1.length e8):=WG s2 0;have y1:X.cell? ⟨RR,1,none⟩=some (.slice A9 (t.getD ([],[])).2.length e9):=WG s2 1;have hbx:Below W.heap.size W X:=hX ▸ WL HB1.out (Below.size (bR W.heap.size W));have hkx:We (fun k=>(k<W.heap.size∨(W.drew.alloc (.cells #[.slice none 0 0,.slice none 0 0] 40)).heap.size≤k)∧k<w1.heap.size) w1 X:=hX ▸ (keeps_two w1 W.heap.size _ _).mono fun k hk e=>by
   exact Zbr
  have HPX:=hD (VN HG.out.1 (by show W.heap.size≤(W.drew.alloc (.cells #[.slice none 0 0,.slice none 0 0] 40)).heap.size;rw[Wj];exact Nat.le_succ _) HP.out HB1.out.size hkx);have HRX:=hD (VN HG.out.1 (by show W.heap.size≤(W.drew.alloc (.cells #[.slice none 0 0,.slice none 0 0] 40)).heap.size;rw[Wj];exact Nat.le_succ _) HR.out HB1.out.size hkx);clear s1 s2 z0 z1 f0 f1 hkx;have hRR':=hRR;rw[← hX,← hRR];have hgx:=HG.out.1.below hbx;have hrw:W.heap.size≤RR:=by rw[hRR'];exact nR _
  exact Zg
end
section
open Go.RowKit
set_option maxHeartbeats 4000000
set_option maxRecDepth 100000
theorem dflat_any (w:World) (v:Mv) (m:Vt) (h:W7 (fun k=>k<w.heap.size) w v m) (he:m.exps.all (expIn m)=true):Calls Tryz.prog 78 #[.agg v.cells] w (Wh (plainC m) w):=by
 have q0:=h.types;have q1:=h.imps;have q2:=h.funs;have q3:=h.mems;have q4:=h.globs;have q5:=h.exps;have q6:=h.datas;have q7:=h.cus;obtain⟨A0,c0,A1,c1,A2,c2,A3,c3,A4,c4,A5,c5,A6,c6,A7,c7,rfl⟩:=Wr h;simp only[Mv.cells]at ⊢;simp only at q0 q1 q2 q3 q4 q5 q6 q7;clear h;obtain⟨⟨n0,hn0⟩,⟨n1,hn1⟩,⟨n2,hn2⟩,⟨n3,hn3⟩,⟨n4,hn4⟩,⟨n5,hn5⟩,⟨n6,hn6⟩,⟨n7,hn7⟩⟩:=len8 m;have HN0:=hD hn0;have HN1:=hD hn1;have HN2:=hD hn2;have HN3:=hD hn3;have HN4:=hD hn4;have HN5:=hD hn5;have HN6:=hD hn6;have HN7:=hD hn7;have HE:=hD he;clear he;rw[hn0]at q0 ⊢;rw[hn1]at q1 ⊢;rw[hn2]at q2 ⊢;rw[hn3]at q3 ⊢;rw[hn4]at q4 ⊢;rw[hn5]at q5 ⊢;rw[hn6]at q6 ⊢;rw[hn7]at q7 ⊢;obtain⟨W,hW,hbw,HB8⟩:=Vv w (.slice A0 n0 c0) (.slice A1 n1 c1) (.slice A2 n2 c2) (.slice A3 n3 c3) (.slice A4 n4 c4) (.slice A5 n5 c5) (.slice A6 n6 c6) (.slice A7 n7 c7);have HBW:=hD hbw;have HB8:=hD HB8;have HW:=hD hW;have Q0:=hD (UN.keep (K':=fun k=>k<W.heap.size) q0 (We.below hbw fun _ hk=>hk) (fun _ hk=>Ve hk hbw.size));have Q6:=hD (DatasK.keep (K':=fun k=>k<W.heap.size) q6 (We.below hbw fun _ hk=>hk) (fun _ hk=>Ve hk hbw.size));have Q5:=hD (Wd.keep (K':=fun k=>k<W.heap.size) q5 (We.below hbw fun _ hk=>hk) (fun _ hk=>Ve hk hbw.size) (fun _ _ _ h=>h));have Q4:=hD (Wd.keep (K':=fun k=>k<W.heap.size) q4 (We.below hbw fun _ hk=>hk) (fun _ hk=>Ve hk hbw.size) (fun _ _ _ h=>h));clear hbw hW q0 q1 q2 q3 q4 q5 q6 q7 hn0 hn1 hn2 hn3 hn4 hn5 hn6 hn7;go_enter Tryz.func78,Tryz.ntmps78
 go_upto_region 1 with (fail)
 exact Zb
end
section
open Go.RowKit
set_option maxHeartbeats 4000000
set_option maxRecDepth 100000
theorem cmemsExist_any (w:World) (v:Mv) (m:Vt) (h:W7 (fun k=>k<w.heap.size) w v m):Calls Tryz.prog 40 #[.agg v.cells] w (Wh (m.datas.all (datIn m.mems.length)) w):=by
 have q0:=h.types;have q1:=h.imps;have q2:=h.funs;have q3:=h.mems;have q4:=h.globs;have q5:=h.exps;have q6:=h.datas;have q7:=h.cus;obtain⟨A0,c0,A1,c1,A2,c2,A3,c3,A4,c4,A5,c5,A6,c6,A7,c7,rfl⟩:=Wr h;simp only[Mv.cells]at ⊢;simp only at q0 q1 q2 q3 q4 q5 q6 q7;clear h;obtain⟨⟨n0,hn0⟩,⟨n1,hn1⟩,⟨n2,hn2⟩,⟨n3,hn3⟩,⟨n4,hn4⟩,⟨n5,hn5⟩,⟨n6,hn6⟩,⟨n7,hn7⟩⟩:=len8 m;have HN0:=hD hn0;have HN1:=hD hn1;have HN2:=hD hn2;have HN3:=hD hn3;have HN4:=hD hn4;have HN5:=hD hn5;have HN6:=hD hn6;have HN7:=hD hn7;rw[hn0]at q0 ⊢;rw[hn1]at q1 ⊢;rw[hn2]at q2 ⊢;rw[hn3]at q3 ⊢;rw[hn4]at q4 ⊢;rw[hn5]at q5 ⊢;rw[hn6]at q6 ⊢;rw[hn7]at q7 ⊢;obtain⟨W,hW,hbw,HB8⟩:=Vv w (.slice A0 n0 c0) (.slice A1 n1 c1) (.slice A2 n2 c2) (.slice A3 n3 c3) (.slice A4 n4 c4) (.slice A5 n5 c5) (.slice A6 n6 c6) (.slice A7 n7 c7);have HBW:=hD hbw;have HB8:=hD HB8;have HW:=hD hW;have Q6:=hD (DatasK.keep (K':=fun k=>k<W.heap.size) q6 (We.below hbw fun _ hk=>hk) (fun _ hk=>Ve hk hbw.size));clear hbw hW q0 q1 q2 q3 q4 q5 q6 q7 hn0 hn1 hn2 hn3 hn4 hn5 hn6 hn7;go_enter Tryz.func40,Tryz.ntmps40
 go_upto_region 1 with (fail)
 rw[← HW.out];obtain⟨b0,b1,b2,b3,b4,b5,b6,b7⟩:=HB8.out W (bR _ _);go_wp2_with fail
 clear b0 b1 b2 b3 b4 b5 b6 b7;go_loopw [8] (fun i wr=>∃ k:Nat,k≤n6∧i=.int .i64 (k:Int)∧Hid (Below W.heap.size W wr)∧Hid (W0 (datIn n3) m.datas dat0 k)) (fun i _=>n6 - (intOf i).toNat)
 case atStart=>exact⟨0,nZ _,rfl,hD (bR _ _),hD (W0.zero _ _ _)⟩
 case round =>
  obtain⟨w0,rfl⟩:∃ w0,w0=wr:=⟨_,rfl⟩;obtain⟨k,hk,rfl,HB,HA⟩:=hrel;by_cases hlt:k<n6
  ·have hd:decide ((k:Int)<(n6:Int))=true:=by simp;omega
   have hd2:decide (k<n6)=true:=by simp;omega
   obtain⟨g,o,c',he,hq1,hq2⟩:=Wd.some_ Q6.out (by rw[HN6.out];omega);rw[HN6.out]at hq1;unfold maxLen at hq2;simp only[vI]at he;obtain⟨rfl,-,rfl⟩:=he;have hAT:=DatasK.keep (K':=fun k=>k<w0.heap.size) Q6.out (We.below HB.out fun _ hk=>hk) (fun _ hk=>Ve hk HB.out.size);obtain⟨u0,k0,h0⟩:=Wd.at_ hAT k 0 (by rw[HN6.out];exact hlt) (by decide);obtain⟨u1,k1,h1⟩:=Wd.at_ hAT k 1 (by rw[HN6.out];exact hlt) (by decide);obtain⟨u2,k2,h2⟩:=Wd.at_ hAT k 2 (by rw[HN6.out];exact hlt) (by decide);obtain⟨u3,k3,h3⟩:=Wd.at_ hAT k 3 (by rw[HN6.out];exact hlt) (by decide);have HMEM:=hD (WA m.datas k dat0 (by rw[HN6.out];exact hlt));have HNO:=hD (fun (h:(datIn n3) (m.datas.getD k dat0)=false)=>VM (p:=datIn n3) (by rw[HN6.out];exact hlt) h);have HYE:=hD (fun (h:(datIn n3) (m.datas.getD k dat0)=true)=>HA.out.succ h);clear hAT;generalize m.datas.getD k dat0=x at h0 h1 h2 h3 HNO HYE HMEM;obtain⟨x1,x2,x3,x4⟩:=x;obtain rfl:u0=.bool x1:=h0;obtain rfl:u1=.int .i64 x2:=h1;obtain rfl:u2=.int .i64 x3:=h2;obtain⟨P3,p3,rfl,_,_⟩:=h3;generalize x4.length=m3 at k3;rw[Nat.add_zero]at k0;have hnx:=Wb (bR w0.heap.size w0) (.cells #[.bool x1,.int .i64 x2,.int .i64 x3,.slice P3 m3 p3] 61);have HC:Hid (∀ wz,Below (w0.alloc (.cells #[.bool x1,.int .i64 x2,.int .i64 x3,.slice P3 m3 p3] 61)).heap.size (w0.alloc (.cells #[.bool x1,.int .i64 x2,.int .i64 x3,.slice P3 m3 p3] 61)) wz→(wz.cell? ⟨w0.heap.size,0,none⟩=some (.bool x1)∧wz.cell? ⟨w0.heap.size,1,none⟩=some (.int .i64 x2)∧wz.cell? ⟨w0.heap.size,2,none⟩=some (.int .i64 x3)∧wz.cell? ⟨w0.heap.size,3,none⟩=some (.slice P3 m3 p3))∧Box8 wz w.heap.size (.slice A0 n0 c0) (.slice A1 n1 c1) (.slice A2 n2 c2) (.slice A3 n3 c3) (.slice A4 n4 c4) (.slice A5 n5 c5) (.slice (some ⟨g,o,none⟩) n6 c6) (.slice A7 n7 c7)):=hD fun wz hb=>by
    have h9:∀ i,wz.cell? ⟨w0.heap.size,i,none⟩=(#[.bool x1,.int .i64 x2,.int .i64 x3,.slice P3 m3 p3]:Array Value)[i]?:=fun i=>(hb.cell (p:=⟨w0.heap.size,i,none⟩) (by simp)).trans (wN w0 _ _ i);exact⟨⟨h9 0,h9 1,h9 2,h9 3⟩,HB8.out wz (Wa HB.out (Wa hnx hb))⟩
   obtain⟨-,b0,b1,b2,b3,b4,b5,b6,b7⟩:=HC.out _ (bR _ _);cases x1 with
   | false =>
    have HY:=hD (HYE.out rfl);clear HNO HYE;go_wp2;exact ZK
   | true =>
    cases hb0:(Wi x2 n3) with
    | false =>
     have HF:=hD (HNO.out hb0);have HBZ:=hD hb0;clear HNO HYE;go_wp2_with (go_at_call 72;refine(chkin_any _ _ _).mono ?_;rintro e w1 ⟨rfl,rfl⟩;try rw[HBZ.out])
     go_ret;exact⟨WV (by rw[HF.out]),Wa HBW.out (Wa HB.out hnx)⟩
    | true =>
     have HY:=hD (HYE.out hb0);have HBZ:=hD hb0;clear HNO HYE;go_wp2_with (go_at_call 72;refine(chkin_any _ _ _).mono ?_;rintro e w1 ⟨rfl,rfl⟩;try rw[HBZ.out])
     exact ZK
  ·have hd:decide ((k:Int)<(n6:Int))=false:=by simp;omega
   have hd2:decide (k<n6)=false:=by simp;omega
   obtain rfl:n6=k:=by omega
   have HF6:=hD (show m.datas.all (datIn n3)=true by have h:=HA.out;rw[← HN6.out]at h;exact h.done);obtain⟨b0,b1,b2,b3,b4,b5,b6,b7⟩:=HB8.out _ HB.out;go_wp2;go_ret;exact⟨WV (by rw[HF6.out]),Wa HBW.out HB.out⟩
end
end Go.Proofs.YtmfpnfdinoofpaaGreatDoor
