/- A part of the proof. -/
import Derived.Test.YtepgopnnaeoolaaGreatDoorJ48
namespace Go.Proofs.YtepgopnnaeoolaaGreatDoor
section
open Go.RowKit
set_option maxHeartbeats 4000000
set_option maxRecDepth 100000
theorem cmemsExist_any (w:World) (v:Mv) (m:W8) (h:WQ (fun k=>k<w.heap.size) w v m):Calls Tryz.prog 20 #[.agg v.cells] w (Wo (m.datas.all (datIn m.mems.length)) w):=by
 have q0:=h.types;have q1:=h.imps;have q2:=h.funs;have q3:=h.mems;have q4:=h.globs;have q5:=h.exps;have q6:=h.datas;have q7:=h.cus;obtain⟨A0,c0,A1,c1,A2,c2,A3,c3,A4,c4,A5,c5,A6,c6,A7,c7,rfl⟩:=WC h;simp only[Mv.cells]at ⊢;simp only at q0 q1 q2 q3 q4 q5 q6 q7;clear h;obtain⟨n0,hn0⟩:∃ n,m.types.length=n:=⟨_,rfl⟩;obtain⟨n1,hn1⟩:∃ n,m.imps.length=n:=⟨_,rfl⟩;obtain⟨n2,hn2⟩:∃ n,m.funs.length=n:=⟨_,rfl⟩;obtain⟨n3,hn3⟩:∃ n,m.mems.length=n:=⟨_,rfl⟩;obtain⟨n4,hn4⟩:∃ n,m.globs.length=n:=⟨_,rfl⟩;obtain⟨n5,hn5⟩:∃ n,m.exps.length=n:=⟨_,rfl⟩;obtain⟨n6,hn6⟩:∃ n,m.datas.length=n:=⟨_,rfl⟩;obtain⟨n7,hn7⟩:∃ n,m.cus.length=n:=⟨_,rfl⟩;have HN0:=hD hn0;have HN1:=hD hn1;have HN2:=hD hn2;have HN3:=hD hn3;have HN4:=hD hn4;have HN5:=hD hn5;have HN6:=hD hn6;have HN7:=hD hn7;rw[hn0]at q0 ⊢;rw[hn1]at q1 ⊢;rw[hn2]at q2 ⊢;rw[hn3]at q3 ⊢;rw[hn4]at q4 ⊢;rw[hn5]at q5 ⊢;rw[hn6]at q6 ⊢;rw[hn7]at q7 ⊢;obtain⟨W,hW⟩:∃ W,W=w.alloc (.cells #[.slice A0 n0 c0,.slice A1 n1 c1,.slice A2 n2 c2,.slice A3 n3 c3,.slice A4 n4 c4,.slice A5 n5 c5,.slice A6 n6 c6,.slice A7 n7 c7] 33):=⟨_,rfl⟩;have hbw:Below w.heap.size w W:=hW ▸ (bR _ _).alloc (nR _) _;have HBW:=hD hbw;have HB8:Hid (∀ wz,Below W.heap.size W wz→V4 wz w.heap.size (.slice A0 n0 c0) (.slice A1 n1 c1) (.slice A2 n2 c2) (.slice A3 n3 c3) (.slice A4 n4 c4) (.slice A5 n5 c5) (.slice A6 n6 c6) (.slice A7 n7 c7)):=hD fun wz hz=>by rw[hW]at hz;exact Vq w _ _ _ _ _ _ _ _ hz
 have HW:=hD hW;have Q6:=hD (Vp.keep (K':=fun k=>k<W.heap.size) q6 (Wf.below hbw fun _ hk=>hk) (fun _ hk=>WW hk hbw.size));clear hbw hW q0 q1 q2 q3 q4 q5 q6 q7 hn0 hn1 hn2 hn3 hn4 hn5 hn6 hn7;go_enter Tryz.func20,Tryz.ntmps20
 go_upto_region 1 with (fail)
 rw[← HW.out];obtain⟨b0,b1,b2,b3,b4,b5,b6,b7⟩:=HB8.out W (bR _ _);go_wp2_with fail
 clear b0 b1 b2 b3 b4 b5 b6 b7;go_loopw [8] (fun i wr=>∃ k:Nat,k≤n6∧i=.int .i64 (k:Int)∧Hid (Below W.heap.size W wr)∧Hid (Va (datIn n3) m.datas dat0 k)) (fun i _=>n6 - (intOf i).toNat)
 case atStart=>exact⟨0,nZ _,rfl,hD (bR _ _),hD (Va.zero _ _ _)⟩
 case round =>
  obtain⟨w0,rfl⟩:∃ w0,w0=wr:=⟨_,rfl⟩;obtain⟨k,hk,rfl,HB,HA⟩:=hrel;by_cases hlt:k<n6
  ·have hd:decide ((k:Int)<(n6:Int))=true:=by simp;omega
   have hd2:decide (k<n6)=true:=by simp;omega
   obtain⟨g,o,c',he,hq1,hq2⟩:=Wd.some_ Q6.out (by rw[HN6.out];omega);rw[HN6.out]at hq1;unfold maxLen at hq2;simp only[vI]at he;obtain⟨rfl,-,rfl⟩:=he;have hAT:=Vp.keep (K':=fun k=>k<w0.heap.size) Q6.out (Wf.below HB.out fun _ hk=>hk) (fun _ hk=>WW hk HB.out.size);obtain⟨u0,k0,h0⟩:=Wd.at_ hAT k 0 (by rw[HN6.out];exact hlt) (by decide);obtain⟨u1,k1,h1⟩:=Wd.at_ hAT k 1 (by rw[HN6.out];exact hlt) (by decide);obtain⟨u2,k2,h2⟩:=Wd.at_ hAT k 2 (by rw[HN6.out];exact hlt) (by decide);obtain⟨u3,k3,h3⟩:=Wd.at_ hAT k 3 (by rw[HN6.out];exact hlt) (by decide);have HMEM:=hD (Ve m.datas k dat0 (by rw[HN6.out];exact hlt));have HNO:=hD (fun (h:(datIn n3) (m.datas.getD k dat0)=false)=>Uc (p:=datIn n3) (by rw[HN6.out];exact hlt) h);have HYE:=hD (fun (h:(datIn n3) (m.datas.getD k dat0)=true)=>HA.out.succ h);clear hAT;generalize m.datas.getD k dat0=x at h0 h1 h2 h3 HNO HYE HMEM;obtain⟨x1,x2,x3,x4⟩:=x;obtain rfl:u0=.bool x1:=h0;obtain rfl:u1=.int .i64 x2:=h1;obtain rfl:u2=.int .i64 x3:=h2;obtain⟨P3,p3,rfl,_,_⟩:=h3;generalize x4.length=m3 at k3;rw[Nat.add_zero]at k0;have hnx:=Wi (bR w0.heap.size w0) (.cells #[.bool x1,.int .i64 x2,.int .i64 x3,.slice P3 m3 p3] 57);have HC:Hid (∀ wz,Below (w0.alloc (.cells #[.bool x1,.int .i64 x2,.int .i64 x3,.slice P3 m3 p3] 57)).heap.size (w0.alloc (.cells #[.bool x1,.int .i64 x2,.int .i64 x3,.slice P3 m3 p3] 57)) wz→(wz.cell? ⟨w0.heap.size,0,none⟩=some (.bool x1)∧wz.cell? ⟨w0.heap.size,1,none⟩=some (.int .i64 x2)∧wz.cell? ⟨w0.heap.size,2,none⟩=some (.int .i64 x3)∧wz.cell? ⟨w0.heap.size,3,none⟩=some (.slice P3 m3 p3))∧V4 wz w.heap.size (.slice A0 n0 c0) (.slice A1 n1 c1) (.slice A2 n2 c2) (.slice A3 n3 c3) (.slice A4 n4 c4) (.slice A5 n5 c5) (.slice (some ⟨g,o,none⟩) n6 c6) (.slice A7 n7 c7)):=hD fun wz hb=>by
    have h9:∀ i,wz.cell? ⟨w0.heap.size,i,none⟩=(#[.bool x1,.int .i64 x2,.int .i64 x3,.slice P3 m3 p3]:Array Value)[i]?:=fun i=>(hb.cell (p:=⟨w0.heap.size,i,none⟩) (by simp)).trans (wN w0 _ _ i);exact⟨⟨h9 0,h9 1,h9 2,h9 3⟩,HB8.out wz (Wa HB.out (Wa hnx hb))⟩
   obtain⟨-,b0,b1,b2,b3,b4,b5,b6,b7⟩:=HC.out _ (bR _ _);cases x1 with
   | false =>
    exact Zb4
   | true =>
    cases hb0:(Wm x2 n3) with
    | false =>
     have HF:=hD (HNO.out hb0);have HBZ:=hD hb0;clear HNO HYE;go_wp2_with (go_at_call 40;refine(chkin_any _ _ _).mono ?_;rintro e w1 ⟨rfl,rfl⟩;try rw[HBZ.out])
     go_ret;exact⟨WM (by rw[HF.out]),Wa HBW.out (Wa HB.out hnx)⟩
    | true =>
     have HY:=hD (HYE.out hb0);have HBZ:=hD hb0;clear HNO HYE;go_wp2_with (go_at_call 40;refine(chkin_any _ _ _).mono ?_;rintro e w1 ⟨rfl,rfl⟩;try rw[HBZ.out])
     exact ZB
  ·have hd:decide ((k:Int)<(n6:Int))=false:=by simp;omega
   have hd2:decide (k<n6)=false:=by simp;omega
   obtain rfl:n6=k:=by omega
   have HF6:=hD (show m.datas.all (datIn n3)=true by have h:=HA.out;rw[← HN6.out]at h;exact h.done);obtain⟨b0,b1,b2,b3,b4,b5,b6,b7⟩:=HB8.out _ HB.out;go_wp2;go_ret;exact⟨WM (by rw[HF6.out]),Wa HBW.out HB.out⟩
end
section
open Go.RowKit
set_option maxHeartbeats 4000000
set_option maxRecDepth 100000
theorem ZbH {P:Prop}(h:P:=by
 have HZ:=hD d2;clear hz;go_wp2;go_ret;exact⟨WM (by unfold plainC;rw[HF0.out,HF6.out,HF5.out,HN3.out,HZ.out];rfl),Wa HBW.out HB.out⟩):P:=h
theorem cplain_any (w:World) (v:Mv) (m:W8) (h:WQ (fun k=>k<w.heap.size) w v m) (he:m.exps.all (expIn m)=true):Calls Tryz.prog 21 #[.agg v.cells] w (Wo (plainC m) w):=by
 have q0:=h.types;have q1:=h.imps;have q2:=h.funs;have q3:=h.mems;have q4:=h.globs;have q5:=h.exps;have q6:=h.datas;have q7:=h.cus;obtain⟨A0,c0,A1,c1,A2,c2,A3,c3,A4,c4,A5,c5,A6,c6,A7,c7,rfl⟩:=WC h;simp only[Mv.cells]at ⊢;simp only at q0 q1 q2 q3 q4 q5 q6 q7;clear h;obtain⟨n0,hn0⟩:∃ n,m.types.length=n:=⟨_,rfl⟩;obtain⟨n1,hn1⟩:∃ n,m.imps.length=n:=⟨_,rfl⟩;obtain⟨n2,hn2⟩:∃ n,m.funs.length=n:=⟨_,rfl⟩;obtain⟨n3,hn3⟩:∃ n,m.mems.length=n:=⟨_,rfl⟩;obtain⟨n4,hn4⟩:∃ n,m.globs.length=n:=⟨_,rfl⟩;obtain⟨n5,hn5⟩:∃ n,m.exps.length=n:=⟨_,rfl⟩;obtain⟨n6,hn6⟩:∃ n,m.datas.length=n:=⟨_,rfl⟩;obtain⟨n7,hn7⟩:∃ n,m.cus.length=n:=⟨_,rfl⟩;have HN0:=hD hn0;have HN1:=hD hn1;have HN2:=hD hn2;have HN3:=hD hn3;have HN4:=hD hn4;have HN5:=hD hn5;have HN6:=hD hn6;have HN7:=hD hn7;have HE:=hD he;clear he;rw[hn0]at q0 ⊢;rw[hn1]at q1 ⊢;rw[hn2]at q2 ⊢;rw[hn3]at q3 ⊢;rw[hn4]at q4 ⊢;rw[hn5]at q5 ⊢;rw[hn6]at q6 ⊢;rw[hn7]at q7 ⊢;obtain⟨W,hW⟩:∃ W,W=w.alloc (.cells #[.slice A0 n0 c0,.slice A1 n1 c1,.slice A2 n2 c2,.slice A3 n3 c3,.slice A4 n4 c4,.slice A5 n5 c5,.slice A6 n6 c6,.slice A7 n7 c7] 33):=⟨_,rfl⟩;have hbw:Below w.heap.size w W:=hW ▸ (bR _ _).alloc (nR _) _;have HBW:=hD hbw;have HB8:Hid (∀ wz,Below W.heap.size W wz→V4 wz w.heap.size (.slice A0 n0 c0) (.slice A1 n1 c1) (.slice A2 n2 c2) (.slice A3 n3 c3) (.slice A4 n4 c4) (.slice A5 n5 c5) (.slice A6 n6 c6) (.slice A7 n7 c7)):=hD fun wz hz=>by rw[hW]at hz;exact Vq w _ _ _ _ _ _ _ _ hz
 have HW:=hD hW;have Q0:=hD (Vo.keep (K':=fun k=>k<W.heap.size) q0 (Wf.below hbw fun _ hk=>hk) (fun _ hk=>WW hk hbw.size));have Q6:=hD (Vp.keep (K':=fun k=>k<W.heap.size) q6 (Wf.below hbw fun _ hk=>hk) (fun _ hk=>WW hk hbw.size));have Q5:=hD (Wd.keep (K':=fun k=>k<W.heap.size) q5 (Wf.below hbw fun _ hk=>hk) (fun _ hk=>WW hk hbw.size) (fun _ _ _ h=>h));have Q4:=hD (Wd.keep (K':=fun k=>k<W.heap.size) q4 (Wf.below hbw fun _ hk=>hk) (fun _ hk=>WW hk hbw.size) (fun _ _ _ h=>h));clear hbw hW q0 q1 q2 q3 q4 q5 q6 q7 hn0 hn1 hn2 hn3 hn4 hn5 hn6 hn7;go_enter Tryz.func21,Tryz.ntmps21
 go_upto_region 1 with (fail)
 rw[← HW.out];obtain⟨b0,b1,b2,b3,b4,b5,b6,b7⟩:=HB8.out W (bR _ _);go_wp2_with fail
 clear b0 b1 b2 b3 b4 b5 b6 b7;go_loopw [12] (fun i wr=>∃ k:Nat,k≤n0∧i=.int .i64 (k:Int)∧Hid (Below W.heap.size W wr)∧Hid (Va (typPl) m.types ([],[]) k)) (fun i _=>n0 - (intOf i).toNat)
 case atStart=>exact⟨0,nZ _,rfl,hD (bR _ _),hD (Va.zero _ _ _)⟩
 case round =>
  obtain⟨w0,rfl⟩:∃ w0,w0=wr:=⟨_,rfl⟩;obtain⟨k,hk,rfl,HB,HA⟩:=hrel;by_cases hlt:k<n0
  ·have hd:decide ((k:Int)<(n0:Int))=true:=by simp;omega
   have hd2:decide (k<n0)=true:=by simp;omega
   obtain⟨g,o,c',he,hq1,hq2⟩:=Wd.some_ Q0.out (by rw[HN0.out];omega);rw[HN0.out]at hq1;unfold maxLen at hq2;simp only[vI]at he;obtain⟨rfl,-,rfl⟩:=he;have hAT:=Vo.keep (K':=fun k=>k<w0.heap.size) Q0.out (Wf.below HB.out fun _ hk=>hk) (fun _ hk=>WW hk HB.out.size);obtain⟨u0,k0,h0⟩:=Wd.at_ hAT k 0 (by rw[HN0.out];exact hlt) (by decide);obtain⟨u1,k1,h1⟩:=Wd.at_ hAT k 1 (by rw[HN0.out];exact hlt) (by decide);have HMEM:=hD (Ve m.types k ([],[]) (by rw[HN0.out];exact hlt));have HNO:=hD (fun (h:(typPl) (m.types.getD k ([],[]))=false)=>Uc (p:=typPl) (by rw[HN0.out];exact hlt) h);have HYE:=hD (fun (h:(typPl) (m.types.getD k ([],[]))=true)=>HA.out.succ h);clear hAT;generalize m.types.getD k ([],[])=x at h0 h1 HNO HYE HMEM;obtain⟨x1,x2⟩:=x;have h0:Wg (fun g=>g<w0.heap.size) w0 u0 x1:=h0;have h1:Wg (fun g=>g<w0.heap.size) w0 u1 x2:=h1;obtain⟨P0,p0,rfl,_,_⟩:=h0.form;obtain⟨P1,p1,rfl,_,_⟩:=h1.form;generalize hm0:x1.length=m0 at k0;generalize hm1:x2.length=m1 at k1;clear h0 h1;rw[Nat.add_zero]at k0;have hnx:=Wi (bR w0.heap.size w0) (.cells #[.slice P0 m0 p0,.slice P1 m1 p1] 66);have HC:Hid (∀ wz,Below (w0.alloc (.cells #[.slice P0 m0 p0,.slice P1 m1 p1] 66)).heap.size (w0.alloc (.cells #[.slice P0 m0 p0,.slice P1 m1 p1] 66)) wz→(wz.cell? ⟨w0.heap.size,0,none⟩=some (.slice P0 m0 p0)∧wz.cell? ⟨w0.heap.size,1,none⟩=some (.slice P1 m1 p1))∧V4 wz w.heap.size (.slice (some ⟨g,o,none⟩) n0 c0) (.slice A1 n1 c1) (.slice A2 n2 c2) (.slice A3 n3 c3) (.slice A4 n4 c4) (.slice A5 n5 c5) (.slice A6 n6 c6) (.slice A7 n7 c7)):=hD fun wz hb=>by
    have h9:∀ i,wz.cell? ⟨w0.heap.size,i,none⟩=(#[.slice P0 m0 p0,.slice P1 m1 p1]:Array Value)[i]?:=fun i=>(hb.cell (p:=⟨w0.heap.size,i,none⟩) (by simp)).trans (wN w0 _ _ i);exact⟨⟨h9 0,h9 1⟩,HB8.out wz (Wa HB.out (Wa hnx hb))⟩
   obtain⟨-,b0,b1,b2,b3,b4,b5,b6,b7⟩:=HC.out _ (bR _ _);by_cases hz:m1≤1
   ·have d1:decide ((1:Int)<(m1:Int))=false:=by simp;omega
    have HY:=hD (HYE.out (by show decide _=true;rw[hm1];exact decide_eq_true hz));clear HNO HYE hz hm0 hm1;go_wp2;exact ZB
   ·have d1:decide ((1:Int)<(m1:Int))=true:=by simp;omega
    have HF:=hD (HNO.out (by show decide _=false;rw[hm1];exact decide_eq_false hz));clear HNO HYE hz hm0 hm1;go_wp2;go_ret;exact⟨WM (by unfold plainC;rw[HF.out];rfl),Wa HBW.out (Wa HB.out hnx)⟩
  ·have hd:decide ((k:Int)<(n0:Int))=false:=by simp;omega
   have hd2:decide (k<n0)=false:=by simp;omega
   obtain rfl:n0=k:=by omega
   have HF0:=hD (show m.types.all (typPl)=true by have h:=HA.out;rw[← HN0.out]at h;exact h.done);obtain⟨b0,b1,b2,b3,b4,b5,b6,b7⟩:=HB8.out _ HB.out;go_wp2_with fail
   clear b0 b1 b2 b3 b4 b5 b6 b7;go_loopw [24] (fun i wr=>∃ k:Nat,k≤n6∧i=.int .i64 (k:Int)∧Hid (Below W.heap.size W wr)∧Hid (Va (Dat.act) m.datas dat0 k)) (fun i _=>n6 - (intOf i).toNat)
   case atStart=>exact⟨0,nZ _,rfl,HB,hD (Va.zero _ _ _)⟩
   case round =>
    obtain⟨w0,rfl⟩:∃ w0,w0=wr:=⟨_,rfl⟩;obtain⟨k,hk,rfl,HB,HA⟩:=hrel;by_cases hlt:k<n6
    ·have hd:decide ((k:Int)<(n6:Int))=true:=by simp;omega
     have hd2:decide (k<n6)=true:=by simp;omega
     obtain⟨g,o,c',he,hq1,hq2⟩:=Wd.some_ Q6.out (by rw[HN6.out];omega);rw[HN6.out]at hq1;unfold maxLen at hq2;simp only[vI]at he;obtain⟨rfl,-,rfl⟩:=he;have hAT:=Vp.keep (K':=fun k=>k<w0.heap.size) Q6.out (Wf.below HB.out fun _ hk=>hk) (fun _ hk=>WW hk HB.out.size);obtain⟨u0,k0,h0⟩:=Wd.at_ hAT k 0 (by rw[HN6.out];exact hlt) (by decide);obtain⟨u1,k1,h1⟩:=Wd.at_ hAT k 1 (by rw[HN6.out];exact hlt) (by decide);obtain⟨u2,k2,h2⟩:=Wd.at_ hAT k 2 (by rw[HN6.out];exact hlt) (by decide);obtain⟨u3,k3,h3⟩:=Wd.at_ hAT k 3 (by rw[HN6.out];exact hlt) (by decide);have HMEM:=hD (Ve m.datas k dat0 (by rw[HN6.out];exact hlt));have HNO:=hD (fun (h:(Dat.act) (m.datas.getD k dat0)=false)=>Uc (p:=Dat.act) (by rw[HN6.out];exact hlt) h);have HYE:=hD (fun (h:(Dat.act) (m.datas.getD k dat0)=true)=>HA.out.succ h);clear hAT;generalize m.datas.getD k dat0=x at h0 h1 h2 h3 HNO HYE HMEM;obtain⟨x1,x2,x3,x4⟩:=x;obtain rfl:u0=.bool x1:=h0;obtain rfl:u1=.int .i64 x2:=h1;obtain rfl:u2=.int .i64 x3:=h2;obtain⟨P3,p3,rfl,_,_⟩:=h3;generalize x4.length=m3 at k3;rw[Nat.add_zero]at k0;have hnx:=Wi (bR w0.heap.size w0) (.cells #[.bool x1,.int .i64 x2,.int .i64 x3,.slice P3 m3 p3] 57);have HC:Hid (∀ wz,Below (w0.alloc (.cells #[.bool x1,.int .i64 x2,.int .i64 x3,.slice P3 m3 p3] 57)).heap.size (w0.alloc (.cells #[.bool x1,.int .i64 x2,.int .i64 x3,.slice P3 m3 p3] 57)) wz→(wz.cell? ⟨w0.heap.size,0,none⟩=some (.bool x1)∧wz.cell? ⟨w0.heap.size,1,none⟩=some (.int .i64 x2)∧wz.cell? ⟨w0.heap.size,2,none⟩=some (.int .i64 x3)∧wz.cell? ⟨w0.heap.size,3,none⟩=some (.slice P3 m3 p3))∧V4 wz w.heap.size (.slice A0 n0 c0) (.slice A1 n1 c1) (.slice A2 n2 c2) (.slice A3 n3 c3) (.slice A4 n4 c4) (.slice A5 n5 c5) (.slice (some ⟨g,o,none⟩) n6 c6) (.slice A7 n7 c7)):=hD fun wz hb=>by
      have h9:∀ i,wz.cell? ⟨w0.heap.size,i,none⟩=(#[.bool x1,.int .i64 x2,.int .i64 x3,.slice P3 m3 p3]:Array Value)[i]?:=fun i=>(hb.cell (p:=⟨w0.heap.size,i,none⟩) (by simp)).trans (wN w0 _ _ i);exact⟨⟨h9 0,h9 1,h9 2,h9 3⟩,HB8.out wz (Wa HB.out (Wa hnx hb))⟩
     obtain⟨-,b0,b1,b2,b3,b4,b5,b6,b7⟩:=HC.out _ (bR _ _);cases x1 with
     | true =>
      exact Zb4
     | false =>
      have HF:=hD (HNO.out rfl);clear HNO HYE;go_wp2;go_ret;exact⟨WM (by unfold plainC;rw[HF0.out,HF.out];rfl),Wa HBW.out (Wa HB.out hnx)⟩
    ·have hd:decide ((k:Int)<(n6:Int))=false:=by simp;omega
     have hd2:decide (k<n6)=false:=by simp;omega
     obtain rfl:n6=k:=by omega
     have HF6:=hD (show m.datas.all (Dat.act)=true by have h:=HA.out;rw[← HN6.out]at h;exact h.done);obtain⟨b0,b1,b2,b3,b4,b5,b6,b7⟩:=HB8.out _ HB.out;go_wp2_with fail
     clear b0 b1 b2 b3 b4 b5 b6 b7;go_loopw [35] (fun i wr=>∃ k:Nat,k≤n5∧i=.int .i64 (k:Int)∧Hid (Below W.heap.size W wr)∧Hid (Va (expPl m) m.exps (ByteArray.empty,0,0) k)) (fun i _=>n5 - (intOf i).toNat)
     case atStart=>exact⟨0,nZ _,rfl,HB,hD (Va.zero _ _ _)⟩
     case round =>
      obtain⟨w0,rfl⟩:∃ w0,w0=wr:=⟨_,rfl⟩;obtain⟨k,hk,rfl,HB,HA⟩:=hrel;by_cases hlt:k<n5
      ·have hd:decide ((k:Int)<(n5:Int))=true:=by simp;omega
       have hd2:decide (k<n5)=true:=by simp;omega
       obtain⟨g,o,c',he,hq1,hq2⟩:=Wd.some_ Q5.out (by rw[HN5.out];omega);rw[HN5.out]at hq1;unfold maxLen at hq2;simp only[vI]at he;obtain⟨rfl,-,rfl⟩:=he;have hAT:=Wd.keep (K':=fun k=>k<w0.heap.size) Q5.out (Wf.below HB.out fun _ hk=>hk) (fun _ hk=>WW hk HB.out.size) (fun _ _ _ h=>h);obtain⟨u0,k0,h0⟩:=Wd.at_ hAT k 0 (by rw[HN5.out];exact hlt) (by decide);obtain⟨u1,k1,h1⟩:=Wd.at_ hAT k 1 (by rw[HN5.out];exact hlt) (by decide);obtain⟨u2,k2,h2⟩:=Wd.at_ hAT k 2 (by rw[HN5.out];exact hlt) (by decide);have HMEM:=hD (Ve m.exps k (ByteArray.empty,0,0) (by rw[HN5.out];exact hlt));have HNO:=hD (fun (h:(expPl m) (m.exps.getD k (ByteArray.empty,0,0))=false)=>Uc (p:=expPl m) (by rw[HN5.out];exact hlt) h);have HYE:=hD (fun (h:(expPl m) (m.exps.getD k (ByteArray.empty,0,0))=true)=>HA.out.succ h);clear hAT;generalize m.exps.getD k (ByteArray.empty,0,0)=x at h0 h1 h2 HNO HYE HMEM;obtain⟨x1,x2,x3⟩:=x;obtain rfl:u0=.string x1:=h0;obtain rfl:u1=.int .i64 x2:=h1;obtain rfl:u2=.int .i64 x3:=h2;rw[Nat.add_zero]at k0;have hnx:=Wi (bR w0.heap.size w0) (.cells #[.string x1,.int .i64 x2,.int .i64 x3] 59);have HC:Hid (∀ wz,Below (w0.alloc (.cells #[.string x1,.int .i64 x2,.int .i64 x3] 59)).heap.size (w0.alloc (.cells #[.string x1,.int .i64 x2,.int .i64 x3] 59)) wz→(wz.cell? ⟨w0.heap.size,0,none⟩=some (.string x1)∧wz.cell? ⟨w0.heap.size,1,none⟩=some (.int .i64 x2)∧wz.cell? ⟨w0.heap.size,2,none⟩=some (.int .i64 x3))∧V4 wz w.heap.size (.slice A0 n0 c0) (.slice A1 n1 c1) (.slice A2 n2 c2) (.slice A3 n3 c3) (.slice A4 n4 c4) (.slice (some ⟨g,o,none⟩) n5 c5) (.slice A6 n6 c6) (.slice A7 n7 c7)):=hD fun wz hb=>by
        have h9:∀ i,wz.cell? ⟨w0.heap.size,i,none⟩=(#[.string x1,.int .i64 x2,.int .i64 x3]:Array Value)[i]?:=fun i=>(hb.cell (p:=⟨w0.heap.size,i,none⟩) (by simp)).trans (wN w0 _ _ i);exact⟨⟨h9 0,h9 1,h9 2⟩,HB8.out wz (Wa HB.out (Wa hnx hb))⟩
       obtain⟨-,b0,b1,b2,b3,b4,b5,b6,b7⟩:=HC.out _ (bR _ _);by_cases hz:x2=3
       ·subst hz;have hin:Wm x3 (countC m 3)=true:=List.all_eq_true.1 HE.out _ HMEM.out;rw[show countC m 3=n4 from HN4.out]at hin;unfold Wm at hin;rw[Bool.and_eq_true]at hin;obtain⟨j,rfl⟩:∃ j:Nat,x3=(j:Int):=⟨x3.toNat,by have:=of_decide_eq_true hin.1;omega⟩;have hj:j<n4:=by have:=of_decide_eq_true hin.2;omega
        obtain⟨g4,o4,c4',he4,_,_⟩:=Wd.some_ Q4.out (by rw[HN4.out];omega);simp only[vI]at he4;obtain⟨rfl,-,rfl⟩:=he4;have hAG:=Wd.keep (K':=fun k=>k<w0.heap.size) Q4.out (Wf.below HB.out fun _ hk=>hk) (fun _ hk=>WW hk HB.out.size) (fun _ _ _ h=>h);obtain⟨v1,kg1,hg1⟩:=Wd.at_ hAG j 1 (by rw[HN4.out];exact hj) (by decide);have hg1:v1=.bool (m.globs.getD j UK).2.1:=hg1;have kg2:(w0.alloc (.cells #[.string x1,.int .i64 3,.int .i64 (j:Int)] 59)).cell? ⟨g4,o4+j * 3+1,none⟩=some v1:=(hnx.cell (wL w0 _ kg1)).trans kg1;have hj0:decide ((0:Int)≤(j:Int))=true:=by simp
        have hj1:decide ((j:Int)<(n4:Int))=true:=by simp;omega
        have hj2:decide (j<n4)=true:=by simp;omega
        have hep:expPl m (x1,3,(j:Int))=!(m.globs.getD j UK).2.1:=by unfold expPl;simp
        rw[hep]at HNO HYE;clear hep hin hAG HMEM;cases hv:(m.globs.getD j UK).2.1 with
        | false =>
         rw[hv]at hg1 HYE HNO;subst hg1;have HY:=hD (HYE.out rfl);clear hv;clear HNO HYE;go_wp2;exact ZB
        | true =>
         rw[hv]at hg1 HYE HNO;subst hg1;have HF:=hD (HNO.out rfl);clear HNO HYE hv;go_wp2;go_ret;exact⟨WM (by unfold plainC;rw[HF0.out,HF6.out,HF.out];rfl),Wa HBW.out (Wa HB.out hnx)⟩
       ·have dz:(x2==3)=false:=by simpa using hz
        have HY:=hD (HYE.out (by unfold expPl;simp[hz]));clear hz;clear HNO HYE;go_wp2;exact ZB
      ·have hd:decide ((k:Int)<(n5:Int))=false:=by simp;omega
       have hd2:decide (k<n5)=false:=by simp;omega
       obtain rfl:n5=k:=by omega
       have HF5:=hD (show m.exps.all (expPl m)=true by have h:=HA.out;rw[← HN5.out]at h;exact h.done);obtain⟨b0,b1,b2,b3,b4,b5,b6,b7⟩:=HB8.out _ HB.out;by_cases hz:n3≤1
       ·have d1:decide ((n3:Int)≤(1:Int))=true:=by simp;omega
        have d2:decide (n3≤1)=true:=by simp;omega
        exact ZbH
       ·have d1:decide ((n3:Int)≤(1:Int))=false:=by simp;omega
        have d2:decide (n3≤1)=false:=by simp;omega
        exact ZbH
end
section
open Go.RowKit
set_option maxHeartbeats 8000000
set_option maxRecDepth 100000
theorem Zv {P:Prop}(h:P:=by
 clear hV HP HFS;go_enter Tryz.func6,Tryz.ntmps6
 go_upto_region 1 with (fail)
 rw[← HW.out];go_wp2_with (first|(go_at_call 16;refine(HR.out _ (Wa HBW.out (bR _ _))).mono ?_;rintro e wr ⟨rfl,hb⟩;have HBr:=hD (Wa (bR _ _) hb);obtain⟨b0,b1,b2,b3,b4,b5,b6,b7⟩:=HB8.out wr HBr.out;clear hb)|(go_at_call 17;refine(HMA.out _ (Wa HBW.out HBr.out)).mono ?_;rintro e wm ⟨rfl,hb⟩;have HBm:=hD (Wa HBr.out hb);obtain⟨b0,b1,b2,b3,b4,b5,b6,b7⟩:=HB8.out wm HBm.out;clear hb)|(go_at_call 18;refine(HT.out _ (Wa HBW.out HBm.out)).mono ?_;rintro e wt ⟨rfl,hb⟩;have HBt:=hD (Wa HBm.out hb);obtain⟨b0,b1,b2,b3,b4,b5,b6,b7⟩:=HB8.out wt HBt.out;clear hb)|(go_at_call 19;refine(HE.out _ (Wa HBW.out HBt.out)).mono ?_;rintro e we ⟨rfl,hb⟩;have HBe:=hD (Wa HBt.out hb);obtain⟨b0,b1,b2,b3,b4,b5,b6,b7⟩:=HB8.out we HBe.out;clear hb)|(go_at_call 20;refine(HD.out _ (Wa HBW.out HBe.out)).mono ?_;rintro e wd ⟨rfl,hb⟩;have HBd:=hD (Wa HBe.out hb);obtain⟨b0,b1,b2,b3,b4,b5,b6,b7⟩:=HB8.out wd HBd.out;clear hb))
 go_ret;exact⟨VE (by rw[HV.out]),Wa HBW.out HBd.out⟩):P:=h
theorem Zz {P:Prop}(h:P:=by
 clear hV HD HP HFS;go_enter Tryz.func6,Tryz.ntmps6
 go_upto_region 1 with (fail)
 rw[← HW.out];go_wp2_with (first|(go_at_call 16;refine(HR.out _ (Wa HBW.out (bR _ _))).mono ?_;rintro e wr ⟨rfl,hb⟩;have HBr:=hD (Wa (bR _ _) hb);obtain⟨b0,b1,b2,b3,b4,b5,b6,b7⟩:=HB8.out wr HBr.out;clear hb)|(go_at_call 17;refine(HMA.out _ (Wa HBW.out HBr.out)).mono ?_;rintro e wm ⟨rfl,hb⟩;have HBm:=hD (Wa HBr.out hb);obtain⟨b0,b1,b2,b3,b4,b5,b6,b7⟩:=HB8.out wm HBm.out;clear hb)|(go_at_call 18;refine(HT.out _ (Wa HBW.out HBm.out)).mono ?_;rintro e wt ⟨rfl,hb⟩;have HBt:=hD (Wa HBm.out hb);obtain⟨b0,b1,b2,b3,b4,b5,b6,b7⟩:=HB8.out wt HBt.out;clear hb)|(go_at_call 19;refine(HE.out _ (Wa HBW.out HBt.out)).mono ?_;rintro e we ⟨rfl,hb⟩;have HBe:=hD (Wa HBt.out hb);obtain⟨b0,b1,b2,b3,b4,b5,b6,b7⟩:=HB8.out we HBe.out;clear hb))
 go_ret;exact⟨VE (by rw[HV.out]),Wa HBW.out HBe.out⟩):P:=h
theorem ZD {P:Prop}(h:P:=by
 clear hV HE HD HP HFS;go_enter Tryz.func6,Tryz.ntmps6
 go_upto_region 1 with (fail)
 rw[← HW.out];go_wp2_with (first|(go_at_call 16;refine(HR.out _ (Wa HBW.out (bR _ _))).mono ?_;rintro e wr ⟨rfl,hb⟩;have HBr:=hD (Wa (bR _ _) hb);obtain⟨b0,b1,b2,b3,b4,b5,b6,b7⟩:=HB8.out wr HBr.out;clear hb)|(go_at_call 17;refine(HMA.out _ (Wa HBW.out HBr.out)).mono ?_;rintro e wm ⟨rfl,hb⟩;have HBm:=hD (Wa HBr.out hb);obtain⟨b0,b1,b2,b3,b4,b5,b6,b7⟩:=HB8.out wm HBm.out;clear hb)|(go_at_call 18;refine(HT.out _ (Wa HBW.out HBm.out)).mono ?_;rintro e wt ⟨rfl,hb⟩;have HBt:=hD (Wa HBm.out hb);obtain⟨b0,b1,b2,b3,b4,b5,b6,b7⟩:=HB8.out wt HBt.out;clear hb))
 go_ret;exact⟨VE (by rw[HV.out]),Wa HBW.out HBt.out⟩):P:=h
theorem ZI {P:Prop}(h:P:=by
 clear hV HT HE HD HP HFS;go_enter Tryz.func6,Tryz.ntmps6
 go_upto_region 1 with (fail)
 rw[← HW.out];go_wp2_with (first|(go_at_call 16;refine(HR.out _ (Wa HBW.out (bR _ _))).mono ?_;rintro e wr ⟨rfl,hb⟩;have HBr:=hD (Wa (bR _ _) hb);obtain⟨b0,b1,b2,b3,b4,b5,b6,b7⟩:=HB8.out wr HBr.out;clear hb)|(go_at_call 17;refine(HMA.out _ (Wa HBW.out HBr.out)).mono ?_;rintro e wm ⟨rfl,hb⟩;have HBm:=hD (Wa HBr.out hb);obtain⟨b0,b1,b2,b3,b4,b5,b6,b7⟩:=HB8.out wm HBm.out;clear hb))
 go_ret;exact⟨VE (by rw[HV.out]),Wa HBW.out HBm.out⟩):P:=h
theorem ZX {P:Prop}(h:P:=by
 clear hV HMA HT HE HD HP HFS;go_enter Tryz.func6,Tryz.ntmps6
 go_upto_region 1 with (fail)
 rw[← HW.out];go_wp2_with (go_at_call 16;refine(HR.out _ (Wa HBW.out (bR _ _))).mono ?_;rintro e wr ⟨rfl,hb⟩;have HBr:=hD (Wa (bR _ _) hb);obtain⟨b0,b1,b2,b3,b4,b5,b6,b7⟩:=HB8.out wr HBr.out;clear hb)
 go_ret;exact⟨VE (by rw[HV.out]),Wa HBW.out HBr.out⟩):P:=h
theorem Uy {m:W8} (h:Vf m=0):fitsB m=true∧partsB m=true:=by
 unfold Vf at h;cases h1:fitsB m with
 | false=>rw[h1]at h;cases h
 | true =>
  cases h2:partsB m with
  | false=>rw[h1,h2]at h;cases h
  | true=>exact⟨rfl,rfl⟩
theorem kindsB_len {l:List Int} {n:Nat} (h:Uh l (n:Int)=true):l.length≤n:=by
 unfold Uh at h;rw[Bool.and_eq_true]at h;have:=of_decide_eq_true h.1;omega
theorem right_types {m:W8} (h:Vf m=0):∀ t ∈ m.types,t.1.length≤8∧t.2.length≤8:=fun t ht=>by
 have h1:=(Uy h).2;unfold partsB at h1;simp only[Bool.and_eq_true]at h1;have h2:=List.all_eq_true.1 h1.1.1.1.1.1.1.1 t ht;unfold typB at h2;rw[Bool.and_eq_true]at h2;exact⟨kindsB_len h2.1,kindsB_len h2.2⟩
theorem right_funs {m:W8} (h:Vf m=0):∀ f ∈ m.funs,f.loc.length≤256∧f.code.length≤65536:=fun f hf=>by
 have h1:=(Uy h).2;unfold partsB at h1;simp only[Bool.and_eq_true]at h1;have h2:=List.all_eq_true.1 h1.1.1.1.1.1.2 f hf;unfold fncB codeB at h2;simp only[Bool.and_eq_true]at h2;exact⟨kindsB_len h2.1.2,of_decide_eq_true h2.2.1⟩
theorem right_short {m:W8} (h:Vf m=0):VI m:=by
 have h1:=(Uy h).1;unfold fitsB at h1;simp only[Bool.and_eq_true,decide_eq_true_eq]at h1;refine⟨by omega,by omega,by omega,fun t ht=>?_,fun f hf=>?_⟩
 ·have:=right_types h t ht;omega
 ·have:=(right_funs h f hf).1;omega
def ModlPost (z:Int) (w:World) (e:Ending) (w':World):Prop:=e=.returned (.int .i64 z)∧Below w.heap.size w w'
theorem module_ok {good:VV→Prop} (HS:StepsOk good) (w:World) (htab:Tab w) (v:Mv) (m:W8) (h:WQ (fun k=>k<w.heap.size) w v m) (hw:Few m) (prof:Int) (hgd:Vf m=0→∀ f ∈ m.funs,∀ i ∈ f.code,good i) :
 Calls Tryz.prog 6 #[.agg v.cells,.int .i64 prof] w (ModlPost (Vl m prof) w):=by
 have HR:=hD (fun wz (hb:Below w.heap.size w wz)=>right_mod wz (htab.below hb) v m (h.keep (Wf.below hb fun _ hk=>hk) fun _ hk=>WW hk hb.size) hw);have HMA:=hD (fun wz (hb:Below w.heap.size w wz) (hr:Vf m=0)=>matched_any wz v.m2 m.funs ((h.keep (Wf.below hb fun _ hk=>hk) fun _ hk=>WW hk hb.size).funs) (fun f hf=>Nat.le_trans (right_funs hr f hf).2 (by decide)));have HT:=hD (fun wz (hb:Below w.heap.size w wz)=>ctypesExist_any wz v m (h.keep (Wf.below hb fun _ hk=>hk) fun _ hk=>WW hk hb.size));have HE:=hD (fun wz (hb:Below w.heap.size w wz) (hr:Vf m=0)=>cexportsExist_any wz v m (h.keep (Wf.below hb fun _ hk=>hk) fun _ hk=>WW hk hb.size) (right_short hr));have HD:=hD (fun wz (hb:Below w.heap.size w wz)=>cmemsExist_any wz v m (h.keep (Wf.below hb fun _ hk=>hk) fun _ hk=>WW hk hb.size));have HP:=hD (fun wz (hb:Below w.heap.size w wz) (he:m.exps.all (expIn m)=true)=>cplain_any wz v m (h.keep (Wf.below hb fun _ hk=>hk) fun _ hk=>WW hk hb.size) he);have HFS:=hD (fun wz (hb:Below w.heap.size w wz) (hr:Vf m=0) (htc:UG m=true)=>funcs_ok HS wz v m (h.keep (Wf.below hb fun _ hk=>hk) fun _ hk=>WW hk hb.size) (right_short hr) (right_types hr) htc prof (fun f hf=>⟨(right_funs hr f hf).2,hgd hr f hf⟩));unfold RightPost Wo at *;clear htab hw hgd;obtain⟨A0,c0,A1,c1,A2,c2,A3,c3,A4,c4,A5,c5,A6,c6,A7,c7,rfl⟩:=WC h;simp only[Mv.cells]at HR HMA HT HE HD HP HFS ⊢;clear h;obtain⟨n0,hn0⟩:∃ n,m.types.length=n:=⟨_,rfl⟩;obtain⟨n1,hn1⟩:∃ n,m.imps.length=n:=⟨_,rfl⟩;obtain⟨n2,hn2⟩:∃ n,m.funs.length=n:=⟨_,rfl⟩;obtain⟨n3,hn3⟩:∃ n,m.mems.length=n:=⟨_,rfl⟩;obtain⟨n4,hn4⟩:∃ n,m.globs.length=n:=⟨_,rfl⟩;obtain⟨n5,hn5⟩:∃ n,m.exps.length=n:=⟨_,rfl⟩;obtain⟨n6,hn6⟩:∃ n,m.datas.length=n:=⟨_,rfl⟩;obtain⟨n7,hn7⟩:∃ n,m.cus.length=n:=⟨_,rfl⟩;have HN2:=hD hn2;have HN3:=hD hn3;rw[hn0,hn1,hn2,hn3,hn4,hn5,hn6,hn7]at HR HT HE HD HP HFS ⊢;rw[hn2]at HMA;obtain⟨W,hW⟩:∃ W,W=w.alloc (.cells #[.slice A0 n0 c0,.slice A1 n1 c1,.slice A2 n2 c2,.slice A3 n3 c3,.slice A4 n4 c4,.slice A5 n5 c5,.slice A6 n6 c6,.slice A7 n7 c7] 33):=⟨_,rfl⟩;have hbw:Below w.heap.size w W:=hW ▸ (bR _ _).alloc (nR _) _;have HBW:=hD hbw;have HB8:Hid (∀ wz,Below W.heap.size W wz→V4 wz w.heap.size (.slice A0 n0 c0) (.slice A1 n1 c1) (.slice A2 n2 c2) (.slice A3 n3 c3) (.slice A4 n4 c4) (.slice A5 n5 c5) (.slice A6 n6 c6) (.slice A7 n7 c7)):=hD fun wz hz=>by rw[hW]at hz;exact Vq w _ _ _ _ _ _ _ _ hz
 have HW:=hD hW;obtain⟨b0,b1,b2,b3,b4,b5,b6,b7⟩:=HB8.out W (bR _ _);clear hbw hW hn0 hn1 hn2 hn3 hn4 hn5 hn6 hn7;obtain⟨z,hV⟩:∃ z,Vl m prof=z:=⟨_,rfl⟩;have HV0:=hD hV;unfold Vl at hV;rw[HN3.out]at hV;rw[HV0.out];clear HV0;by_cases hp:prof≠1∧prof≠2
 ·rw[if_pos hp]at hV;have HV:=hD hV.symm;have p1:(prof != 1)=true:=by simpa using hp.1
  have p2:(prof != 2)=true:=by simpa using hp.2
  have p3:(prof==1)=false:=by simpa using hp.1
  have p4:(prof==2)=false:=by simpa using hp.2
  clear hp;clear hV HR HMA HT HE HD HP HFS;go_enter Tryz.func6,Tryz.ntmps6
  go_upto_region 1 with (fail)
  rw[← HW.out];go_wp2;go_ret;exact⟨VE (by rw[HV.out]),HBW.out⟩
 rw[if_neg hp]at hV;have hpp:(prof=1∨prof=2):=by omega
 clear hp;by_cases hr:Vf m=0
 case' neg =>
  rw[if_pos hr]at hV;have HV:=hD hV.symm;generalize Vf m=rz at *;have r1:(rz != 0)=true:=by simpa using hr
  clear hr;rcases hpp with rfl|rfl
  ·skip
   exact ZX
  ·skip
   exact ZX
 rw[if_neg (by rw[hr];decide)]at hV;have HMA:=hD (fun wz hb=>HMA.out wz hb hr);have HE:=hD (fun wz hb=>HE.out wz hb hr);have HFS:=hD (fun wz hb=>HFS.out wz hb hr);rw[hr]at HR;clear hr;by_cases hm:VN matC m.funs=0
 case' neg =>
  rw[if_pos hm]at hV;have HV:=hD hV.symm;generalize VN matC m.funs=mz at *;have r1:(mz != 0)=true:=by simpa using hm
  clear hm;rcases hpp with rfl|rfl
  ·skip
   exact ZI
  ·skip
   exact ZI
 rw[if_neg (by rw[hm];decide)]at hV;rw[hm]at HMA;clear hm;cases ht0:UG m with
 | false =>
  rw[if_pos (by rw[ht0,Bool.false_and,Bool.false_and])]at hV;have HV:=hD hV.symm;rw[ht0]at HT;rcases hpp with rfl|rfl
  ·skip
   exact ZD
  ·skip
   exact ZD
 | true =>
  cases ht1:m.exps.all (expIn m) with
  | false =>
   rw[if_pos (by rw[ht1,Bool.and_false,Bool.false_and])]at hV;have HV:=hD hV.symm;rw[ht1]at HE;rw[ht0]at HT;rcases hpp with rfl|rfl
   ·skip
    exact Zz
   ·skip
    exact Zz
  | true =>
   cases ht2:m.datas.all (datIn n3) with
   | false =>
    rw[if_pos (by rw[ht2,Bool.and_false])]at hV;have HV:=hD hV.symm;rw[ht2]at HD;rw[ht0]at HT;rw[ht1]at HE;rcases hpp with rfl|rfl
    ·skip
     exact Zv
    ·skip
     exact Zv
   | true =>
    rw[if_neg (by rw[ht0,ht1,ht2];decide)]at hV;have HP:=hD (fun wz hb=>HP.out wz hb ht1);have HFS:=hD (fun wz hb=>HFS.out wz hb ht0);rw[ht0]at HT;rw[ht1]at HE;rw[ht2]at HD;clear ht0 ht1 ht2;rcases hpp with rfl|rfl
    ·cases hpl:plainC m with
     | false =>
      rw[if_pos ⟨rfl,hpl⟩]at hV;have HV:=hD hV.symm;rw[hpl]at HP;clear hV HFS hpl;go_enter Tryz.func6,Tryz.ntmps6
      go_upto_region 1 with (fail)
      rw[← HW.out];go_wp2_with (first|(go_at_call 16;refine(HR.out _ (Wa HBW.out (bR _ _))).mono ?_;rintro e wr ⟨rfl,hb⟩;have HBr:=hD (Wa (bR _ _) hb);obtain⟨b0,b1,b2,b3,b4,b5,b6,b7⟩:=HB8.out wr HBr.out;clear hb)|(go_at_call 17;refine(HMA.out _ (Wa HBW.out HBr.out)).mono ?_;rintro e wm ⟨rfl,hb⟩;have HBm:=hD (Wa HBr.out hb);obtain⟨b0,b1,b2,b3,b4,b5,b6,b7⟩:=HB8.out wm HBm.out;clear hb)|(go_at_call 18;refine(HT.out _ (Wa HBW.out HBm.out)).mono ?_;rintro e wt ⟨rfl,hb⟩;have HBt:=hD (Wa HBm.out hb);obtain⟨b0,b1,b2,b3,b4,b5,b6,b7⟩:=HB8.out wt HBt.out;clear hb)|(go_at_call 19;refine(HE.out _ (Wa HBW.out HBt.out)).mono ?_;rintro e we ⟨rfl,hb⟩;have HBe:=hD (Wa HBt.out hb);obtain⟨b0,b1,b2,b3,b4,b5,b6,b7⟩:=HB8.out we HBe.out;clear hb)|(go_at_call 20;refine(HD.out _ (Wa HBW.out HBe.out)).mono ?_;rintro e wd ⟨rfl,hb⟩;have HBd:=hD (Wa HBe.out hb);obtain⟨b0,b1,b2,b3,b4,b5,b6,b7⟩:=HB8.out wd HBd.out;clear hb)|(go_at_call 21;refine(HP.out _ (Wa HBW.out HBd.out)).mono ?_;rintro e wp ⟨rfl,hb⟩;have HBp:=hD (Wa HBd.out hb);obtain⟨b0,b1,b2,b3,b4,b5,b6,b7⟩:=HB8.out wp HBp.out;clear hb))
      go_ret;exact⟨VE (by rw[HV.out]),Wa HBW.out HBp.out⟩
     | true =>
      rw[if_neg (fun hx=>by rw[hpl]at hx;cases hx.2)]at hV;rw[hpl]at HP;have HV:=hD hV.symm;generalize funcsC m 1=fz at *;clear hV hpl;go_enter Tryz.func6,Tryz.ntmps6
      go_upto_region 1 with (fail)
      rw[← HW.out];go_wp2_with (first|(go_at_call 16;refine(HR.out _ (Wa HBW.out (bR _ _))).mono ?_;rintro e wr ⟨rfl,hb⟩;have HBr:=hD (Wa (bR _ _) hb);obtain⟨b0,b1,b2,b3,b4,b5,b6,b7⟩:=HB8.out wr HBr.out;clear hb)|(go_at_call 17;refine(HMA.out _ (Wa HBW.out HBr.out)).mono ?_;rintro e wm ⟨rfl,hb⟩;have HBm:=hD (Wa HBr.out hb);obtain⟨b0,b1,b2,b3,b4,b5,b6,b7⟩:=HB8.out wm HBm.out;clear hb)|(go_at_call 18;refine(HT.out _ (Wa HBW.out HBm.out)).mono ?_;rintro e wt ⟨rfl,hb⟩;have HBt:=hD (Wa HBm.out hb);obtain⟨b0,b1,b2,b3,b4,b5,b6,b7⟩:=HB8.out wt HBt.out;clear hb)|(go_at_call 19;refine(HE.out _ (Wa HBW.out HBt.out)).mono ?_;rintro e we ⟨rfl,hb⟩;have HBe:=hD (Wa HBt.out hb);obtain⟨b0,b1,b2,b3,b4,b5,b6,b7⟩:=HB8.out we HBe.out;clear hb)|(go_at_call 20;refine(HD.out _ (Wa HBW.out HBe.out)).mono ?_;rintro e wd ⟨rfl,hb⟩;have HBd:=hD (Wa HBe.out hb);obtain⟨b0,b1,b2,b3,b4,b5,b6,b7⟩:=HB8.out wd HBd.out;clear hb)|(go_at_call 21;refine(HP.out _ (Wa HBW.out HBd.out)).mono ?_;rintro e wp ⟨rfl,hb⟩;have HBp:=hD (Wa HBd.out hb);obtain⟨b0,b1,b2,b3,b4,b5,b6,b7⟩:=HB8.out wp HBp.out;clear hb)|(go_at_call 22;refine(HFS.out _ (Wa HBW.out HBp.out)).mono ?_;rintro e wf ⟨rfl,hb⟩;have HBf:=hD (Wa HBp.out hb);obtain⟨b0,b1,b2,b3,b4,b5,b6,b7⟩:=HB8.out wf HBf.out;clear hb))
      go_ret;exact⟨VE (by rw[HV.out]),Wa HBW.out HBf.out⟩
    ·rw[if_neg (fun hx=>absurd hx.1 (by decide))]at hV;have HV:=hD hV.symm;generalize funcsC m 2=fz at *;clear hV HP;go_enter Tryz.func6,Tryz.ntmps6
     go_upto_region 1 with (fail)
     rw[← HW.out];go_wp2_with (first|(go_at_call 16;refine(HR.out _ (Wa HBW.out (bR _ _))).mono ?_;rintro e wr ⟨rfl,hb⟩;have HBr:=hD (Wa (bR _ _) hb);obtain⟨b0,b1,b2,b3,b4,b5,b6,b7⟩:=HB8.out wr HBr.out;clear hb)|(go_at_call 17;refine(HMA.out _ (Wa HBW.out HBr.out)).mono ?_;rintro e wm ⟨rfl,hb⟩;have HBm:=hD (Wa HBr.out hb);obtain⟨b0,b1,b2,b3,b4,b5,b6,b7⟩:=HB8.out wm HBm.out;clear hb)|(go_at_call 18;refine(HT.out _ (Wa HBW.out HBm.out)).mono ?_;rintro e wt ⟨rfl,hb⟩;have HBt:=hD (Wa HBm.out hb);obtain⟨b0,b1,b2,b3,b4,b5,b6,b7⟩:=HB8.out wt HBt.out;clear hb)|(go_at_call 19;refine(HE.out _ (Wa HBW.out HBt.out)).mono ?_;rintro e we ⟨rfl,hb⟩;have HBe:=hD (Wa HBt.out hb);obtain⟨b0,b1,b2,b3,b4,b5,b6,b7⟩:=HB8.out we HBe.out;clear hb)|(go_at_call 20;refine(HD.out _ (Wa HBW.out HBe.out)).mono ?_;rintro e wd ⟨rfl,hb⟩;have HBd:=hD (Wa HBe.out hb);obtain⟨b0,b1,b2,b3,b4,b5,b6,b7⟩:=HB8.out wd HBd.out;clear hb)|(go_at_call 22;refine(HFS.out _ (Wa HBW.out HBd.out)).mono ?_;rintro e wf ⟨rfl,hb⟩;have HBf:=hD (Wa HBd.out hb);obtain⟨b0,b1,b2,b3,b4,b5,b6,b7⟩:=HB8.out wf HBf.out;clear hb))
     go_ret;exact⟨VE (by rw[HV.out]),Wa HBW.out HBf.out⟩
end
end Go.Proofs.YtepgopnnaeoolaaGreatDoor
