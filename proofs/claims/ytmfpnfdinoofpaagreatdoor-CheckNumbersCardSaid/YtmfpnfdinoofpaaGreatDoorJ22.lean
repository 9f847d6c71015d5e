/- A part of the proof. -/
import Derived.Test.YtmfpnfdinoofpaaGreatDoorJ13
namespace Go.Proofs.YtmfpnfdinoofpaaGreatDoor
open Go.RowKit
set_option maxHeartbeats 4000000
set_option maxRecDepth 100000
theorem Zq {P:Prop}(h:P:=by
 cases b0 with
 | false =>
  have HF:=hD (HNO.out (by rfl));clear HNO HYE;go_wp2_with (go_at_call 105;(with_reducible refine(C0.out _ hnx).mono ?_);rintro e w0' ⟨rfl,hb0⟩;have hn0:=Wa hnx hb0;have hbb0:=hb0;obtain⟨j00,j01,j02,j03⟩:=HC.out _ hbb0;clear hb0)
  go_ret;exact⟨WV (by rw[HF.out]),Wa HB.out hn0⟩
 | true =>
  cases b1 with
  | false =>
   have HF:=hD (HNO.out (by rfl));clear HNO HYE;go_wp2_with (first|(go_at_call 105;(with_reducible refine(C0.out _ hnx).mono ?_);rintro e w0' ⟨rfl,hb0⟩;have hn0:=Wa hnx hb0;have hbb0:=hb0;obtain⟨j00,j01,j02,j03⟩:=HC.out _ hbb0;clear hb0)|(go_at_call 105;(with_reducible refine(C1.out _ hn0).mono ?_);rintro e w1' ⟨rfl,hb1⟩;have hn1:=Wa hn0 hb1;have hbb1:=(Wa hbb0 hb1);obtain⟨j10,j11,j12,j13⟩:=HC.out _ hbb1;clear hb1))
   go_ret;exact⟨WV (by rw[HF.out]),Wa HB.out hn1⟩
  | true =>
   cases b2 with
   | false =>
    have HF:=hD (HNO.out (by rfl));clear HNO HYE;have e2:=of_decide_eq_false hb2;clear hb2;have d2:decide ((1048576:Int)<(m3:Int))=true:=by simp;omega
    clear e2;go_wp2_with (first|(go_at_call 105;(with_reducible refine(C0.out _ hnx).mono ?_);rintro e w0' ⟨rfl,hb0⟩;have hn0:=Wa hnx hb0;have hbb0:=hb0;obtain⟨j00,j01,j02,j03⟩:=HC.out _ hbb0;clear hb0)|(go_at_call 105;(with_reducible refine(C1.out _ hn0).mono ?_);rintro e w1' ⟨rfl,hb1⟩;have hn1:=Wa hn0 hb1;have hbb1:=(Wa hbb0 hb1);obtain⟨j10,j11,j12,j13⟩:=HC.out _ hbb1;clear hb1))
    go_ret;exact⟨WV (by rw[HF.out]),Wa HB.out hn1⟩
   | true =>
    have e2:=of_decide_eq_true hb2;clear hb2;have d2:decide ((1048576:Int)<(m3:Int))=false:=by simp;omega
    clear e2;have HY:=hD (HYE.out rfl);clear HNO HYE;go_wp2_with (first|(go_at_call 105;(with_reducible refine(C0.out _ hnx).mono ?_);rintro e w0' ⟨rfl,hb0⟩;have hn0:=Wa hnx hb0;have hbb0:=hb0;obtain⟨j00,j01,j02,j03⟩:=HC.out _ hbb0;clear hb0)|(go_at_call 105;(with_reducible refine(C1.out _ hn0).mono ?_);rintro e w1' ⟨rfl,hb1⟩;have hn1:=Wa hn0 hb1;have hbb1:=(Wa hbb0 hb1);obtain⟨j10,j11,j12,j13⟩:=HC.out _ hbb1;clear hb1))
    go_roundw
    case rel=>exact⟨k+1,by omega,by go_num,hD (Wa HB.out hn1),HY⟩
    case measure=>simp[intOf];omega):P:=h
theorem ZK {P:Prop}(h:P:=by
 go_roundw
 case rel=>exact⟨k+1,by omega,by go_num,hD (Wa HB.out hnx),HY⟩
 case measure=>simp[intOf];omega):P:=h
theorem Zba {P:Prop}(h:P:=by
 go_wp2_with (go_at_call 103;(with_reducible refine(C0.out _ hnx).mono ?_);rintro e w0' ⟨rfl,hb0⟩;have hn0:=Wa hnx hb0;have hbb0:=hb0;obtain⟨j00,j01,j02⟩:=HC.out _ hbb0;clear hb0)
 go_ret;exact⟨WV (by rw[HF.out]),Wa HB.out hn0⟩):P:=h
theorem Zbj {P:Prop}(h:P:=by
 go_roundw
 case rel=>exact⟨k+1,by omega,by go_num,hD (Wa HB.out hn0),HY⟩
 case measure=>simp[intOf];omega):P:=h
theorem Zbz {P:Prop}(h:P:=by
 go_ret;exact⟨WV (by rw[HF.out]),Wa HB.out hn0⟩):P:=h
theorem ZbW {P:Prop}(h:P:=by
 have HY:=hD (HYE.out rfl);clear HNO HYE;go_wp2_with (go_at_call 103;(with_reducible refine(C0.out _ hnx).mono ?_);rintro e w0' ⟨rfl,hb0⟩;have hn0:=Wa hnx hb0;have hbb0:=hb0;obtain⟨j00,j01,j02⟩:=HC.out _ hbb0;clear hb0)
 exact Zbj):P:=h
theorem Zb0 {P:Prop}(h:P:=by
 have h9:∀ i,wz.cell? ⟨w0.heap.size,i,none⟩=(#[.bool false,.int .i64 x2,.int .i64 x3,.slice P3 m3 q3]:Array Value)[i]?:=fun i=>(hb.cell (p:=⟨w0.heap.size,i,none⟩) (by simp)).trans (wN w0 _ _ i);exact⟨h9 0,h9 1,h9 2,h9 3⟩):P:=h
theorem Zb3 {P:Prop}(h:P:=by
 have h9:∀ i,wz.cell? ⟨w0.heap.size,i,none⟩=(#[.bool true,.int .i64 x2,.int .i64 x3,.slice P3 m3 q3]:Array Value)[i]?:=fun i=>(hb.cell (p:=⟨w0.heap.size,i,none⟩) (by simp)).trans (wN w0 _ _ i);exact⟨h9 0,h9 1,h9 2,h9 3⟩):P:=h
theorem Zca {P:Prop}(h:P:=by
 have h9:∀ i,wz.cell? ⟨w0.heap.size,i,none⟩=(#[.int .i64 x1,.slice P1 m1 q1,.slice P2 m2 q2]:Array Value)[i]?:=fun i=>(hb.cell (p:=⟨w0.heap.size,i,none⟩) (by simp)).trans (wN w0 _ _ i);exact⟨h9 0,h9 1,h9 2⟩):P:=h
theorem Zcf {P:Prop}(h:P:=by
 have h9:∀ i,wz.cell? ⟨w0.heap.size,i,none⟩=(#[.int .i64 127,.bool x2,.int .u64 x3]:Array Value)[i]?:=fun i=>(hb.cell (p:=⟨w0.heap.size,i,none⟩) (by simp)).trans (wN w0 _ _ i);exact⟨h9 0,h9 1,h9 2⟩):P:=h
theorem Zcg {P:Prop}(h:P:=by
 have h9:∀ i,wz.cell? ⟨w0.heap.size,i,none⟩=(#[.string x1,.string x2,.int .i64 x3]:Array Value)[i]?:=fun i=>(hb.cell (p:=⟨w0.heap.size,i,none⟩) (by simp)).trans (wN w0 _ _ i);exact⟨h9 0,h9 1,h9 2⟩):P:=h
theorem Zch {P:Prop}(h:P:=by
 have h9:∀ i,wz.cell? ⟨w0.heap.size,i,none⟩=(#[.int .i64 x1,.bool x2,.int .u64 x3]:Array Value)[i]?:=fun i=>(hb.cell (p:=⟨w0.heap.size,i,none⟩) (by simp)).trans (wN w0 _ _ i);exact⟨h9 0,h9 1,h9 2⟩):P:=h
theorem Zck {P:Prop}(h:P:=by
 have h9:∀ i,wz.cell? ⟨w0.heap.size,i,none⟩=(#[.slice P0 m0 q0,.slice P1 m1 q1]:Array Value)[i]?:=fun i=>(hb.cell (p:=⟨w0.heap.size,i,none⟩) (by simp)).trans (wN w0 _ _ i);exact⟨h9 0,h9 1⟩):P:=h
theorem Zcl {P:Prop}(h:P:=by
 go_wp2_with (go_at_call 100;(with_reducible refine(C0.out _ hnx).mono ?_);rintro e w0' ⟨rfl,hb0⟩;have hn0:=Wa hnx hb0;have hbb0:=hb0;obtain⟨j00,j01,j02⟩:=HC.out _ hbb0;clear hb0)
 exact Zbz):P:=h
theorem Zcp {P:Prop}(h:P:=by
 have h9:∀ i,wz.cell? ⟨w0.heap.size,i,none⟩=(#[.string x1,.slice P1 m1 q1]:Array Value)[i]?:=fun i=>(hb.cell (p:=⟨w0.heap.size,i,none⟩) (by simp)).trans (wN w0 _ _ i);exact⟨h9 0,h9 1⟩):P:=h
theorem Zcq {P:Prop}(h:P:=by
 go_wp2_with (go_at_call 100;(with_reducible refine(C0.out _ hnx).mono ?_);rintro e w0' ⟨rfl,hb0⟩;have hn0:=Wa hnx hb0;have hbb0:=hb0;obtain⟨j00,j01⟩:=HC.out _ hbb0;clear hb0)
 exact Zbz):P:=h
theorem Zcr {P:Prop}(h:P:=by
 have h9:∀ i,wz.cell? ⟨w0.heap.size,i,none⟩=(#[.int .i64 x1,.int .i64 x2]:Array Value)[i]?:=fun i=>(hb.cell (p:=⟨w0.heap.size,i,none⟩) (by simp)).trans (wN w0 _ _ i);exact⟨h9 0,h9 1⟩):P:=h
theorem ZcC {P:Prop}(h:P:=by
 go_ret;exact⟨WV (by rw[HF.out]),Wa HB.out hn1⟩):P:=h
theorem ZcL {P:Prop}(h:P:=by
 have e2:=of_decide_eq_true hb2;clear hb2;have d2:decide (512<x2)=false:=by simp;omega
 clear e2;have HY:=hD (HYE.out rfl);clear HNO HYE;go_wp2;exact ZK):P:=h
theorem ZcV {P:Prop}(h:P:=by
 go_wp2;go_ret;exact⟨WV (by rw[HF.out]),Wa HB.out hnx⟩):P:=h
theorem Zc4 {P:Prop}(h:P:=by
 go_roundw
 case rel=>exact⟨k+1,by omega,by go_num,hD (Wa HB.out hn1),HY⟩
 case measure=>simp[intOf];omega):P:=h
theorem Zc5 {P:Prop}(h:P:=by
 go_roundw
 case rel=>exact⟨k+1,by omega,by go_num,hD (Wa HB.out hn2),HY⟩
 case measure=>simp[intOf];omega):P:=h
theorem Zc8 {P:Prop}(h:P:=by
 go_ret;exact⟨WV (by rw[HF.out]),Wa HB.out hn2⟩):P:=h
theorem glob_127 (x2:Bool) (x3:Int):Uj ⟨127,x2,x3⟩=(VF 127 && decide (x3≤4294967295)):=by
 have e:(!decide ((4294967295:Int)<x3))=decide (x3≤4294967295):=by
  rcases Int.lt_or_le 4294967295 x3 with hl|hl
  ·rw[decide_eq_true hl,decide_eq_false (Int.not_le.mpr hl)];rfl
  ·rw[decide_eq_false (Int.not_lt.mpr hl),decide_eq_true hl];rfl
 rw[← e];unfold Uj;simp
theorem rtypes_any (K:Nat→Prop) (w:World) (hK:∀ k,K k→k<w.heap.size) (v:Value) (l:List (List Int×List Int)) (h:UN K w v l):Calls Tryz.prog 63 #[v] w (Wh (l.all typB) w):=by
 obtain⟨A,c,hv,hnc,hcm⟩:=Wd.form h;have H:=hD (UN.keep (K':=fun k=>k<w.heap.size) h (.refl _ _) hK);rw[hv]at H ⊢;clear h hv;unfold maxLen at hcm;obtain⟨n,hn⟩:∃ n,l.length=n:=⟨_,rfl⟩;have HN:=hD hn;rw[hn]at H hnc ⊢;clear hn;go_enter Tryz.func63,Tryz.ntmps63;go_wp2_with fail
 go_loopw [7] (fun i wr=>∃ k:Nat,k≤n∧i=.int .i64 (k:Int)∧Hid (Below w.heap.size w wr)∧Hid (W0 typB l ([],[]) k)) (fun i _=>n - (intOf i).toNat)
 case atStart=>exact⟨0,nZ _,rfl,hD (bR _ _),hD (W0.zero _ _ _)⟩
 case round =>
  obtain⟨w0,rfl⟩:∃ w0,w0=wr:=⟨_,rfl⟩;obtain⟨k,hk,rfl,HB,HA⟩:=hrel;by_cases hlt:k<n
  ·have hd:decide ((k:Int)<(n:Int))=true:=by simp;omega
   obtain⟨g,o,c',he,_,_⟩:=Wd.some_ H.out (by first|omega|(rw[HN.out];omega));simp only[vI]at he;obtain⟨rfl,-,rfl⟩:=he;have hAT:=UN.keep H.out (We.below HB.out fun _ hk=>hk) fun _ hk=>Ve hk HB.out.size;obtain⟨u0,k0,h0⟩:=Wd.at_ hAT k 0 (by first|exact hlt|(rw[HN.out];exact hlt)) (by decide);obtain⟨u1,k1,h1⟩:=Wd.at_ hAT k 1 (by first|exact hlt|(rw[HN.out];exact hlt)) (by decide);have HNO:=hD (fun (h:typB (l.getD k ([],[]))=false)=>VM (by rw[HN.out];exact hlt) h);have HYE:=hD (fun (h:typB (l.getD k ([],[]))=true)=>HA.out.succ h);clear hAT;generalize l.getD k ([],[])=x at h0 h1 HNO HYE;obtain⟨x1,x2⟩:=x;have h0:Wf (fun g=>g<w0.heap.size) w0 u0 x1:=h0;have h1:Wf (fun g=>g<w0.heap.size) w0 u1 x2:=h1;obtain⟨P0,q0,rfl,_,_⟩:=h0.form;obtain⟨P1,q1,rfl,_,_⟩:=h1.form;generalize hm0:x1.length=m0 at *;generalize hm1:x2.length=m1 at *;clear hm0 hm1;rw[Nat.add_zero]at k0;rw[show typB ⟨x1,x2⟩=(Vs x1 8 && Vs x2 8) from rfl]at HNO HYE;have C0:=hD (fun wz (hb:Below w0.heap.size w0 wz)=>kinds_any (fun g=>g<wz.heap.size) wz (fun _ hk=>hk) _ x1 (h0.keep (We.below hb fun _ hk=>hk) fun _ hk=>Ve hk hb.size) 8);generalize Vs x1 8=b0 at C0 HNO HYE;have C1:=hD (fun wz (hb:Below w0.heap.size w0 wz)=>kinds_any (fun g=>g<wz.heap.size) wz (fun _ hk=>hk) _ x2 (h1.keep (We.below hb fun _ hk=>hk) fun _ hk=>Ve hk hb.size) 8);generalize Vs x2 8=b1 at C1 HNO HYE;have hnx:=Wb (bR w0.heap.size w0) (.cells #[.slice P0 m0 q0,.slice P1 m1 q1] 40);have HC:Hid (∀ wz,Below (w0.alloc (.cells #[.slice P0 m0 q0,.slice P1 m1 q1] 40)).heap.size (w0.alloc (.cells #[.slice P0 m0 q0,.slice P1 m1 q1] 40)) wz→wz.cell? ⟨w0.heap.size,0,none⟩=some (.slice P0 m0 q0)∧wz.cell? ⟨w0.heap.size,1,none⟩=some (.slice P1 m1 q1)):=hD fun wz hb=>by
    exact Zck
   clear h0 h1;cases b0 with
   | false =>
    have HF:=hD (HNO.out (by rfl));clear HNO HYE;go_wp2_with (go_at_call 99;(with_reducible refine(C0.out _ hnx).mono ?_);rintro e w0' ⟨rfl,hb0⟩;have hn0:=Wa hnx hb0;have hbb0:=hb0;obtain⟨j00,j01⟩:=HC.out _ hbb0;clear hb0)
    exact Zbz
   | true =>
    cases b1 with
    | false =>
     have HF:=hD (HNO.out (by rfl));clear HNO HYE;go_wp2_with (first|(go_at_call 99;(with_reducible refine(C0.out _ hnx).mono ?_);rintro e w0' ⟨rfl,hb0⟩;have hn0:=Wa hnx hb0;have hbb0:=hb0;obtain⟨j00,j01⟩:=HC.out _ hbb0;clear hb0)|(go_at_call 99;(with_reducible refine(C1.out _ hn0).mono ?_);rintro e w1' ⟨rfl,hb1⟩;have hn1:=Wa hn0 hb1;have hbb1:=(Wa hbb0 hb1);obtain⟨j10,j11⟩:=HC.out _ hbb1;clear hb1))
     exact ZcC
    | true =>
     have HY:=hD (HYE.out rfl);clear HNO HYE;go_wp2_with (first|(go_at_call 99;(with_reducible refine(C0.out _ hnx).mono ?_);rintro e w0' ⟨rfl,hb0⟩;have hn0:=Wa hnx hb0;have hbb0:=hb0;obtain⟨j00,j01⟩:=HC.out _ hbb0;clear hb0)|(go_at_call 99;(with_reducible refine(C1.out _ hn0).mono ?_);rintro e w1' ⟨rfl,hb1⟩;have hn1:=Wa hn0 hb1;have hbb1:=(Wa hbb0 hb1);obtain⟨j10,j11⟩:=HC.out _ hbb1;clear hb1))
     exact Zc4
  ·have hd:decide ((k:Int)<(n:Int))=false:=by simp;omega
   obtain rfl:k=n:=by omega
   have HF:=hD (show l.all typB=true by have h:=HA.out;rw[← HN.out]at h;exact h.done);exact Zbg
theorem rimports_any (K:Nat→Prop) (w:World) (hK:∀ k,K k→k<w.heap.size) (ht:Tab w) (v:Value) (l:List (ByteArray×ByteArray×Int)) (h:ImpsK K w v l):Calls Tryz.prog 64 #[v] w (Wh (l.all impB) w):=by
 obtain⟨A,c,hv,hnc,hcm⟩:=Wd.form h;have H:=hD (Wd.keep (K':=fun k=>k<w.heap.size) h (.refl _ _) hK (fun _ _ _ h=>h));rw[hv]at H ⊢;clear h hv;unfold maxLen at hcm;obtain⟨n,hn⟩:∃ n,l.length=n:=⟨_,rfl⟩;have HN:=hD hn;rw[hn]at H hnc ⊢;clear hn;have HT:=hD ht;clear ht;go_enter Tryz.func64,Tryz.ntmps64;go_wp2_with fail
 go_loopw [7] (fun i wr=>∃ k:Nat,k≤n∧i=.int .i64 (k:Int)∧Hid (Below w.heap.size w wr)∧Hid (W0 impB l (ByteArray.empty,ByteArray.empty,0) k)) (fun i _=>n - (intOf i).toNat)
 case atStart=>exact⟨0,nZ _,rfl,hD (bR _ _),hD (W0.zero _ _ _)⟩
 case round =>
  obtain⟨w0,rfl⟩:∃ w0,w0=wr:=⟨_,rfl⟩;obtain⟨k,hk,rfl,HB,HA⟩:=hrel;by_cases hlt:k<n
  ·have hd:decide ((k:Int)<(n:Int))=true:=by simp;omega
   obtain⟨g,o,c',he,_,_⟩:=Wd.some_ H.out (by first|omega|(rw[HN.out];omega));simp only[vI]at he;obtain⟨rfl,-,rfl⟩:=he;have hAT:=Wd.keep (K':=fun k=>k<w0.heap.size) H.out (We.below HB.out fun _ hk=>hk) (fun _ hk=>Ve hk HB.out.size) (fun _ _ _ h=>h);obtain⟨u0,k0,h0⟩:=Wd.at_ hAT k 0 (by first|exact hlt|(rw[HN.out];exact hlt)) (by decide);obtain⟨u1,k1,h1⟩:=Wd.at_ hAT k 1 (by first|exact hlt|(rw[HN.out];exact hlt)) (by decide);obtain⟨u2,k2,h2⟩:=Wd.at_ hAT k 2 (by first|exact hlt|(rw[HN.out];exact hlt)) (by decide);have HNO:=hD (fun (h:impB (l.getD k (ByteArray.empty,ByteArray.empty,0))=false)=>VM (by rw[HN.out];exact hlt) h);have HYE:=hD (fun (h:impB (l.getD k (ByteArray.empty,ByteArray.empty,0))=true)=>HA.out.succ h);clear hAT;generalize l.getD k (ByteArray.empty,ByteArray.empty,0)=x at h0 h1 h2 HNO HYE;obtain⟨x1,x2,x3⟩:=x;obtain rfl:u0=.string x1:=h0;obtain rfl:u1=.string x2:=h1;obtain rfl:u2=.int .i64 x3:=h2;rw[Nat.add_zero]at k0;rw[show impB ⟨x1,x2,x3⟩=(strB x1 && strB x2 && idxB x3) from rfl]at HNO HYE;have C0:=hD (fun wz (hb:Below w0.heap.size w0 wz)=>str_any x1 wz (HT.out.below (Wa HB.out hb)));generalize strB x1=b0 at C0 HNO HYE;have C1:=hD (fun wz (hb:Below w0.heap.size w0 wz)=>str_any x2 wz (HT.out.below (Wa HB.out hb)));generalize strB x2=b1 at C1 HNO HYE;have C2:=hD (fun wz (hb:Below w0.heap.size w0 wz)=>idx_any x3 wz);generalize idxB x3=b2 at C2 HNO HYE;have hnx:=Wb (bR w0.heap.size w0) (.cells #[.string x1,.string x2,.int .i64 x3] 66);have HC:Hid (∀ wz,Below (w0.alloc (.cells #[.string x1,.string x2,.int .i64 x3] 66)).heap.size (w0.alloc (.cells #[.string x1,.string x2,.int .i64 x3] 66)) wz→wz.cell? ⟨w0.heap.size,0,none⟩=some (.string x1)∧wz.cell? ⟨w0.heap.size,1,none⟩=some (.string x2)∧wz.cell? ⟨w0.heap.size,2,none⟩=some (.int .i64 x3)):=hD fun wz hb=>by
    exact Zcg
   cases b0 with
   | false =>
    have HF:=hD (HNO.out (by rfl));clear HNO HYE;exact Zcl
   | true =>
    cases b1 with
    | false =>
     have HF:=hD (HNO.out (by rfl));clear HNO HYE;go_wp2_with (first|(go_at_call 100;(with_reducible refine(C0.out _ hnx).mono ?_);rintro e w0' ⟨rfl,hb0⟩;have hn0:=Wa hnx hb0;have hbb0:=hb0;obtain⟨j00,j01,j02⟩:=HC.out _ hbb0;clear hb0)|(go_at_call 100;(with_reducible refine(C1.out _ hn0).mono ?_);rintro e w1' ⟨rfl,hb1⟩;have hn1:=Wa hn0 hb1;have hbb1:=(Wa hbb0 hb1);obtain⟨j10,j11,j12⟩:=HC.out _ hbb1;clear hb1))
     exact ZcC
    | true =>
     cases b2 with
     | false =>
      have HF:=hD (HNO.out (by rfl));clear HNO HYE;go_wp2_with (first|(go_at_call 100;(with_reducible refine(C0.out _ hnx).mono ?_);rintro e w0' ⟨rfl,hb0⟩;have hn0:=Wa hnx hb0;have hbb0:=hb0;obtain⟨j00,j01,j02⟩:=HC.out _ hbb0;clear hb0)|(go_at_call 100;(with_reducible refine(C1.out _ hn0).mono ?_);rintro e w1' ⟨rfl,hb1⟩;have hn1:=Wa hn0 hb1;have hbb1:=(Wa hbb0 hb1);obtain⟨j10,j11,j12⟩:=HC.out _ hbb1;clear hb1)|(go_at_call 101;(with_reducible refine(C2.out _ hn1).mono ?_);rintro e w2' ⟨rfl,hb2⟩;have hn2:=Wa hn1 hb2;have hbb2:=(Wa hbb1 hb2);obtain⟨j20,j21,j22⟩:=HC.out _ hbb2;clear hb2))
      exact Zc8
     | true =>
      have HY:=hD (HYE.out rfl);clear HNO HYE;go_wp2_with (first|(go_at_call 100;(with_reducible refine(C0.out _ hnx).mono ?_);rintro e w0' ⟨rfl,hb0⟩;have hn0:=Wa hnx hb0;have hbb0:=hb0;obtain⟨j00,j01,j02⟩:=HC.out _ hbb0;clear hb0)|(go_at_call 100;(with_reducible refine(C1.out _ hn0).mono ?_);rintro e w1' ⟨rfl,hb1⟩;have hn1:=Wa hn0 hb1;have hbb1:=(Wa hbb0 hb1);obtain⟨j10,j11,j12⟩:=HC.out _ hbb1;clear hb1)|(go_at_call 101;(with_reducible refine(C2.out _ hn1).mono ?_);rintro e w2' ⟨rfl,hb2⟩;have hn2:=Wa hn1 hb2;have hbb2:=(Wa hbb1 hb2);obtain⟨j20,j21,j22⟩:=HC.out _ hbb2;clear hb2))
      exact Zc5
  ·have hd:decide ((k:Int)<(n:Int))=false:=by simp;omega
   obtain rfl:k=n:=by omega
   have HF:=hD (show l.all impB=true by have h:=HA.out;rw[← HN.out]at h;exact h.done);exact Zbg
theorem rinsts_any (K:Nat→Prop) (w:World) (hK:∀ k,K k→k<w.heap.size) (v:Value) (l:List (Vl)) (h:Uc K w v l) (hlen:l.length≤65536):Calls Tryz.prog 102 #[v] w (Wh (l.all WX) w):=by
 obtain⟨A,c,hv,hnc,hcm⟩:=Wd.form h;have H:=hD (Uc.keep (K':=fun k=>k<w.heap.size) h (.refl _ _) hK);rw[hv]at H ⊢;clear h hv;unfold maxLen at hcm;obtain⟨n,hn⟩:∃ n,l.length=n:=⟨_,rfl⟩;have HN:=hD hn;have hlen2:=hlen;rw[hn]at hlen2;have hgt:decide ((65536:Int)<(n:Int))=false:=by simp;omega
 clear hlen hlen2;rw[hn]at H hnc ⊢;clear hn;go_enter Tryz.func102,Tryz.ntmps102;go_wp2_with fail
 go_loopw [10] (fun i wr=>∃ k:Nat,k≤n∧i=.int .i64 (k:Int)∧Hid (Below w.heap.size w wr)∧Hid (W0 WX l Un k)) (fun i _=>n - (intOf i).toNat)
 case atStart=>exact⟨0,nZ _,rfl,hD (bR _ _),hD (W0.zero _ _ _)⟩
 case round =>
  obtain⟨w0,rfl⟩:∃ w0,w0=wr:=⟨_,rfl⟩;obtain⟨k,hk,rfl,HB,HA⟩:=hrel;by_cases hlt:k<n
  ·have hd:decide ((k:Int)<(n:Int))=true:=by simp;omega
   obtain⟨g,o,c',he,_,_⟩:=Wd.some_ H.out (by first|omega|(rw[HN.out];omega));simp only[vI]at he;obtain⟨rfl,-,rfl⟩:=he;have hAT:=Uc.keep H.out (We.below HB.out fun _ hk=>hk) fun _ hk=>Ve hk HB.out.size;obtain⟨u0,k0,h0⟩:=Wd.at_ hAT k 0 (by first|exact hlt|(rw[HN.out];exact hlt)) (by decide);obtain⟨u1,k1,h1⟩:=Wd.at_ hAT k 1 (by first|exact hlt|(rw[HN.out];exact hlt)) (by decide);obtain⟨u2,k2,h2⟩:=Wd.at_ hAT k 2 (by first|exact hlt|(rw[HN.out];exact hlt)) (by decide);obtain⟨u3,k3,h3⟩:=Wd.at_ hAT k 3 (by first|exact hlt|(rw[HN.out];exact hlt)) (by decide);obtain⟨u4,k4,h4⟩:=Wd.at_ hAT k 4 (by first|exact hlt|(rw[HN.out];exact hlt)) (by decide);have HNO:=hD (fun (h:WX (l.getD k Un)=false)=>VM (by rw[HN.out];exact hlt) h);have HYE:=hD (fun (h:WX (l.getD k Un)=true)=>HA.out.succ h);clear hAT;generalize l.getD k Un=x at h0 h1 h2 h3 h4 HNO HYE;obtain⟨x1,x2,x3,x4,x5⟩:=x;obtain rfl:u0=.int .i64 x1:=h0;obtain rfl:u1=.int .i64 x2:=h1;obtain rfl:u2=.int .i64 x3:=h2;obtain rfl:u3=.int .u64 x4:=h3.1;have h4:Wf (fun g=>g<w0.heap.size) w0 u4 x5:=h4.1;obtain⟨P4,q4,rfl,_,_⟩:=h4.form;generalize hm4:x5.length=m4 at *;clear hm4;rw[Nat.add_zero]at k0;rw[show WX ⟨x1,x2,x3,x4,x5⟩=(WX ⟨x1,x2,x3,x4,x5⟩) from rfl]at HNO HYE;have C0:=hD (fun wz (hb:Below w0.heap.size w0 wz)=>inst_any (fun g=>g<wz.heap.size) wz (fun _ hk=>hk) ⟨x1,x2,x3,x4,x5⟩ _ (h4.keep (We.below hb fun _ hk=>hk) fun _ hk=>Ve hk hb.size));generalize WX ⟨x1,x2,x3,x4,x5⟩=b0 at C0 HNO HYE;have hnx:=Wb (bR w0.heap.size w0) (.cells #[.int .i64 x1,.int .i64 x2,.int .i64 x3,.int .u64 x4,.slice P4 m4 q4] 25);have HC:Hid (∀ wz,Below (w0.alloc (.cells #[.int .i64 x1,.int .i64 x2,.int .i64 x3,.int .u64 x4,.slice P4 m4 q4] 25)).heap.size (w0.alloc (.cells #[.int .i64 x1,.int .i64 x2,.int .i64 x3,.int .u64 x4,.slice P4 m4 q4] 25)) wz→wz.cell? ⟨w0.heap.size,0,none⟩=some (.int .i64 x1)∧wz.cell? ⟨w0.heap.size,1,none⟩=some (.int .i64 x2)∧wz.cell? ⟨w0.heap.size,2,none⟩=some (.int .i64 x3)∧wz.cell? ⟨w0.heap.size,3,none⟩=some (.int .u64 x4)∧wz.cell? ⟨w0.heap.size,4,none⟩=some (.slice P4 m4 q4)):=hD fun wz hb=>by
    have h9:∀ i,wz.cell? ⟨w0.heap.size,i,none⟩=(#[.int .i64 x1,.int .i64 x2,.int .i64 x3,.int .u64 x4,.slice P4 m4 q4]:Array Value)[i]?:=fun i=>(hb.cell (p:=⟨w0.heap.size,i,none⟩) (by simp)).trans (wN w0 _ _ i);exact⟨h9 0,h9 1,h9 2,h9 3,h9 4⟩
   clear h4;cases b0 with
   | false =>
    have HF:=hD (HNO.out (by rfl));clear HNO HYE;go_wp2_with (go_at_call 149;(with_reducible refine(C0.out _ hnx).mono ?_);rintro e w0' ⟨rfl,hb0⟩;have hn0:=Wa hnx hb0;have hbb0:=hb0;obtain⟨j00,j01,j02,j03,j04⟩:=HC.out _ hbb0;clear hb0)
    exact Zbz
   | true =>
    have HY:=hD (HYE.out rfl);clear HNO HYE;go_wp2_with (go_at_call 149;(with_reducible refine(C0.out _ hnx).mono ?_);rintro e w0' ⟨rfl,hb0⟩;have hn0:=Wa hnx hb0;have hbb0:=hb0;obtain⟨j00,j01,j02,j03,j04⟩:=HC.out _ hbb0;clear hb0)
    exact Zbj
  ·have hd:decide ((k:Int)<(n:Int))=false:=by simp;omega
   obtain rfl:k=n:=by omega
   have HF:=hD (show l.all WX=true by have h:=HA.out;rw[← HN.out]at h;exact h.done);exact Zbg
theorem rcode_any (K:Nat→Prop) (w:World) (hK:∀ k,K k→k<w.heap.size) (v:Value) (l:List Vl) (h:Uc K w v l):Calls Tryz.prog 102 #[v] w (Wh (codeB l) w):=by
 by_cases hc:l.length≤65536
 ·rw[show codeB l=l.all WX by unfold codeB;rw[decide_eq_true hc,Bool.true_and]];exact rinsts_any K w hK v l h hc
 ·rw[show codeB l=false by unfold codeB;rw[decide_eq_false hc,Bool.false_and]];obtain⟨A,c,hv,_,_⟩:=Wd.form h;rw[hv];generalize l.length=n at *;have hgt:decide ((65536:Int)<(n:Int))=true:=by simp;omega
  clear hc h hv;go_enter Tryz.func102,Tryz.ntmps102;go_wp2;go_ret;exact⟨rfl,bR _ _⟩
theorem rfuncs_any (K:Nat→Prop) (w:World) (hK:∀ k,K k→k<w.heap.size) (v:Value) (l:List (Fnc)) (h:FunsK K w v l):Calls Tryz.prog 65 #[v] w (Wh (l.all fncB) w):=by
 obtain⟨A,c,hv,hnc,hcm⟩:=Wd.form h;have H:=hD (FunsK.keep (K':=fun k=>k<w.heap.size) h (.refl _ _) hK);rw[hv]at H ⊢;clear h hv;unfold maxLen at hcm;obtain⟨n,hn⟩:∃ n,l.length=n:=⟨_,rfl⟩;have HN:=hD hn;rw[hn]at H hnc ⊢;clear hn;go_enter Tryz.func65,Tryz.ntmps65;go_wp2_with fail
 go_loopw [7] (fun i wr=>∃ k:Nat,k≤n∧i=.int .i64 (k:Int)∧Hid (Below w.heap.size w wr)∧Hid (W0 fncB l WW k)) (fun i _=>n - (intOf i).toNat)
 case atStart=>exact⟨0,nZ _,rfl,hD (bR _ _),hD (W0.zero _ _ _)⟩
 case round =>
  obtain⟨w0,rfl⟩:∃ w0,w0=wr:=⟨_,rfl⟩;obtain⟨k,hk,rfl,HB,HA⟩:=hrel;by_cases hlt:k<n
  ·have hd:decide ((k:Int)<(n:Int))=true:=by simp;omega
   obtain⟨g,o,c',he,_,_⟩:=Wd.some_ H.out (by first|omega|(rw[HN.out];omega));simp only[vI]at he;obtain⟨rfl,-,rfl⟩:=he;have hAT:=FunsK.keep H.out (We.below HB.out fun _ hk=>hk) fun _ hk=>Ve hk HB.out.size;obtain⟨u0,k0,h0⟩:=Wd.at_ hAT k 0 (by first|exact hlt|(rw[HN.out];exact hlt)) (by decide);obtain⟨u1,k1,h1⟩:=Wd.at_ hAT k 1 (by first|exact hlt|(rw[HN.out];exact hlt)) (by decide);obtain⟨u2,k2,h2⟩:=Wd.at_ hAT k 2 (by first|exact hlt|(rw[HN.out];exact hlt)) (by decide);have HNO:=hD (fun (h:fncB (l.getD k WW)=false)=>VM (by rw[HN.out];exact hlt) h);have HYE:=hD (fun (h:fncB (l.getD k WW)=true)=>HA.out.succ h);clear hAT;generalize l.getD k WW=x at h0 h1 h2 HNO HYE;obtain⟨x1,x2,x3⟩:=x;obtain rfl:u0=.int .i64 x1:=h0;have h1:Wf (fun g=>g<w0.heap.size) w0 u1 x2:=h1;have h2:Uc (fun g=>g<w0.heap.size) w0 u2 x3:=h2;obtain⟨P1,q1,rfl,_,_⟩:=h1.form;obtain⟨P2,q2,rfl,_,_⟩:=Wd.form h2;generalize hm1:x2.length=m1 at *;generalize hm2:x3.length=m2 at *;clear hm1 hm2;rw[Nat.add_zero]at k0;rw[show fncB ⟨x1,x2,x3⟩=(idxB x1 && Vs x2 256 && codeB x3) from rfl]at HNO HYE;have C0:=hD (fun wz (hb:Below w0.heap.size w0 wz)=>idx_any x1 wz);generalize idxB x1=b0 at C0 HNO HYE;have C1:=hD (fun wz (hb:Below w0.heap.size w0 wz)=>kinds_any (fun g=>g<wz.heap.size) wz (fun _ hk=>hk) _ x2 (h1.keep (We.below hb fun _ hk=>hk) fun _ hk=>Ve hk hb.size) 256);generalize Vs x2 256=b1 at C1 HNO HYE;have C2:=hD (fun wz (hb:Below w0.heap.size w0 wz)=>rcode_any (fun g=>g<wz.heap.size) wz (fun _ hk=>hk) _ x3 (Uc.keep h2 (We.below hb fun _ hk=>hk) fun _ hk=>Ve hk hb.size));generalize codeB x3=b2 at C2 HNO HYE;have hnx:=Wb (bR w0.heap.size w0) (.cells #[.int .i64 x1,.slice P1 m1 q1,.slice P2 m2 q2] 68);have HC:Hid (∀ wz,Below (w0.alloc (.cells #[.int .i64 x1,.slice P1 m1 q1,.slice P2 m2 q2] 68)).heap.size (w0.alloc (.cells #[.int .i64 x1,.slice P1 m1 q1,.slice P2 m2 q2] 68)) wz→wz.cell? ⟨w0.heap.size,0,none⟩=some (.int .i64 x1)∧wz.cell? ⟨w0.heap.size,1,none⟩=some (.slice P1 m1 q1)∧wz.cell? ⟨w0.heap.size,2,none⟩=some (.slice P2 m2 q2)):=hD fun wz hb=>by
    exact Zca
   clear h1 h2;cases b0 with
   | false =>
    have HF:=hD (HNO.out (by rfl));clear HNO HYE;go_wp2_with (go_at_call 101;(with_reducible refine(C0.out _ hnx).mono ?_);rintro e w0' ⟨rfl,hb0⟩;have hn0:=Wa hnx hb0;have hbb0:=hb0;obtain⟨j00,j01,j02⟩:=HC.out _ hbb0;clear hb0)
    exact Zbz
   | true =>
    cases b1 with
    | false =>
     have HF:=hD (HNO.out (by rfl));clear HNO HYE;go_wp2_with (first|(go_at_call 101;(with_reducible refine(C0.out _ hnx).mono ?_);rintro e w0' ⟨rfl,hb0⟩;have hn0:=Wa hnx hb0;have hbb0:=hb0;obtain⟨j00,j01,j02⟩:=HC.out _ hbb0;clear hb0)|(go_at_call 99;(with_reducible refine(C1.out _ hn0).mono ?_);rintro e w1' ⟨rfl,hb1⟩;have hn1:=Wa hn0 hb1;have hbb1:=(Wa hbb0 hb1);obtain⟨j10,j11,j12⟩:=HC.out _ hbb1;clear hb1))
     exact ZcC
    | true =>
     cases b2 with
     | false =>
      have HF:=hD (HNO.out (by rfl));clear HNO HYE;go_wp2_with (first|(go_at_call 101;(with_reducible refine(C0.out _ hnx).mono ?_);rintro e w0' ⟨rfl,hb0⟩;have hn0:=Wa hnx hb0;have hbb0:=hb0;obtain⟨j00,j01,j02⟩:=HC.out _ hbb0;clear hb0)|(go_at_call 99;(with_reducible refine(C1.out _ hn0).mono ?_);rintro e w1' ⟨rfl,hb1⟩;have hn1:=Wa hn0 hb1;have hbb1:=(Wa hbb0 hb1);obtain⟨j10,j11,j12⟩:=HC.out _ hbb1;clear hb1)|(go_at_call 102;(with_reducible refine(C2.out _ hn1).mono ?_);rintro e w2' ⟨rfl,hb2⟩;have hn2:=Wa hn1 hb2;have hbb2:=(Wa hbb1 hb2);obtain⟨j20,j21,j22⟩:=HC.out _ hbb2;clear hb2))
      exact Zc8
     | true =>
      have HY:=hD (HYE.out rfl);clear HNO HYE;go_wp2_with (first|(go_at_call 101;(with_reducible refine(C0.out _ hnx).mono ?_);rintro e w0' ⟨rfl,hb0⟩;have hn0:=Wa hnx hb0;have hbb0:=hb0;obtain⟨j00,j01,j02⟩:=HC.out _ hbb0;clear hb0)|(go_at_call 99;(with_reducible refine(C1.out _ hn0).mono ?_);rintro e w1' ⟨rfl,hb1⟩;have hn1:=Wa hn0 hb1;have hbb1:=(Wa hbb0 hb1);obtain⟨j10,j11,j12⟩:=HC.out _ hbb1;clear hb1)|(go_at_call 102;(with_reducible refine(C2.out _ hn1).mono ?_);rintro e w2' ⟨rfl,hb2⟩;have hn2:=Wa hn1 hb2;have hbb2:=(Wa hbb1 hb2);obtain⟨j20,j21,j22⟩:=HC.out _ hbb2;clear hb2))
      exact Zc5
  ·have hd:decide ((k:Int)<(n:Int))=false:=by simp;omega
   obtain rfl:k=n:=by omega
   have HF:=hD (show l.all fncB=true by have h:=HA.out;rw[← HN.out]at h;exact h.done);exact Zbg
theorem rmems_any (K:Nat→Prop) (w:World) (hK:∀ k,K k→k<w.heap.size) (v:Value) (l:List (Int×Int)) (h:MemsK K w v l):Calls Tryz.prog 66 #[v] w (Wh (l.all memB) w):=by
 obtain⟨A,c,hv,hnc,hcm⟩:=Wd.form h;have H:=hD (Wd.keep (K':=fun k=>k<w.heap.size) h (.refl _ _) hK (fun _ _ _ h=>h));rw[hv]at H ⊢;clear h hv;unfold maxLen at hcm;obtain⟨n,hn⟩:∃ n,l.length=n:=⟨_,rfl⟩;have HN:=hD hn;rw[hn]at H hnc ⊢;clear hn;go_enter Tryz.func66,Tryz.ntmps66;go_wp2_with fail
 go_loopw [7] (fun i wr=>∃ k:Nat,k≤n∧i=.int .i64 (k:Int)∧Hid (Below w.heap.size w wr)∧Hid (W0 memB l (0,0) k)) (fun i _=>n - (intOf i).toNat)
 case atStart=>exact⟨0,nZ _,rfl,hD (bR _ _),hD (W0.zero _ _ _)⟩
 case round =>
  obtain⟨w0,rfl⟩:∃ w0,w0=wr:=⟨_,rfl⟩;obtain⟨k,hk,rfl,HB,HA⟩:=hrel;by_cases hlt:k<n
  ·have hd:decide ((k:Int)<(n:Int))=true:=by simp;omega
   obtain⟨g,o,c',he,_,_⟩:=Wd.some_ H.out (by first|omega|(rw[HN.out];omega));simp only[vI]at he;obtain⟨rfl,-,rfl⟩:=he;have hAT:=Wd.keep (K':=fun k=>k<w0.heap.size) H.out (We.below HB.out fun _ hk=>hk) (fun _ hk=>Ve hk HB.out.size) (fun _ _ _ h=>h);obtain⟨u0,k0,h0⟩:=Wd.at_ hAT k 0 (by first|exact hlt|(rw[HN.out];exact hlt)) (by decide);obtain⟨u1,k1,h1⟩:=Wd.at_ hAT k 1 (by first|exact hlt|(rw[HN.out];exact hlt)) (by decide);have HNO:=hD (fun (h:memB (l.getD k (0,0))=false)=>VM (by rw[HN.out];exact hlt) h);have HYE:=hD (fun (h:memB (l.getD k (0,0))=true)=>HA.out.succ h);clear hAT;generalize l.getD k (0,0)=x at h0 h1 HNO HYE;obtain⟨x1,x2⟩:=x;obtain rfl:u0=.int .i64 x1:=h0;obtain rfl:u1=.int .i64 x2:=h1;rw[Nat.add_zero]at k0;rw[show memB ⟨x1,x2⟩=(decide (0≤x1) && decide (x1≤x2) && decide (x2≤512)) from rfl]at HNO HYE;generalize hb0:(decide (0≤x1))=b0 at HNO HYE;generalize hb1:(decide (x1≤x2))=b1 at HNO HYE;generalize hb2:(decide (x2≤512))=b2 at HNO HYE;have hnx:=Wb (bR w0.heap.size w0) (.cells #[.int .i64 x1,.int .i64 x2] 58);have HC:Hid (∀ wz,Below (w0.alloc (.cells #[.int .i64 x1,.int .i64 x2] 58)).heap.size (w0.alloc (.cells #[.int .i64 x1,.int .i64 x2] 58)) wz→wz.cell? ⟨w0.heap.size,0,none⟩=some (.int .i64 x1)∧wz.cell? ⟨w0.heap.size,1,none⟩=some (.int .i64 x2)):=hD fun wz hb=>by
    exact Zcr
   cases b0 with
   | false =>
    have HF:=hD (HNO.out (by rfl));clear HNO HYE;have e0:=of_decide_eq_false hb0;clear hb0;have d0:decide (x1<0)=true:=by simp;omega
    clear e0;exact ZcV
   | true =>
    have e0:=of_decide_eq_true hb0;clear hb0;have d0:decide (x1<0)=false:=by simp;omega
    clear e0;cases b1 with
    | false =>
     have HF:=hD (HNO.out (by rfl));clear HNO HYE;have e1:=of_decide_eq_false hb1;clear hb1;have d1:decide (x2<x1)=true:=by simp;omega
     clear e1;exact ZcV
    | true =>
     have e1:=of_decide_eq_true hb1;clear hb1;have d1:decide (x2<x1)=false:=by simp;omega
     clear e1;cases b2 with
     | false =>
      have HF:=hD (HNO.out (by rfl));clear HNO HYE;have e2:=of_decide_eq_false hb2;clear hb2;have d2:decide (512<x2)=true:=by simp;omega
      clear e2;exact ZcV
     | true =>
      exact ZcL
  ·have hd:decide ((k:Int)<(n:Int))=false:=by simp;omega
   obtain rfl:k=n:=by omega
   have HF:=hD (show l.all memB=true by have h:=HA.out;rw[← HN.out]at h;exact h.done);exact Zbg
theorem rcustoms_any (K:Nat→Prop) (w:World) (hK:∀ k,K k→k<w.heap.size) (ht:Tab w) (v:Value) (l:List (ByteArray×List Nat)) (h:CusK K w v l):Calls Tryz.prog 70 #[v] w (Wh (l.all cusB) w):=by
 obtain⟨A,c,hv,hnc,hcm⟩:=Wd.form h;have H:=hD (CusK.keep (K':=fun k=>k<w.heap.size) h (.refl _ _) hK);rw[hv]at H ⊢;clear h hv;unfold maxLen at hcm;obtain⟨n,hn⟩:∃ n,l.length=n:=⟨_,rfl⟩;have HN:=hD hn;rw[hn]at H hnc ⊢;clear hn;have HT:=hD ht;clear ht;go_enter Tryz.func70,Tryz.ntmps70;go_wp2_with fail
 go_loopw [7] (fun i wr=>∃ k:Nat,k≤n∧i=.int .i64 (k:Int)∧Hid (Below w.heap.size w wr)∧Hid (W0 cusB l (ByteArray.empty,[]) k)) (fun i _=>n - (intOf i).toNat)
 case atStart=>exact⟨0,nZ _,rfl,hD (bR _ _),hD (W0.zero _ _ _)⟩
 case round =>
  obtain⟨w0,rfl⟩:∃ w0,w0=wr:=⟨_,rfl⟩;obtain⟨k,hk,rfl,HB,HA⟩:=hrel;by_cases hlt:k<n
  ·have hd:decide ((k:Int)<(n:Int))=true:=by simp;omega
   obtain⟨g,o,c',he,_,_⟩:=Wd.some_ H.out (by first|omega|(rw[HN.out];omega));simp only[vI]at he;obtain⟨rfl,-,rfl⟩:=he;have hAT:=CusK.keep H.out (We.below HB.out fun _ hk=>hk) fun _ hk=>Ve hk HB.out.size;obtain⟨u0,k0,h0⟩:=Wd.at_ hAT k 0 (by first|exact hlt|(rw[HN.out];exact hlt)) (by decide);obtain⟨u1,k1,h1⟩:=Wd.at_ hAT k 1 (by first|exact hlt|(rw[HN.out];exact hlt)) (by decide);have HNO:=hD (fun (h:cusB (l.getD k (ByteArray.empty,[]))=false)=>VM (by rw[HN.out];exact hlt) h);have HYE:=hD (fun (h:cusB (l.getD k (ByteArray.empty,[]))=true)=>HA.out.succ h);clear hAT;generalize l.getD k (ByteArray.empty,[])=x at h0 h1 HNO HYE;obtain⟨x1,x2⟩:=x;obtain rfl:u0=.string x1:=h0;obtain⟨P1,q1,rfl,hx2,_⟩:=h1;obtain⟨m1,hm1⟩:∃ m,x2.length=m:=⟨_,rfl⟩;rw[hm1]at k1 hx2;rw[Nat.add_zero]at k0;rw[show cusB ⟨x1,x2⟩=(strB x1 && decide (x2.length≤1048576)) from rfl]at HNO HYE;rw[hm1]at HNO HYE;clear hm1;have C0:=hD (fun wz (hb:Below w0.heap.size w0 wz)=>str_any x1 wz (HT.out.below (Wa HB.out hb)));generalize strB x1=b0 at C0 HNO HYE;generalize hb1:(decide (m1≤1048576))=b1 at HNO HYE;have hnx:=Wb (bR w0.heap.size w0) (.cells #[.string x1,.slice P1 m1 q1] 185);have HC:Hid (∀ wz,Below (w0.alloc (.cells #[.string x1,.slice P1 m1 q1] 185)).heap.size (w0.alloc (.cells #[.string x1,.slice P1 m1 q1] 185)) wz→wz.cell? ⟨w0.heap.size,0,none⟩=some (.string x1)∧wz.cell? ⟨w0.heap.size,1,none⟩=some (.slice P1 m1 q1)):=hD fun wz hb=>by
    exact Zcp
   cases b0 with
   | false =>
    have HF:=hD (HNO.out (by rfl));clear HNO HYE;exact Zcq
   | true =>
    cases b1 with
    | false =>
     have HF:=hD (HNO.out (by rfl));clear HNO HYE;have e1:=of_decide_eq_false hb1;clear hb1;have d1:decide ((1048576:Int)<(m1:Int))=true:=by simp;omega
     clear e1;exact Zcq
    | true =>
     have e1:=of_decide_eq_true hb1;clear hb1;have d1:decide ((1048576:Int)<(m1:Int))=false:=by simp;omega
     clear e1;have HY:=hD (HYE.out rfl);clear HNO HYE;go_wp2_with (go_at_call 100;(with_reducible refine(C0.out _ hnx).mono ?_);rintro e w0' ⟨rfl,hb0⟩;have hn0:=Wa hnx hb0;have hbb0:=hb0;obtain⟨j00,j01⟩:=HC.out _ hbb0;clear hb0)
     exact Zbj
  ·have hd:decide ((k:Int)<(n:Int))=false:=by simp;omega
   obtain rfl:k=n:=by omega
   have HF:=hD (show l.all cusB=true by have h:=HA.out;rw[← HN.out]at h;exact h.done);exact Zbg
theorem rglobs_any (K:Nat→Prop) (w:World) (hK:∀ k,K k→k<w.heap.size) (v:Value) (l:List (Int×Bool×Int)) (h:GlobsK K w v l):Calls Tryz.prog 67 #[v] w (Wh (l.all Uj) w):=by
 obtain⟨A,c,hv,hnc,hcm⟩:=Wd.form h;have H:=hD (Wd.keep (K':=fun k=>k<w.heap.size) h (.refl _ _) hK (fun _ _ _ h=>h));rw[hv]at H ⊢;clear h hv;unfold maxLen at hcm;obtain⟨n,hn⟩:∃ n,l.length=n:=⟨_,rfl⟩;have HN:=hD hn;rw[hn]at H hnc ⊢;clear hn;go_enter Tryz.func67,Tryz.ntmps67;go_wp2_with fail
 go_loopw [7] (fun i wr=>∃ k:Nat,k≤n∧i=.int .i64 (k:Int)∧Hid (Below w.heap.size w wr)∧Hid (W0 Uj l (0,false,0) k)) (fun i _=>n - (intOf i).toNat)
 case atStart=>exact⟨0,nZ _,rfl,hD (bR _ _),hD (W0.zero _ _ _)⟩
 case round =>
  obtain⟨w0,rfl⟩:∃ w0,w0=wr:=⟨_,rfl⟩;obtain⟨k,hk,rfl,HB,HA⟩:=hrel;by_cases hlt:k<n
  ·have hd:decide ((k:Int)<(n:Int))=true:=by simp;omega
   obtain⟨g,o,c',he,_,_⟩:=Wd.some_ H.out (by first|omega|(rw[HN.out];omega));simp only[vI]at he;obtain⟨rfl,-,rfl⟩:=he;have hAT:=Wd.keep (K':=fun k=>k<w0.heap.size) H.out (We.below HB.out fun _ hk=>hk) (fun _ hk=>Ve hk HB.out.size) (fun _ _ _ h=>h);obtain⟨u0,k0,h0⟩:=Wd.at_ hAT k 0 (by first|exact hlt|(rw[HN.out];exact hlt)) (by decide);obtain⟨u1,k1,h1⟩:=Wd.at_ hAT k 1 (by first|exact hlt|(rw[HN.out];exact hlt)) (by decide);obtain⟨u2,k2,h2⟩:=Wd.at_ hAT k 2 (by first|exact hlt|(rw[HN.out];exact hlt)) (by decide);have HNO:=hD (fun (h:Uj (l.getD k (0,false,0))=false)=>VM (by rw[HN.out];exact hlt) h);have HYE:=hD (fun (h:Uj (l.getD k (0,false,0))=true)=>HA.out.succ h);clear hAT;generalize l.getD k (0,false,0)=x at h0 h1 h2 HNO HYE;obtain⟨x1,x2,x3⟩:=x;obtain rfl:u0=.int .i64 x1:=h0;obtain rfl:u1=.bool x2:=h1;obtain rfl:u2=.int .u64 x3:=h2.1;rw[Nat.add_zero]at k0;by_cases hq:x1=127
   ·skip
    subst hq;rw[show Uj ⟨127,x2,x3⟩=(VF 127 && decide (x3≤4294967295)) from glob_127 x2 x3]at HNO HYE;have C0:=hD (fun wz (hb:Below w0.heap.size w0 wz)=>kind_any 127 wz);generalize VF 127=b0 at C0 HNO HYE;generalize hb1:(decide (x3≤4294967295))=b1 at HNO HYE;have hnx:=Wb (bR w0.heap.size w0) (.cells #[.int .i64 127,.bool x2,.int .u64 x3] 70);have HC:Hid (∀ wz,Below (w0.alloc (.cells #[.int .i64 127,.bool x2,.int .u64 x3] 70)).heap.size (w0.alloc (.cells #[.int .i64 127,.bool x2,.int .u64 x3] 70)) wz→wz.cell? ⟨w0.heap.size,0,none⟩=some (.int .i64 127)∧wz.cell? ⟨w0.heap.size,1,none⟩=some (.bool x2)∧wz.cell? ⟨w0.heap.size,2,none⟩=some (.int .u64 x3)):=hD fun wz hb=>by
     exact Zcf
    cases b0 with
    | false =>
     have HF:=hD (HNO.out (by rfl));clear HNO HYE;exact Zba
    | true =>
     cases b1 with
     | false =>
      have HF:=hD (HNO.out (by rfl));clear HNO HYE;have e1:=of_decide_eq_false hb1;clear hb1;have d1:decide (4294967295<x3)=true:=by simp;omega
      clear e1;exact Zba
     | true =>
      have e1:=of_decide_eq_true hb1;clear hb1;have d1:decide (4294967295<x3)=false:=by simp;omega
      clear e1;exact ZbW
   ·skip
    have dq:(x1==127)=false:=by simpa using hq
    rw[show Uj ⟨x1,x2,x3⟩=(VF x1) from by simp[Uj,hq]]at HNO HYE;clear hq;have C0:=hD (fun wz (hb:Below w0.heap.size w0 wz)=>kind_any x1 wz);generalize VF x1=b0 at C0 HNO HYE;have hnx:=Wb (bR w0.heap.size w0) (.cells #[.int .i64 x1,.bool x2,.int .u64 x3] 70);have HC:Hid (∀ wz,Below (w0.alloc (.cells #[.int .i64 x1,.bool x2,.int .u64 x3] 70)).heap.size (w0.alloc (.cells #[.int .i64 x1,.bool x2,.int .u64 x3] 70)) wz→wz.cell? ⟨w0.heap.size,0,none⟩=some (.int .i64 x1)∧wz.cell? ⟨w0.heap.size,1,none⟩=some (.bool x2)∧wz.cell? ⟨w0.heap.size,2,none⟩=some (.int .u64 x3)):=hD fun wz hb=>by
     exact Zch
    cases b0 with
    | false =>
     have HF:=hD (HNO.out (by rfl));clear HNO HYE;exact Zba
    | true =>
     exact ZbW
  ·have hd:decide ((k:Int)<(n:Int))=false:=by simp;omega
   obtain rfl:k=n:=by omega
   have HF:=hD (show l.all Uj=true by have h:=HA.out;rw[← HN.out]at h;exact h.done);exact Zbg
theorem rdatas_any (K:Nat→Prop) (w:World) (hK:∀ k,K k→k<w.heap.size) (v:Value) (l:List (Dat)) (h:DatasK K w v l):Calls Tryz.prog 69 #[v] w (Wh (l.all datB) w):=by
 obtain⟨A,c,hv,hnc,hcm⟩:=Wd.form h;have H:=hD (DatasK.keep (K':=fun k=>k<w.heap.size) h (.refl _ _) hK);rw[hv]at H ⊢;clear h hv;unfold maxLen at hcm;obtain⟨n,hn⟩:∃ n,l.length=n:=⟨_,rfl⟩;have HN:=hD hn;rw[hn]at H hnc ⊢;clear hn;go_enter Tryz.func69,Tryz.ntmps69;go_wp2_with fail
 go_loopw [9] (fun i wr=>∃ k:Nat,k≤n∧i=.int .i64 (k:Int)∧Hid (Below w.heap.size w wr)∧Hid (W0 datB l dat0 k)) (fun i _=>n - (intOf i).toNat)
 case atStart=>exact⟨0,nZ _,rfl,hD (bR _ _),hD (W0.zero _ _ _)⟩
 case round =>
  obtain⟨w0,rfl⟩:∃ w0,w0=wr:=⟨_,rfl⟩;obtain⟨k,hk,rfl,HB,HA⟩:=hrel;by_cases hlt:k<n
  ·have hd:decide ((k:Int)<(n:Int))=true:=by simp;omega
   obtain⟨g,o,c',he,_,_⟩:=Wd.some_ H.out (by first|omega|(rw[HN.out];omega));simp only[vI]at he;obtain⟨rfl,-,rfl⟩:=he;have hAT:=DatasK.keep H.out (We.below HB.out fun _ hk=>hk) fun _ hk=>Ve hk HB.out.size;obtain⟨u0,k0,h0⟩:=Wd.at_ hAT k 0 (by first|exact hlt|(rw[HN.out];exact hlt)) (by decide);obtain⟨u1,k1,h1⟩:=Wd.at_ hAT k 1 (by first|exact hlt|(rw[HN.out];exact hlt)) (by decide);obtain⟨u2,k2,h2⟩:=Wd.at_ hAT k 2 (by first|exact hlt|(rw[HN.out];exact hlt)) (by decide);obtain⟨u3,k3,h3⟩:=Wd.at_ hAT k 3 (by first|exact hlt|(rw[HN.out];exact hlt)) (by decide);have HNO:=hD (fun (h:datB (l.getD k dat0)=false)=>VM (by rw[HN.out];exact hlt) h);have HYE:=hD (fun (h:datB (l.getD k dat0)=true)=>HA.out.succ h);clear hAT;generalize l.getD k dat0=x at h0 h1 h2 h3 HNO HYE;obtain⟨x1,x2,x3,x4⟩:=x;obtain rfl:u0=.bool x1:=h0;obtain rfl:u1=.int .i64 x2:=h1;obtain rfl:u2=.int .i64 x3:=h2;obtain⟨P3,q3,rfl,hx4,_⟩:=h3;obtain⟨m3,hm3⟩:∃ m,x4.length=m:=⟨_,rfl⟩;rw[hm3]at k3 hx4;rw[Nat.add_zero]at k0;rcases x1
   ·skip
    rw[show datB ⟨false,x2,x3,x4⟩=(inB x2 0 0 && inB x3 0 0 && decide (x4.length≤1048576)) from rfl]at HNO HYE;rw[hm3]at HNO HYE;clear hm3;have C0:=hD (fun wz (hb:Below w0.heap.size w0 wz)=>inB_any x2 0 0 wz);generalize inB x2 0 0=b0 at C0 HNO HYE;have C1:=hD (fun wz (hb:Below w0.heap.size w0 wz)=>inB_any x3 0 0 wz);generalize inB x3 0 0=b1 at C1 HNO HYE;generalize hb2:(decide (m3≤1048576))=b2 at HNO HYE;have hnx:=Wb (bR w0.heap.size w0) (.cells #[.bool false,.int .i64 x2,.int .i64 x3,.slice P3 m3 q3] 61);have HC:Hid (∀ wz,Below (w0.alloc (.cells #[.bool false,.int .i64 x2,.int .i64 x3,.slice P3 m3 q3] 61)).heap.size (w0.alloc (.cells #[.bool false,.int .i64 x2,.int .i64 x3,.slice P3 m3 q3] 61)) wz→wz.cell? ⟨w0.heap.size,0,none⟩=some (.bool false)∧wz.cell? ⟨w0.heap.size,1,none⟩=some (.int .i64 x2)∧wz.cell? ⟨w0.heap.size,2,none⟩=some (.int .i64 x3)∧wz.cell? ⟨w0.heap.size,3,none⟩=some (.slice P3 m3 q3)):=hD fun wz hb=>by
     exact Zb0
    exact Zq
   ·skip
    rw[show datB ⟨true,x2,x3,x4⟩=(inB x2 0 3 && inB x3 0 2147483647 && decide (x4.length≤1048576)) from rfl]at HNO HYE;rw[hm3]at HNO HYE;clear hm3;have C0:=hD (fun wz (hb:Below w0.heap.size w0 wz)=>inB_any x2 0 3 wz);generalize inB x2 0 3=b0 at C0 HNO HYE;have C1:=hD (fun wz (hb:Below w0.heap.size w0 wz)=>inB_any x3 0 2147483647 wz);generalize inB x3 0 2147483647=b1 at C1 HNO HYE;generalize hb2:(decide (m3≤1048576))=b2 at HNO HYE;have hnx:=Wb (bR w0.heap.size w0) (.cells #[.bool true,.int .i64 x2,.int .i64 x3,.slice P3 m3 q3] 61);have HC:Hid (∀ wz,Below (w0.alloc (.cells #[.bool true,.int .i64 x2,.int .i64 x3,.slice P3 m3 q3] 61)).heap.size (w0.alloc (.cells #[.bool true,.int .i64 x2,.int .i64 x3,.slice P3 m3 q3] 61)) wz→wz.cell? ⟨w0.heap.size,0,none⟩=some (.bool true)∧wz.cell? ⟨w0.heap.size,1,none⟩=some (.int .i64 x2)∧wz.cell? ⟨w0.heap.size,2,none⟩=some (.int .i64 x3)∧wz.cell? ⟨w0.heap.size,3,none⟩=some (.slice P3 m3 q3)):=hD fun wz hb=>by
     exact Zb3
    exact Zq
  ·have hd:decide ((k:Int)<(n:Int))=false:=by simp;omega
   obtain rfl:k=n:=by omega
   have HF:=hD (show l.all datB=true by have h:=HA.out;rw[← HN.out]at h;exact h.done);exact Zbg
end Go.Proofs.YtmfpnfdinoofpaaGreatDoor
