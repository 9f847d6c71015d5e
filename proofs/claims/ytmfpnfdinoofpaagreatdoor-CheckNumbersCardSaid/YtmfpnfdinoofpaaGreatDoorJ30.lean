/- A part of the proof. -/
import Derived.Test.YtmfpnfdinoofpaaGreatDoorJ23
import Derived.Test.YtmfpnfdinoofpaaGreatDoorJ26
namespace Go.Proofs.YtmfpnfdinoofpaaGreatDoor
open Go.RowKit
set_option maxHeartbeats 20000000
set_option maxRecDepth 100000
theorem ZI {P:Prop}(h:P:=by
 go_ret;exact⟨WV (by rw[HF.out]),Wa HB01.out (Wa HB.out hnx)⟩):P:=h
theorem Zcb {P:Prop}(h:P:=by
 go_wp2_with (first|(go_at_call 111;(with_reducible refine(C0.out _ hnx).mono ?_);rintro e w0' ⟨rfl,rfl⟩))
 exact ZI):P:=h
theorem Zcm {P:Prop}(h:P:=by
 go_wp2_with (first|(go_at_call 109;(with_reducible refine(C0.out _ hnx).mono ?_);rintro e w0' ⟨rfl,rfl⟩)|(go_at_call 107;(with_reducible refine(C1.out _ hnx).mono ?_);rintro e w1' ⟨rfl,rfl⟩))
 exact ZI):P:=h
theorem ZcG {P:Prop}(h:P:=by
 have HF:=hD (HNO.out (by rfl));clear HNO HYE;go_wp2_with (first|(go_at_call 109;(with_reducible refine(C0.out _ hnx).mono ?_);rintro e w0' ⟨rfl,rfl⟩))
 exact ZI):P:=h
theorem ZcI {P:Prop}(h:P:=by
 have HY:=hD (HYE.out rfl);clear HNO HYE;go_wp2_with (first|(go_at_call 111;(with_reducible refine(C0.out _ hnx).mono ?_);rintro e w0' ⟨rfl,rfl⟩))
 exact ZK):P:=h
def TypedM (m:Vt):Prop:=∀ f ∈ m.funs,∀ x ∈ f.code,0≤x.n∧x.n≤18446744073709551615
def UF (m:Vt):Bool:=m.types.all typB && m.imps.all impB && m.funs.all fncB && m.mems.all memB && m.globs.all Uj
theorem dparts_any (w:World) (v:Mv) (m:Vt) (h:W7 (fun k=>k<w.heap.size) w v m) (hT:TypedM m):Calls Tryz.prog 74 #[.agg v.cells] w (Wh (UF m) w):=by
 have HTY:=hD hT;clear hT;obtain⟨A0,c0,A1,c1,A2,c2,A3,c3,A4,c4,A5,c5,A6,c6,A7,c7,rfl⟩:=Wr h;have HL0:=hD (fun wz (hb:Below w.heap.size w wz)=>(h.keep (K':=fun k=>k<wz.heap.size) (We.below hb fun _ hk=>hk) fun _ hk=>Ve hk hb.size).types);have HL1:=hD (fun wz (hb:Below w.heap.size w wz)=>(h.keep (K':=fun k=>k<wz.heap.size) (We.below hb fun _ hk=>hk) fun _ hk=>Ve hk hb.size).imps);have HL2:=hD (fun wz (hb:Below w.heap.size w wz)=>(h.keep (K':=fun k=>k<wz.heap.size) (We.below hb fun _ hk=>hk) fun _ hk=>Ve hk hb.size).funs);have HL3:=hD (fun wz (hb:Below w.heap.size w wz)=>(h.keep (K':=fun k=>k<wz.heap.size) (We.below hb fun _ hk=>hk) fun _ hk=>Ve hk hb.size).mems);have HL4:=hD (fun wz (hb:Below w.heap.size w wz)=>(h.keep (K':=fun k=>k<wz.heap.size) (We.below hb fun _ hk=>hk) fun _ hk=>Ve hk hb.size).globs);have hl0:=Wd.form h.types;unfold maxLen at hl0;have hl1:=Wd.form h.imps;unfold maxLen at hl1;have hl2:=Wd.form h.funs;unfold maxLen at hl2;have hl3:=Wd.form h.mems;unfold maxLen at hl3;have hl4:=Wd.form h.globs;unfold maxLen at hl4;simp only[Mv.cells]at HL0 HL1 HL2 HL3 HL4 ⊢;obtain⟨n0,hn0⟩:∃ n,m.types.length=n:=⟨_,rfl⟩;have HN0:=hD hn0;obtain⟨n1,hn1⟩:∃ n,m.imps.length=n:=⟨_,rfl⟩;have HN1:=hD hn1;obtain⟨n2,hn2⟩:∃ n,m.funs.length=n:=⟨_,rfl⟩;have HN2:=hD hn2;obtain⟨n3,hn3⟩:∃ n,m.mems.length=n:=⟨_,rfl⟩;have HN3:=hD hn3;obtain⟨n4,hn4⟩:∃ n,m.globs.length=n:=⟨_,rfl⟩;have HN4:=hD hn4;obtain⟨n5,hn5⟩:∃ n,m.exps.length=n:=⟨_,rfl⟩;have HN5:=hD hn5;obtain⟨n6,hn6⟩:∃ n,m.datas.length=n:=⟨_,rfl⟩;have HN6:=hD hn6;obtain⟨n7,hn7⟩:∃ n,m.cus.length=n:=⟨_,rfl⟩;have HN7:=hD hn7;obtain⟨_,_,-,hlm0,hlc0⟩:=hl0;obtain⟨_,_,-,hlm1,hlc1⟩:=hl1;obtain⟨_,_,-,hlm2,hlc2⟩:=hl2;obtain⟨_,_,-,hlm3,hlc3⟩:=hl3;obtain⟨_,_,-,hlm4,hlc4⟩:=hl4;clear h;rw[hn0]at HL0 hlm0 ⊢;rw[hn1]at HL1 hlm1 ⊢;rw[hn2]at HL2 hlm2 ⊢;rw[hn3]at HL3 hlm3 ⊢;rw[hn4]at HL4 hlm4 ⊢;rw[hn5]at ⊢;rw[hn6]at ⊢;rw[hn7]at ⊢;clear hn0 hn1 hn2 hn3 hn4 hn5 hn6 hn7;have HF0:=hD (fun (h:m.types.all typB=false)=>(show UF m=false by unfold UF;rw[h];simp));have HF1:=hD (fun (h:m.imps.all impB=false)=>(show UF m=false by unfold UF;rw[h];simp));have HF2:=hD (fun (h:m.funs.all fncB=false)=>(show UF m=false by unfold UF;rw[h];simp));have HF3:=hD (fun (h:m.mems.all memB=false)=>(show UF m=false by unfold UF;rw[h];simp));have HF4:=hD (fun (h:m.globs.all Uj=false)=>(show UF m=false by unfold UF;rw[h];simp));have HG:=hD (fun (h0:m.types.all typB=true) (h1:m.imps.all impB=true) (h2:m.funs.all fncB=true) (h3:m.mems.all memB=true) (h4:m.globs.all Uj=true)=>(show UF m=true by unfold UF;rw[h0,h1,h2,h3,h4];rfl));generalize UF m=R at HF0 HF1 HF2 HF3 HF4 HG ⊢;have HB01:=hD ((bR w.heap.size w).alloc (nR _) (.cells #[.slice A0 n0 c0,.slice A1 n1 c1,.slice A2 n2 c2,.slice A3 n3 c3,.slice A4 n4 c4,.slice A5 n5 c5,.slice A6 n6 c6,.slice A7 n7 c7] 37));have HBX:=hD (fun wz hb=>UB w (.slice A0 n0 c0) (.slice A1 n1 c1) (.slice A2 n2 c2) (.slice A3 n3 c3) (.slice A4 n4 c4) (.slice A5 n5 c5) (.slice A6 n6 c6) (.slice A7 n7 c7) (wz:=wz) hb);go_enter Tryz.func74,Tryz.ntmps74;go_wp2_with fail
 generalize w.alloc (.cells #[.slice A0 n0 c0,.slice A1 n1 c1,.slice A2 n2 c2,.slice A3 n3 c3,.slice A4 n4 c4,.slice A5 n5 c5,.slice A6 n6 c6,.slice A7 n7 c7] 37)=w1 at HB01 HBX ⊢;obtain⟨b0,b1,b2,b3,b4,b5,b6,b7⟩:=HBX.out w1 (bR _ _);have HBS:Hid (Below w1.heap.size w1 w1):=hD (bR _ _);go_loopw [18] (fun i wr=>∃ k:Nat,k≤n0∧i=.int .i64 (k:Int)∧Hid (Below w1.heap.size w1 wr)∧Hid (W0 typB m.types ([],[]) k)) (fun i _=>n0 - (intOf i).toNat)
 case atStart=>exact⟨0,nZ _,rfl,HBS,hD (W0.zero _ _ _)⟩
 case round =>
  obtain⟨w0,rfl⟩:∃ w0,w0=wr:=⟨_,rfl⟩;obtain⟨k,hk,rfl,HB,HA⟩:=hrel;by_cases hlt:k<n0
  ·have hd:decide ((k:Int)<(n0:Int))=true:=by simp;omega
   obtain⟨g,o,c',he,_,_⟩:=Wd.some_ (HL0.out w0 (Wa HB01.out HB.out)) (by rw[HN0.out];omega);simp only[vI]at he;obtain⟨rfl,-,rfl⟩:=he;have hAT:=HL0.out w0 (Wa HB01.out HB.out);obtain⟨u0,k0,h0⟩:=Wd.at_ hAT k 0 (by rw[HN0.out];exact hlt) (by decide);obtain⟨u1,k1,h1⟩:=Wd.at_ hAT k 1 (by rw[HN0.out];exact hlt) (by decide);have HNO:=hD (fun (h:typB (m.types.getD k ([],[]))=false)=>HF0.out (VM (by rw[HN0.out];exact hlt) h));have HYE:=hD (fun (h:typB (m.types.getD k ([],[]))=true)=>HA.out.succ h);clear hAT;generalize m.types.getD k ([],[])=x at h0 h1 HNO HYE;obtain⟨x1,x2⟩:=x;have h0:Wf (fun g=>g<w0.heap.size) w0 u0 x1:=h0;have h1:Wf (fun g=>g<w0.heap.size) w0 u1 x2:=h1;obtain⟨P0,q0,rfl,_,_⟩:=h0.form;obtain⟨P1,q1,rfl,_,_⟩:=h1.form;generalize hm0:x1.length=m0 at *;generalize hm1:x2.length=m1 at *;clear hm0 hm1;rw[Nat.add_zero]at k0;rw[show typB ⟨x1,x2⟩=(Vs x1 8 && Vs x2 8) from rfl]at HNO HYE;have C0:=hD (fun wz (hb:Below w0.heap.size w0 wz)=>dkinds_any (fun g=>g<wz.heap.size) wz (fun _ hk=>hk) _ x1 (h0.keep (We.below hb fun _ hk=>hk) fun _ hk=>Ve hk hb.size) 8);generalize Vs x1 8=b0 at C0 HNO HYE;have C1:=hD (fun wz (hb:Below w0.heap.size w0 wz)=>dkinds_any (fun g=>g<wz.heap.size) wz (fun _ hk=>hk) _ x2 (h1.keep (We.below hb fun _ hk=>hk) fun _ hk=>Ve hk hb.size) 8);generalize Vs x2 8=b1 at C1 HNO HYE;have hnx:=Wb (bR w0.heap.size w0) (.cells #[.slice P0 m0 q0,.slice P1 m1 q1] 40);have HC:Hid (∀ wz,Below (w0.alloc (.cells #[.slice P0 m0 q0,.slice P1 m1 q1] 40)).heap.size (w0.alloc (.cells #[.slice P0 m0 q0,.slice P1 m1 q1] 40)) wz→wz.cell? ⟨w0.heap.size,0,none⟩=some (.slice P0 m0 q0)∧wz.cell? ⟨w0.heap.size,1,none⟩=some (.slice P1 m1 q1)):=hD fun wz hb=>by
    exact Zck
   clear h0 h1;cases b0 with
   | false =>
    have HF:=hD (HNO.out (by rfl));clear HNO HYE;go_wp2_with (first|(go_at_call 107;(with_reducible refine(C0.out _ hnx).mono ?_);rintro e w0' ⟨rfl,rfl⟩))
    exact ZI
   | true =>
    cases b1 with
    | false =>
     have HF:=hD (HNO.out (by rfl));clear HNO HYE;go_wp2_with (first|(go_at_call 107;(with_reducible refine(C0.out _ hnx).mono ?_);rintro e w0' ⟨rfl,rfl⟩)|(go_at_call 107;(with_reducible refine(C1.out _ hnx).mono ?_);rintro e w1' ⟨rfl,rfl⟩))
     exact ZI
    | true =>
     have HY:=hD (HYE.out rfl);clear HNO HYE;go_wp2_with (first|(go_at_call 107;(with_reducible refine(C0.out _ hnx).mono ?_);rintro e w0' ⟨rfl,rfl⟩)|(go_at_call 107;(with_reducible refine(C1.out _ hnx).mono ?_);rintro e w1' ⟨rfl,rfl⟩))
     exact ZK
  ·have hd:decide ((k:Int)<(n0:Int))=false:=by simp;omega
   have hkn:k=n0:=by omega
   have HD0:=hD (show m.types.all typB=true by have h:=HA.out;rw[hkn,← HN0.out]at h;exact h.done);obtain⟨b0,b1,b2,b3,b4,b5,b6,b7⟩:=HBX.out w0 HB.out;obtain⟨w0z,rfl⟩:∃ wz,wz=w0:=⟨_,rfl⟩;have HBS:=HB;clear HA HB hkn hk;go_wp2_with fail
   clear hlt hd;go_loopw [36] (fun i wr=>∃ k:Nat,k≤n1∧i=.int .i64 (k:Int)∧Hid (Below w1.heap.size w1 wr)∧Hid (W0 impB m.imps (ByteArray.empty,ByteArray.empty,0) k)) (fun i _=>n1 - (intOf i).toNat)
   case atStart=>exact⟨0,nZ _,rfl,HBS,hD (W0.zero _ _ _)⟩
   case round =>
    obtain⟨w0,rfl⟩:∃ w0,w0=wr:=⟨_,rfl⟩;obtain⟨k,hk,rfl,HB,HA⟩:=hrel;by_cases hlt:k<n1
    ·have hd:decide ((k:Int)<(n1:Int))=true:=by simp;omega
     obtain⟨g,o,c',he,_,_⟩:=Wd.some_ (HL1.out w0 (Wa HB01.out HB.out)) (by rw[HN1.out];omega);simp only[vI]at he;obtain⟨rfl,-,rfl⟩:=he;have hAT:=HL1.out w0 (Wa HB01.out HB.out);obtain⟨u0,k0,h0⟩:=Wd.at_ hAT k 0 (by rw[HN1.out];exact hlt) (by decide);obtain⟨u1,k1,h1⟩:=Wd.at_ hAT k 1 (by rw[HN1.out];exact hlt) (by decide);obtain⟨u2,k2,h2⟩:=Wd.at_ hAT k 2 (by rw[HN1.out];exact hlt) (by decide);have HNO:=hD (fun (h:impB (m.imps.getD k (ByteArray.empty,ByteArray.empty,0))=false)=>HF1.out (VM (by rw[HN1.out];exact hlt) h));have HYE:=hD (fun (h:impB (m.imps.getD k (ByteArray.empty,ByteArray.empty,0))=true)=>HA.out.succ h);clear hAT;generalize m.imps.getD k (ByteArray.empty,ByteArray.empty,0)=x at h0 h1 h2 HNO HYE;obtain⟨x1,x2,x3⟩:=x;obtain rfl:u0=.string x1:=h0;obtain rfl:u1=.string x2:=h1;obtain rfl:u2=.int .i64 x3:=h2;rw[Nat.add_zero]at k0;rw[show impB ⟨x1,x2,x3⟩=(strB x1 && strB x2 && idxB x3) from rfl]at HNO HYE;have C0:=hD (fun wz (hb:Below w0.heap.size w0 wz)=>dname_any x1 wz);generalize strB x1=b0 at C0 HNO HYE;have C1:=hD (fun wz (hb:Below w0.heap.size w0 wz)=>dname_any x2 wz);generalize strB x2=b1 at C1 HNO HYE;have C2:=hD (fun wz (hb:Below w0.heap.size w0 wz)=>(show Calls Tryz.prog 109 #[.int .i64 x3,.int .i64 2147483647] wz (PureB (idxB x3) wz) from din_any x3 2147483647 wz));generalize idxB x3=b2 at C2 HNO HYE;have hnx:=Wb (bR w0.heap.size w0) (.cells #[.string x1,.string x2,.int .i64 x3] 66);have HC:Hid (∀ wz,Below (w0.alloc (.cells #[.string x1,.string x2,.int .i64 x3] 66)).heap.size (w0.alloc (.cells #[.string x1,.string x2,.int .i64 x3] 66)) wz→wz.cell? ⟨w0.heap.size,0,none⟩=some (.string x1)∧wz.cell? ⟨w0.heap.size,1,none⟩=some (.string x2)∧wz.cell? ⟨w0.heap.size,2,none⟩=some (.int .i64 x3)):=hD fun wz hb=>by
      exact Zcg
     cases b0 with
     | false =>
      have HF:=hD (HNO.out (by rfl));clear HNO HYE;go_wp2_with (first|(go_at_call 108;(with_reducible refine(C0.out _ hnx).mono ?_);rintro e w0' ⟨rfl,hb0⟩;have hn0:=Wa hnx hb0;have hbb0:=hb0;obtain⟨j00,j01,j02⟩:=HC.out _ hbb0;clear hb0))
      go_ret;exact⟨WV (by rw[HF.out]),Wa HB01.out (Wa HB.out hn0)⟩
     | true =>
      cases b1 with
      | false =>
       have HF:=hD (HNO.out (by rfl));clear HNO HYE;go_wp2_with (first|(go_at_call 108;(with_reducible refine(C0.out _ hnx).mono ?_);rintro e w0' ⟨rfl,hb0⟩;have hn0:=Wa hnx hb0;have hbb0:=hb0;obtain⟨j00,j01,j02⟩:=HC.out _ hbb0;clear hb0)|(go_at_call 108;(with_reducible refine(C1.out _ hn0).mono ?_);rintro e w1' ⟨rfl,hb1⟩;have hn1:=Wa hn0 hb1;have hbb1:=(Wa hbb0 hb1);obtain⟨j10,j11,j12⟩:=HC.out _ hbb1;clear hb1))
       go_ret;exact⟨WV (by rw[HF.out]),Wa HB01.out (Wa HB.out hn1)⟩
      | true =>
       cases b2 with
       | false =>
        have HF:=hD (HNO.out (by rfl));clear HNO HYE;go_wp2_with (first|(go_at_call 108;(with_reducible refine(C0.out _ hnx).mono ?_);rintro e w0' ⟨rfl,hb0⟩;have hn0:=Wa hnx hb0;have hbb0:=hb0;obtain⟨j00,j01,j02⟩:=HC.out _ hbb0;clear hb0)|(go_at_call 108;(with_reducible refine(C1.out _ hn0).mono ?_);rintro e w1' ⟨rfl,hb1⟩;have hn1:=Wa hn0 hb1;have hbb1:=(Wa hbb0 hb1);obtain⟨j10,j11,j12⟩:=HC.out _ hbb1;clear hb1)|(go_at_call 109;(with_reducible refine(C2.out _ hn1).mono ?_);rintro e w2' ⟨rfl,rfl⟩))
        go_ret;exact⟨WV (by rw[HF.out]),Wa HB01.out (Wa HB.out hn1)⟩
       | true =>
        have HY:=hD (HYE.out rfl);clear HNO HYE;go_wp2_with (first|(go_at_call 108;(with_reducible refine(C0.out _ hnx).mono ?_);rintro e w0' ⟨rfl,hb0⟩;have hn0:=Wa hnx hb0;have hbb0:=hb0;obtain⟨j00,j01,j02⟩:=HC.out _ hbb0;clear hb0)|(go_at_call 108;(with_reducible refine(C1.out _ hn0).mono ?_);rintro e w1' ⟨rfl,hb1⟩;have hn1:=Wa hn0 hb1;have hbb1:=(Wa hbb0 hb1);obtain⟨j10,j11,j12⟩:=HC.out _ hbb1;clear hb1)|(go_at_call 109;(with_reducible refine(C2.out _ hn1).mono ?_);rintro e w2' ⟨rfl,rfl⟩))
        exact Zc4
    ·have hd:decide ((k:Int)<(n1:Int))=false:=by simp;omega
     have hkn:k=n1:=by omega
     have HD1:=hD (show m.imps.all impB=true by have h:=HA.out;rw[hkn,← HN1.out]at h;exact h.done);obtain⟨b0,b1,b2,b3,b4,b5,b6,b7⟩:=HBX.out w0 HB.out;obtain⟨w1z,rfl⟩:∃ wz,wz=w0:=⟨_,rfl⟩;have HBS:=HB;clear HA HB hkn hk;go_wp2_with fail
     clear hlt hd;go_loopw [60] (fun i wr=>∃ k:Nat,k≤n2∧i=.int .i64 (k:Int)∧Hid (Below w1.heap.size w1 wr)∧Hid (W0 fncB m.funs WW k)) (fun i _=>n2 - (intOf i).toNat)
     case atStart=>exact⟨0,nZ _,rfl,HBS,hD (W0.zero _ _ _)⟩
     case round =>
      obtain⟨w0,rfl⟩:∃ w0,w0=wr:=⟨_,rfl⟩;obtain⟨k,hk,rfl,HB,HA⟩:=hrel;by_cases hlt:k<n2
      ·have hd:decide ((k:Int)<(n2:Int))=true:=by simp;omega
       obtain⟨g,o,c',he,_,_⟩:=Wd.some_ (HL2.out w0 (Wa HB01.out HB.out)) (by rw[HN2.out];omega);simp only[vI]at he;obtain⟨rfl,-,rfl⟩:=he;have hAT:=HL2.out w0 (Wa HB01.out HB.out);obtain⟨u0,k0,h0⟩:=Wd.at_ hAT k 0 (by rw[HN2.out];exact hlt) (by decide);obtain⟨u1,k1,h1⟩:=Wd.at_ hAT k 1 (by rw[HN2.out];exact hlt) (by decide);obtain⟨u2,k2,h2⟩:=Wd.at_ hAT k 2 (by rw[HN2.out];exact hlt) (by decide);have HTN:=hD (HTY.out _ (WA m.funs k WW (by rw[HN2.out];exact hlt)));have HNO:=hD (fun (h:fncB (m.funs.getD k WW)=false)=>HF2.out (VM (by rw[HN2.out];exact hlt) h));have HYE:=hD (fun (h:fncB (m.funs.getD k WW)=true)=>HA.out.succ h);clear hAT;generalize m.funs.getD k WW=x at h0 h1 h2 HNO HYE HTN;obtain⟨x1,x2,x3⟩:=x;simp only at HTN;obtain rfl:u0=.int .i64 x1:=h0;have h1:Wf (fun g=>g<w0.heap.size) w0 u1 x2:=h1;have h2:Uc (fun g=>g<w0.heap.size) w0 u2 x3:=h2;obtain⟨P1,q1,rfl,_,_⟩:=h1.form;obtain⟨P2,q2,rfl,hq2,hq3⟩:=Wd.form h2;unfold maxLen at hq3;obtain⟨m1,hm1⟩:∃ m,x2.length=m:=⟨_,rfl⟩;rw[hm1]at k1 h1;clear hm1;obtain⟨m2,hm2⟩:∃ m,x3.length=m:=⟨_,rfl⟩;rw[hm2]at k2 h2 hq2;have HM2:=hD hm2;have HCK:=hD (fun wz (hb:Below w0.heap.size w0 wz)=>(Uc.keep (K':=fun g=>g<wz.heap.size) h2 (We.below hb fun _ hk=>hk) fun _ hk=>Ve hk hb.size));rw[Nat.add_zero]at k0;rw[show fncB ⟨x1,x2,x3⟩=(idxB x1 && Vs x2 256 && (decide (x3.length≤65536) && x3.all WX)) from rfl]at HNO HYE;rw[hm2]at HNO HYE;clear hm2;have C0:=hD (fun wz (hb:Below w0.heap.size w0 wz)=>(show Calls Tryz.prog 109 #[.int .i64 x1,.int .i64 2147483647] wz (PureB (idxB x1) wz) from din_any x1 2147483647 wz));generalize idxB x1=b0 at C0 HNO HYE;have C1:=hD (fun wz (hb:Below w0.heap.size w0 wz)=>dkinds_any (fun g=>g<wz.heap.size) wz (fun _ hk=>hk) _ x2 (h1.keep (We.below hb fun _ hk=>hk) fun _ hk=>Ve hk hb.size) 256);generalize Vs x2 256=b1 at C1 HNO HYE;generalize hb2:(decide (m2≤65536))=b2 at HNO HYE;have hnx:=Wb (bR w0.heap.size w0) (.cells #[.int .i64 x1,.slice P1 m1 q1,.slice P2 m2 q2] 68);have HC:Hid (∀ wz,Below (w0.alloc (.cells #[.int .i64 x1,.slice P1 m1 q1,.slice P2 m2 q2] 68)).heap.size (w0.alloc (.cells #[.int .i64 x1,.slice P1 m1 q1,.slice P2 m2 q2] 68)) wz→wz.cell? ⟨w0.heap.size,0,none⟩=some (.int .i64 x1)∧wz.cell? ⟨w0.heap.size,1,none⟩=some (.slice P1 m1 q1)∧wz.cell? ⟨w0.heap.size,2,none⟩=some (.slice P2 m2 q2)):=hD fun wz hb=>by
        exact Zca
       clear h1 h2;cases b0 with
       | false =>
        exact ZcG
       | true =>
        cases b1 with
        | false =>
         have HF:=hD (HNO.out (by rfl));clear HNO HYE;exact Zcm
        | true =>
         cases b2 with
         | false =>
          have HF:=hD (HNO.out (by rfl));clear HNO HYE;have e2:=of_decide_eq_false hb2;clear hb2;have d2:decide ((65536:Int)<(m2:Int))=true:=by simp;omega
          clear e2;exact Zcm
         | true =>
          have e2:=of_decide_eq_true hb2;clear hb2;have d2:decide ((65536:Int)<(m2:Int))=false:=by simp;omega
          clear e2;simp only[Bool.true_and]at HNO HYE;go_wp2_with (first|(go_at_call 109;(with_reducible refine(C0.out _ hnx).mono ?_);rintro e w0' ⟨rfl,rfl⟩)|(go_at_call 107;(with_reducible refine(C1.out _ hnx).mono ?_);rintro e w1' ⟨rfl,rfl⟩))
          have HNX:=hD hnx;clear hnx HC C0 C1 k0 k1 k2;generalize w0.alloc (.cells #[.int .i64 x1,.slice P1 m1 q1,.slice P2 m2 q2] 68)=wE at *;go_loopw [83] (fun i wr=>∃ j:Nat,j≤m2∧i=.int .i64 (j:Int)∧Hid (Below wE.heap.size wE wr)∧Hid (W0 WX x3 Un j)) (fun i _=>m2 - (intOf i).toNat)
          case atStart=>exact⟨0,nZ _,rfl,hD (bR _ _),hD (W0.zero _ _ _)⟩
          case round =>
           obtain⟨w3,rfl⟩:∃ w3,w3=wr:=⟨_,rfl⟩;obtain⟨j,hj,rfl,HB3,HA3⟩:=hrel;by_cases hlj:j<m2
           ·have hd3:decide ((j:Int)<(m2:Int))=true:=by simp;omega
            obtain⟨g3,o3,c3',he3,_,_⟩:=Wd.some_ (HCK.out w3 (Wa HNX.out HB3.out)) (by rw[HM2.out];omega);simp only[vI]at he3;obtain⟨rfl,-,rfl⟩:=he3;have hAT:=HCK.out w3 (Wa HNX.out HB3.out);obtain⟨v0,z0,f0⟩:=Wd.at_ hAT j 0 (by rw[HM2.out];exact hlj) (by decide);obtain⟨v1,z1,f1⟩:=Wd.at_ hAT j 1 (by rw[HM2.out];exact hlj) (by decide);obtain⟨v2,z2,f2⟩:=Wd.at_ hAT j 2 (by rw[HM2.out];exact hlj) (by decide);obtain⟨v3,z3,f3⟩:=Wd.at_ hAT j 3 (by rw[HM2.out];exact hlj) (by decide);obtain⟨v4,z4,f4⟩:=Wd.at_ hAT j 4 (by rw[HM2.out];exact hlj) (by decide);have HTJ:=hD (HTN.out _ (WA x3 j Un (by rw[HM2.out];exact hlj)));have HNO3:=hD (fun (h:WX (x3.getD j Un)=false)=>HNO.out (VM (by rw[HM2.out];exact hlj) h));have HYE3:=hD (fun (h:WX (x3.getD j Un)=true)=>HA3.out.succ h);clear hAT;generalize x3.getD j Un=y at f0 f1 f2 f3 f4 HTJ HNO3 HYE3;obtain⟨y1,y2,y3,y4,y5⟩:=y;obtain rfl:v0=.int .i64 y1:=f0;obtain rfl:v1=.int .i64 y2:=f1;obtain rfl:v2=.int .i64 y3:=f2;obtain rfl:v3=.int .u64 y4:=f3.1;have f4:Wf (fun g=>g<w3.heap.size) w3 v4 y5:=f4.1;obtain⟨P4,q4,rfl,_,_⟩:=f4.form;have CI:=hD (fun wz (hb:Below w3.heap.size w3 wz)=>dinst_any wz ⟨y1,y2,y3,y4,y5⟩ _ (f4.keep (We.below hb fun _ hk=>hk) fun _ hk=>Ve hk hb.size) HTJ.out);simp only at CI;generalize hm4:y5.length=m4 at *;clear hm4;generalize WX ⟨y1,y2,y3,y4,y5⟩=bI at CI HNO3 HYE3;rw[Nat.add_zero]at z0;have hn3:=Wb (bR w3.heap.size w3) (.cells #[.int .i64 y1,.int .i64 y2,.int .i64 y3,.int .u64 y4,.slice P4 m4 q4] 25);clear f4;cases bI with
            | false =>
             have HF:=hD (HNO3.out rfl);clear HNO3 HYE3 HNO HYE;go_wp2_with (go_at_call 110;(with_reducible refine(CI.out _ hn3).mono ?_);rintro e wI ⟨rfl,hbI⟩)
             go_ret;exact⟨WV (by rw[HF.out]),Wa HB01.out (Wa HB.out (Wa HNX.out (Wa HB3.out (Wa hn3 hbI))))⟩
            | true =>
             have HY3:=hD (HYE3.out rfl);clear HNO3 HYE3;go_wp2_with (go_at_call 110;(with_reducible refine(CI.out _ hn3).mono ?_);rintro e wI ⟨rfl,hbI⟩)
             go_roundw
             case rel=>exact⟨j+1,by omega,by go_num,hD (Wa HB3.out (Wa hn3 hbI)),HY3⟩
             case measure=>simp[intOf];omega
           ·have hd3:decide ((j:Int)<(m2:Int))=false:=by simp;omega
            have hjn:j=m2:=by omega
            have HY:=hD (HYE.out (by have h:=HA3.out;rw[hjn,← HM2.out]at h;exact h.done));clear HNO HYE;go_wp2;go_roundw
            case rel=>exact⟨k+1,by omega,by go_num,hD (Wa HB.out (Wa HNX.out HB3.out)),HY⟩
            case measure=>simp[intOf];omega
      ·have hd:decide ((k:Int)<(n2:Int))=false:=by simp;omega
       have hkn:k=n2:=by omega
       have HD2:=hD (show m.funs.all fncB=true by have h:=HA.out;rw[hkn,← HN2.out]at h;exact h.done);obtain⟨b0,b1,b2,b3,b4,b5,b6,b7⟩:=HBX.out w0 HB.out;obtain⟨w2z,rfl⟩:∃ wz,wz=w0:=⟨_,rfl⟩;have HBS:=HB;clear HA HB hkn hk;go_wp2_with fail
       clear hlt hd;go_loopw [95] (fun i wr=>∃ k:Nat,k≤n3∧i=.int .i64 (k:Int)∧Hid (Below w1.heap.size w1 wr)∧Hid (W0 memB m.mems (0,0) k)) (fun i _=>n3 - (intOf i).toNat)
       case atStart=>exact⟨0,nZ _,rfl,HBS,hD (W0.zero _ _ _)⟩
       case round =>
        obtain⟨w0,rfl⟩:∃ w0,w0=wr:=⟨_,rfl⟩;obtain⟨k,hk,rfl,HB,HA⟩:=hrel;by_cases hlt:k<n3
        ·have hd:decide ((k:Int)<(n3:Int))=true:=by simp;omega
         obtain⟨g,o,c',he,_,_⟩:=Wd.some_ (HL3.out w0 (Wa HB01.out HB.out)) (by rw[HN3.out];omega);simp only[vI]at he;obtain⟨rfl,-,rfl⟩:=he;have hAT:=HL3.out w0 (Wa HB01.out HB.out);obtain⟨u0,k0,h0⟩:=Wd.at_ hAT k 0 (by rw[HN3.out];exact hlt) (by decide);obtain⟨u1,k1,h1⟩:=Wd.at_ hAT k 1 (by rw[HN3.out];exact hlt) (by decide);have HNO:=hD (fun (h:memB (m.mems.getD k (0,0))=false)=>HF3.out (VM (by rw[HN3.out];exact hlt) h));have HYE:=hD (fun (h:memB (m.mems.getD k (0,0))=true)=>HA.out.succ h);clear hAT;generalize m.mems.getD k (0,0)=x at h0 h1 HNO HYE;obtain⟨x1,x2⟩:=x;obtain rfl:u0=.int .i64 x1:=h0;obtain rfl:u1=.int .i64 x2:=h1;rw[Nat.add_zero]at k0;rw[show memB ⟨x1,x2⟩=(decide (0≤x1) && decide (x1≤x2) && decide (x2≤512)) from rfl]at HNO HYE;generalize hb0:(decide (0≤x1))=b0 at HNO HYE;generalize hb1:(decide (x1≤x2))=b1 at HNO HYE;generalize hb2:(decide (x2≤512))=b2 at HNO HYE;have hnx:=Wb (bR w0.heap.size w0) (.cells #[.int .i64 x1,.int .i64 x2] 58);have HC:Hid (∀ wz,Below (w0.alloc (.cells #[.int .i64 x1,.int .i64 x2] 58)).heap.size (w0.alloc (.cells #[.int .i64 x1,.int .i64 x2] 58)) wz→wz.cell? ⟨w0.heap.size,0,none⟩=some (.int .i64 x1)∧wz.cell? ⟨w0.heap.size,1,none⟩=some (.int .i64 x2)):=hD fun wz hb=>by
          exact Zcr
         cases b0 with
         | false =>
          have HF:=hD (HNO.out (by rfl));clear HNO HYE;have e0:=of_decide_eq_false hb0;clear hb0;have d0:decide (x1<0)=true:=by simp;omega
          clear e0;go_wp2;exact ZI
         | true =>
          have e0:=of_decide_eq_true hb0;clear hb0;have d0:decide (x1<0)=false:=by simp;omega
          clear e0;cases b1 with
          | false =>
           have HF:=hD (HNO.out (by rfl));clear HNO HYE;have e1:=of_decide_eq_false hb1;clear hb1;have d1:decide (x2<x1)=true:=by simp;omega
           clear e1;go_wp2;exact ZI
          | true =>
           have e1:=of_decide_eq_true hb1;clear hb1;have d1:decide (x2<x1)=false:=by simp;omega
           clear e1;cases b2 with
           | false =>
            have HF:=hD (HNO.out (by rfl));clear HNO HYE;have e2:=of_decide_eq_false hb2;clear hb2;have d2:decide (512<x2)=true:=by simp;omega
            clear e2;go_wp2;exact ZI
           | true =>
            exact ZcL
        ·have hd:decide ((k:Int)<(n3:Int))=false:=by simp;omega
         have hkn:k=n3:=by omega
         have HD3:=hD (show m.mems.all memB=true by have h:=HA.out;rw[hkn,← HN3.out]at h;exact h.done);obtain⟨b0,b1,b2,b3,b4,b5,b6,b7⟩:=HBX.out w0 HB.out;obtain⟨w3z,rfl⟩:∃ wz,wz=w0:=⟨_,rfl⟩;have HBS:=HB;clear HA HB hkn hk;go_wp2_with fail
         clear hlt hd;go_loopw [118] (fun i wr=>∃ k:Nat,k≤n4∧i=.int .i64 (k:Int)∧Hid (Below w1.heap.size w1 wr)∧Hid (W0 Uj m.globs (0,false,0) k)) (fun i _=>n4 - (intOf i).toNat)
         case atStart=>exact⟨0,nZ _,rfl,HBS,hD (W0.zero _ _ _)⟩
         case round =>
          obtain⟨w0,rfl⟩:∃ w0,w0=wr:=⟨_,rfl⟩;obtain⟨k,hk,rfl,HB,HA⟩:=hrel;by_cases hlt:k<n4
          ·have hd:decide ((k:Int)<(n4:Int))=true:=by simp;omega
           obtain⟨g,o,c',he,_,_⟩:=Wd.some_ (HL4.out w0 (Wa HB01.out HB.out)) (by rw[HN4.out];omega);simp only[vI]at he;obtain⟨rfl,-,rfl⟩:=he;have hAT:=HL4.out w0 (Wa HB01.out HB.out);obtain⟨u0,k0,h0⟩:=Wd.at_ hAT k 0 (by rw[HN4.out];exact hlt) (by decide);obtain⟨u1,k1,h1⟩:=Wd.at_ hAT k 1 (by rw[HN4.out];exact hlt) (by decide);obtain⟨u2,k2,h2⟩:=Wd.at_ hAT k 2 (by rw[HN4.out];exact hlt) (by decide);have HNO:=hD (fun (h:Uj (m.globs.getD k (0,false,0))=false)=>HF4.out (VM (by rw[HN4.out];exact hlt) h));have HYE:=hD (fun (h:Uj (m.globs.getD k (0,false,0))=true)=>HA.out.succ h);clear hAT;generalize m.globs.getD k (0,false,0)=x at h0 h1 h2 HNO HYE;obtain⟨x1,x2,x3⟩:=x;obtain rfl:u0=.int .i64 x1:=h0;obtain rfl:u1=.bool x2:=h1;obtain rfl:u2=.int .u64 x3:=h2.1;rw[Nat.add_zero]at k0;by_cases hq:x1=127
           ·skip
            subst hq;rw[show Uj ⟨127,x2,x3⟩=(VF 127 && decide (x3≤4294967295)) from glob_127 x2 x3]at HNO HYE;have C0:=hD (fun wz (hb:Below w0.heap.size w0 wz)=>dkind_any 127 wz);generalize VF 127=b0 at C0 HNO HYE;generalize hb1:(decide (x3≤4294967295))=b1 at HNO HYE;have hnx:=Wb (bR w0.heap.size w0) (.cells #[.int .i64 127,.bool x2,.int .u64 x3] 70);have HC:Hid (∀ wz,Below (w0.alloc (.cells #[.int .i64 127,.bool x2,.int .u64 x3] 70)).heap.size (w0.alloc (.cells #[.int .i64 127,.bool x2,.int .u64 x3] 70)) wz→wz.cell? ⟨w0.heap.size,0,none⟩=some (.int .i64 127)∧wz.cell? ⟨w0.heap.size,1,none⟩=some (.bool x2)∧wz.cell? ⟨w0.heap.size,2,none⟩=some (.int .u64 x3)):=hD fun wz hb=>by
             exact Zcf
            cases b0 with
            | false =>
             have HF:=hD (HNO.out (by rfl));clear HNO HYE;exact Zcb
            | true =>
             cases b1 with
             | false =>
              have HF:=hD (HNO.out (by rfl));clear HNO HYE;have e1:=of_decide_eq_false hb1;clear hb1;have d1:decide (4294967296≤x3)=true:=by simp;omega
              clear e1;exact Zcb
             | true =>
              have e1:=of_decide_eq_true hb1;clear hb1;have d1:decide (4294967296≤x3)=false:=by simp;omega
              clear e1;exact ZcI
           ·skip
            have dq:(x1==127)=false:=by simpa using hq
            rw[show Uj ⟨x1,x2,x3⟩=(VF x1) from by simp[Uj,hq]]at HNO HYE;clear hq;have C0:=hD (fun wz (hb:Below w0.heap.size w0 wz)=>dkind_any x1 wz);generalize VF x1=b0 at C0 HNO HYE;have hnx:=Wb (bR w0.heap.size w0) (.cells #[.int .i64 x1,.bool x2,.int .u64 x3] 70);have HC:Hid (∀ wz,Below (w0.alloc (.cells #[.int .i64 x1,.bool x2,.int .u64 x3] 70)).heap.size (w0.alloc (.cells #[.int .i64 x1,.bool x2,.int .u64 x3] 70)) wz→wz.cell? ⟨w0.heap.size,0,none⟩=some (.int .i64 x1)∧wz.cell? ⟨w0.heap.size,1,none⟩=some (.bool x2)∧wz.cell? ⟨w0.heap.size,2,none⟩=some (.int .u64 x3)):=hD fun wz hb=>by
             exact Zch
            cases b0 with
            | false =>
             have HF:=hD (HNO.out (by rfl));clear HNO HYE;exact Zcb
            | true =>
             exact ZcI
          ·have hd:decide ((k:Int)<(n4:Int))=false:=by simp;omega
           have hkn:k=n4:=by omega
           have HD4:=hD (show m.globs.all Uj=true by have h:=HA.out;rw[hkn,← HN4.out]at h;exact h.done);obtain⟨b0,b1,b2,b3,b4,b5,b6,b7⟩:=HBX.out w0 HB.out;obtain⟨w4z,rfl⟩:∃ wz,wz=w0:=⟨_,rfl⟩;have HBS:=HB;clear HA HB hkn hk;have HF:=hD (HG.out HD0.out HD1.out HD2.out HD3.out HD4.out);go_wp2;go_ret;exact⟨WV (by rw[HF.out]),Wa HB01.out HBS.out⟩
end Go.Proofs.YtmfpnfdinoofpaaGreatDoor
