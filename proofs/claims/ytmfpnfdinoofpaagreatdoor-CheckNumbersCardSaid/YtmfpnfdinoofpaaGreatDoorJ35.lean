/- A part of the proof. -/
import Derived.Test.YtmfpnfdinoofpaaGreatDoorJ30
namespace Go.Proofs.YtmfpnfdinoofpaaGreatDoor
open Go.RowKit
set_option maxHeartbeats 20000000
set_option maxRecDepth 100000
theorem ZZ {P:Prop}(h:P:=by
 go_wp2_with (first|(go_at_call 108;(with_reducible refine(C0.out _ hnx).mono ?_);rintro e w0' ⟨rfl,hb0⟩;have hn0:=Wa hnx hb0;have hbb0:=hb0;obtain⟨j00,j01,j02⟩:=HC.out _ hbb0;clear hb0)|(go_at_call 109;(with_reducible refine(C1.out _ hn0).mono ?_);rintro e w1' ⟨rfl,rfl⟩))
 go_ret;exact⟨WV (by rw[HF.out]),Wa HB01.out (Wa HB.out hn0)⟩):P:=h
theorem Zbk {P:Prop}(h:P:=by
 clear HR2 HR3;go_wp2_with (first|(go_at_call 74;(with_reducible refine(HP.out _ HB01.out).mono ?_);rintro e wa ⟨rfl,hba⟩;have HBA:=hD hba;obtain⟨a0,a1,a2,a3,a4,a5,a6,a7⟩:=HBX.out wa hba;clear hba)|(go_at_call 75;(with_reducible refine(HS.out _ (Wa HB01.out HBA.out)).mono ?_);rintro e wb ⟨rfl,hbb⟩;have HBB:=hD hbb;clear hbb))
 go_ret;exact⟨Vd (by rw[HF.out]),Wa HB01.out (Wa HBA.out HBB.out)⟩):P:=h
theorem ZbG {P:Prop}(h:P:=by
 go_wp2;go_ret;exact⟨Vd (by rw[HF.out]),HB01.out⟩):P:=h
theorem ZbI {P:Prop}(h:P:=by
 go_wp2_with (first|(go_at_call 108;(with_reducible refine(C0.out _ hnx).mono ?_);rintro e w0' ⟨rfl,hb0⟩;have hn0:=Wa hnx hb0;have hbb0:=hb0;obtain⟨j00,j01⟩:=HC.out _ hbb0;clear hb0))
 go_ret;exact⟨WV (by rw[HF.out]),Wa HB01.out (Wa HB.out hn0)⟩):P:=h
theorem Zcn {P:Prop}(h:P:=by
 go_wp2_with (first|(go_at_call 109;(with_reducible refine(C0.out _ hnx).mono ?_);rintro e w0' ⟨rfl,rfl⟩)|(go_at_call 109;(with_reducible refine(C1.out _ hnx).mono ?_);rintro e w1' ⟨rfl,rfl⟩))
 exact ZI):P:=h
def restA (m:Vt):Bool:=exsB m.exps && m.datas.all datB && m.cus.all cusB
theorem drest_any (w:World) (v:Mv) (m:Vt) (h:W7 (fun k=>k<w.heap.size) w v m):Calls Tryz.prog 75 #[.agg v.cells] w (Wh (restA m) w):=by
 obtain⟨A0,c0,A1,c1,A2,c2,A3,c3,A4,c4,A5,c5,A6,c6,A7,c7,rfl⟩:=Wr h;have HL5:=hD (fun wz (hb:Below w.heap.size w wz)=>(h.keep (K':=fun k=>k<wz.heap.size) (We.below hb fun _ hk=>hk) fun _ hk=>Ve hk hb.size).exps);have HL6:=hD (fun wz (hb:Below w.heap.size w wz)=>(h.keep (K':=fun k=>k<wz.heap.size) (We.below hb fun _ hk=>hk) fun _ hk=>Ve hk hb.size).datas);have HL7:=hD (fun wz (hb:Below w.heap.size w wz)=>(h.keep (K':=fun k=>k<wz.heap.size) (We.below hb fun _ hk=>hk) fun _ hk=>Ve hk hb.size).cus);have hl5:=Wd.form h.exps;unfold maxLen at hl5;have hl6:=Wd.form h.datas;unfold maxLen at hl6;have hl7:=Wd.form h.cus;unfold maxLen at hl7;simp only[Mv.cells]at HL5 HL6 HL7 ⊢;obtain⟨n0,hn0⟩:∃ n,m.types.length=n:=⟨_,rfl⟩;have HN0:=hD hn0;obtain⟨n1,hn1⟩:∃ n,m.imps.length=n:=⟨_,rfl⟩;have HN1:=hD hn1;obtain⟨n2,hn2⟩:∃ n,m.funs.length=n:=⟨_,rfl⟩;have HN2:=hD hn2;obtain⟨n3,hn3⟩:∃ n,m.mems.length=n:=⟨_,rfl⟩;have HN3:=hD hn3;obtain⟨n4,hn4⟩:∃ n,m.globs.length=n:=⟨_,rfl⟩;have HN4:=hD hn4;obtain⟨n5,hn5⟩:∃ n,m.exps.length=n:=⟨_,rfl⟩;have HN5:=hD hn5;obtain⟨n6,hn6⟩:∃ n,m.datas.length=n:=⟨_,rfl⟩;have HN6:=hD hn6;obtain⟨n7,hn7⟩:∃ n,m.cus.length=n:=⟨_,rfl⟩;have HN7:=hD hn7;obtain⟨_,_,-,hlm5,hlc5⟩:=hl5;obtain⟨_,_,-,hlm6,hlc6⟩:=hl6;obtain⟨_,_,-,hlm7,hlc7⟩:=hl7;clear h;rw[hn0]at ⊢;rw[hn1]at ⊢;rw[hn2]at ⊢;rw[hn3]at ⊢;rw[hn4]at ⊢;rw[hn5]at HL5 hlm5 ⊢;rw[hn6]at HL6 hlm6 ⊢;rw[hn7]at HL7 hlm7 ⊢;clear hn0 hn1 hn2 hn3 hn4 hn5 hn6 hn7;have HF5:=hD (fun (h:exsB m.exps=false)=>(show restA m=false by unfold restA;rw[h];rfl));have HF6:=hD (fun (h:m.datas.all datB=false)=>(show restA m=false by unfold restA;rw[h];simp));have HF7:=hD (fun (h:m.cus.all cusB=false)=>(show restA m=false by unfold restA;rw[h];simp));have HG:=hD (fun (h5:exsB m.exps=true) (h6:m.datas.all datB=true) (h7:m.cus.all cusB=true)=>(show restA m=true by unfold restA;rw[h5,h6,h7];rfl));generalize restA m=R at HF5 HF6 HF7 HG ⊢;have HB01:=hD ((bR w.heap.size w).alloc (nR _) (.cells #[.slice A0 n0 c0,.slice A1 n1 c1,.slice A2 n2 c2,.slice A3 n3 c3,.slice A4 n4 c4,.slice A5 n5 c5,.slice A6 n6 c6,.slice A7 n7 c7] 37));have HBX:=hD (fun wz hb=>UB w (.slice A0 n0 c0) (.slice A1 n1 c1) (.slice A2 n2 c2) (.slice A3 n3 c3) (.slice A4 n4 c4) (.slice A5 n5 c5) (.slice A6 n6 c6) (.slice A7 n7 c7) (wz:=wz) hb);go_enter Tryz.func75,Tryz.ntmps75;go_wp2_with fail
 generalize w.alloc (.cells #[.slice A0 n0 c0,.slice A1 n1 c1,.slice A2 n2 c2,.slice A3 n3 c3,.slice A4 n4 c4,.slice A5 n5 c5,.slice A6 n6 c6,.slice A7 n7 c7] 37)=w1 at HB01 HBX ⊢;obtain⟨b0,b1,b2,b3,b4,b5,b6,b7⟩:=HBX.out w1 (bR _ _);have HBS:Hid (Below w1.heap.size w1 w1):=hD (bR _ _);go_loopw [13] (fun i wr=>∃ k:Nat,k≤n5∧i=.int .i64 (k:Int)∧Hid (Below w1.heap.size w1 wr)∧Hid (∀ j,j<k→exAtB m.exps j=true)) (fun i _=>n5 - (intOf i).toNat)
 case atStart=>exact⟨0,nZ _,rfl,HBS,hD fun _ h=>absurd h (Nat.not_lt_zero _)⟩
 case round =>
  obtain⟨w0,rfl⟩:∃ w0,w0=wr:=⟨_,rfl⟩;obtain⟨k,hk,rfl,HB,HA⟩:=hrel;by_cases hlt:k<n5
  ·have hd:decide ((k:Int)<(n5:Int))=true:=by simp;omega
   obtain⟨g,o,c',he,_,_⟩:=Wd.some_ (HL5.out w0 (Wa HB01.out HB.out)) (by rw[HN5.out];omega);simp only[vI]at he;obtain⟨rfl,-,rfl⟩:=he;have HAC:=hD (fun (wz:World) (hb:Below w.heap.size w wz) (j:Nat) (hj:j<n5)=>(show ∃ y:ByteArray×Int×Int,m.exps.getD j exD=y∧wz.cell? ⟨g,o+j * 3,none⟩=some (.string y.1)∧wz.cell? ⟨g,o+j * 3+1,none⟩=some (.int .i64 y.2.1)∧wz.cell? ⟨g,o+j * 3+2,none⟩=some (.int .i64 y.2.2) from by
    have hAT:=HL5.out wz hb;obtain⟨u0,k0,h0⟩:=Wd.at_ hAT j 0 (by rw[HN5.out];exact hj) (by decide);obtain⟨u1,k1,h1⟩:=Wd.at_ hAT j 1 (by rw[HN5.out];exact hj) (by decide);obtain⟨u2,k2,h2⟩:=Wd.at_ hAT j 2 (by rw[HN5.out];exact hj) (by decide);obtain rfl:u0=.string (m.exps.getD j exD).1:=h0;obtain rfl:u1=.int .i64 (m.exps.getD j exD).2.1:=h1;obtain rfl:u2=.int .i64 (m.exps.getD j exD).2.2:=h2;exact⟨_,rfl,k0,k1,k2⟩))
   obtain⟨x,hx,k0,k1,k2⟩:=HAC.out w0 (Wa HB01.out HB.out) k hlt;have HNO:=hD (fun (h:exOneB x=false)=>HF5.out (exs_no HN5.out hlt (exAt_one (by rw[hx];exact h))));have HOL:=hD (fun (j:Nat) (hj:j<k) (y:ByteArray×Int×Int) (hy:m.exps.getD j exD=y) (h:VR y.1=VR x.1)=>HF5.out (exs_no HN5.out hlt (exAt_old hj (by rw[hy,hx];exact h))));have HYE:=hD (fun (h:exOneB x=true) (hn:∀ j,j<k→VR (m.exps.getD j exD).1≠VR x.1) (i:Nat) (hi:i<k+1)=>(show exAtB m.exps i=true from by
    rcases Nat.lt_or_ge i k with h1|h1
    ·exact HA.out i h1
    ·rw[show i=k by omega];exact exAt_new (by rw[hx];exact h) (by rw[hx];exact hn)))
   clear hx HA;obtain⟨x1,x2,x3⟩:=x;simp only at k0 k1 k2 HOL HYE;rw[show exOneB ⟨x1,x2,x3⟩=(strB x1 && idxB x3 && exKindB x2) from rfl]at HNO HYE;have C0:=hD (fun wz (hb:Below w0.heap.size w0 wz)=>dname_any x1 wz);generalize strB x1=b0 at C0 HNO HYE;have C1:=hD (fun wz (hb:Below w0.heap.size w0 wz)=>(show Calls Tryz.prog 109 #[.int .i64 x3,.int .i64 2147483647] wz (PureB (idxB x3) wz) from din_any x3 2147483647 wz));generalize idxB x3=b1 at C1 HNO HYE;have hnx:=Wb (bR w0.heap.size w0) (.cells #[.string x1,.int .i64 x2,.int .i64 x3] 102);have HC:Hid (∀ wz,Below (w0.alloc (.cells #[.string x1,.int .i64 x2,.int .i64 x3] 102)).heap.size (w0.alloc (.cells #[.string x1,.int .i64 x2,.int .i64 x3] 102)) wz→wz.cell? ⟨w0.heap.size,0,none⟩=some (.string x1)∧wz.cell? ⟨w0.heap.size,1,none⟩=some (.int .i64 x2)∧wz.cell? ⟨w0.heap.size,2,none⟩=some (.int .i64 x3)):=hD fun wz hb=>by
    exact Zcd
   rw[Nat.add_zero]at *;cases b0 with
   | false =>
    have HF:=hD (HNO.out (by rfl));clear HNO HYE HOL HAC;exact ZZ
   | true =>
    cases b1 with
    | false =>
     have HF:=hD (HNO.out (by rfl));clear HNO HYE HOL HAC;exact ZZ
    | true =>
     by_cases hkd:x2=0∨x2=2∨x2=3
     rotate_left
     ·have HF:=hD (HNO.out (by rw[show exKindB x2=false from decide_eq_false hkd];rfl));have d20:(x2==0)=false:=by simp;omega
      have d22:(x2==2)=false:=by simp;omega
      have d23:(x2==3)=false:=by simp;omega
      have e20:(x2 != 0)=true:=by simp;omega
      have e22:(x2 != 2)=true:=by simp;omega
      have e23:(x2 != 3)=true:=by simp;omega
      clear HNO HYE HOL HAC hkd;exact ZZ
     ·have HY:=hD (HYE.out (by rw[show exKindB x2=true from decide_eq_true hkd];rfl));clear HNO HYE;rcases hkd with rfl|rfl|rfl
      all_goals
       go_upto_region 6 with (first|(go_at_call 108;(with_reducible refine(C0.out _ hnx).mono ?_);rintro e w0' ⟨rfl,hb0⟩;have hn0:=Wa hnx hb0;have hbb0:=hb0;obtain⟨j00,j01,j02⟩:=HC.out _ hbb0;clear hb0)|(go_at_call 109;(with_reducible refine(C1.out _ hn0).mono ?_);rintro e w1' ⟨rfl,rfl⟩))
       have HB2:=hD (Wa HB.out hn0);have HX1:=hD (fun wz (hb:Below w0'.heap.size w0' wz)=>(HC.out wz (Wa hbb0 hb)).1);clear hn0 hbb0 C0 C1 HC k0 k1 k2 hnx j00 j01 j02;obtain⟨w3,rfl⟩:∃ w3,w3=w0':=⟨_,rfl⟩;generalize w0.heap.size=E at *;go_wp2_with fail
       go_loopw [5] (fun i wr=>∃ j:Nat,j≤k∧i=.int .i64 (j:Int)∧Hid (Below w3.heap.size w3 wr)∧Hid (∀ q,q<j→VR (m.exps.getD q exD).1≠VR x1)) (fun i _=>k - (intOf i).toNat)
       case atStart=>exact⟨0,nZ _,rfl,hD (bR _ _),hD fun _ h=>absurd h (Nat.not_lt_zero _)⟩
       case round =>
        obtain⟨w4,rfl⟩:∃ w4,w4=wr:=⟨_,rfl⟩;obtain⟨j,hj,rfl,HB4,HQ⟩:=hrel;by_cases hlj:j<k
        ·have hd2:decide ((j:Int)<(k:Int))=true:=by simp;omega
         have hjn:(0:Int)≤(j:Int)∧(j:Int)<(n5:Int):=by omega
         obtain⟨y,hy,q0,q1,q2⟩:=HAC.out w4 (Wa HB01.out (Wa HB2.out HB4.out)) j (by omega);have HNE:=hD (fun (h:VR y.1≠VR x1) (q:Nat) (hq:q<j+1)=>(show VR (m.exps.getD q exD).1≠VR x1 from by
          rcases Nat.lt_or_ge q j with h1|h1
          ·exact HQ.out q h1
          ·rw[show q=j by omega,hy];exact h))
         have HOJ:=hD (fun (h:VR y.1=VR x1)=>HOL.out j hlj y hy h);clear hy;obtain⟨y1,y2,y3⟩:=y;simp only at q0 q1 q2 HNE HOJ;have q0d:w4.drew.cell? ⟨g,o+j * 3,none⟩=some (.string y1):=q0;have xe:=HX1.out w4 HB4.out;obtain⟨b0,b1,b2,b3,b4,b5,b6,b7⟩:=HBX.out w4 (Wa HB2.out HB4.out);have xd:=HX1.out w4.drew HB4.out.drew;obtain⟨z0,z1,z2,z3,z4,z5,z6,z7⟩:=HBX.out w4.drew (Wa HB2.out HB4.out.drew);have HSS:=hD (And.intro z5 (And.intro q0d xd));have HB5:=hD (Wa HB2.out HB4.out.drew);have HBR:=hD HB4.out.drew;clear xe b0 b1 b2 b3 b4 b6 b7 z0 z1 z2 z3 z4 z6 z7 q1 q2;by_cases hs:VR y1=VR x1
         ·have ds:=nums_is hs;have HF:=hD (HOJ.out hs);clear HNE HOJ hs
          go_upto_region 9 with (fail)
          go_region_held3 (fun wz=>wz.cell? ⟨w.heap.size,5,none⟩=some (.slice (some ⟨g,o,none⟩) n5 c5)∧wz.cell? ⟨g,o+j * 3,none⟩=some (.string y1)∧wz.cell? ⟨E,0,none⟩=some (.string x1)) (exact HSS.out) (first|fail)
          go_wp2;go_ret;exact⟨WV (by rw[HF.out]),Wa HB01.out HB5.out⟩
         ·have ds:=nums_ne hs;have HNE2:=hD (HNE.out hs);clear HNE HOJ hs
          go_upto_region 9 with (fail)
          go_region_held3 (fun wz=>wz.cell? ⟨w.heap.size,5,none⟩=some (.slice (some ⟨g,o,none⟩) n5 c5)∧wz.cell? ⟨g,o+j * 3,none⟩=some (.string y1)∧wz.cell? ⟨E,0,none⟩=some (.string x1)) (exact HSS.out) (first|fail)
          go_wp2;go_roundw
          case rel=>exact⟨j+1,by omega,by go_num,HBR,HNE2⟩
          case measure=>simp[intOf];omega
        ·have hd2:decide ((j:Int)<(k:Int))=false:=by simp;omega
         have hjk:j=k:=by omega
         have HY2:=hD (HY.out (by rw[← hjk];exact HQ.out));clear hjk;go_wp2;go_roundw
         case rel=>exact⟨k+1,by omega,by go_num,hD (Wa HB2.out HB4.out),HY2⟩
         case measure=>simp[intOf];omega
  ·have hd:decide ((k:Int)<(n5:Int))=false:=by simp;omega
   have hkn:k=n5:=by omega
   have HD5:=hD (exs_yes HN5.out (by rw[← hkn];exact HA.out));obtain⟨b0,b1,b2,b3,b4,b5,b6,b7⟩:=HBX.out w0 HB.out;obtain⟨w5z,rfl⟩:∃ wz,wz=w0:=⟨_,rfl⟩;have HBS:=HB;clear HA HB hkn hk;go_wp2_with fail
   clear hlt hd;go_loopw [61] (fun i wr=>∃ k:Nat,k≤n6∧i=.int .i64 (k:Int)∧Hid (Below w1.heap.size w1 wr)∧Hid (W0 datB m.datas dat0 k)) (fun i _=>n6 - (intOf i).toNat)
   case atStart=>exact⟨0,nZ _,rfl,HBS,hD (W0.zero _ _ _)⟩
   case round =>
    obtain⟨w0,rfl⟩:∃ w0,w0=wr:=⟨_,rfl⟩;obtain⟨k,hk,rfl,HB,HA⟩:=hrel;by_cases hlt:k<n6
    ·have hd:decide ((k:Int)<(n6:Int))=true:=by simp;omega
     obtain⟨g,o,c',he,_,_⟩:=Wd.some_ (HL6.out w0 (Wa HB01.out HB.out)) (by rw[HN6.out];omega);simp only[vI]at he;obtain⟨rfl,-,rfl⟩:=he;have hAT:=HL6.out w0 (Wa HB01.out HB.out);obtain⟨u0,k0,h0⟩:=Wd.at_ hAT k 0 (by rw[HN6.out];exact hlt) (by decide);obtain⟨u1,k1,h1⟩:=Wd.at_ hAT k 1 (by rw[HN6.out];exact hlt) (by decide);obtain⟨u2,k2,h2⟩:=Wd.at_ hAT k 2 (by rw[HN6.out];exact hlt) (by decide);obtain⟨u3,k3,h3⟩:=Wd.at_ hAT k 3 (by rw[HN6.out];exact hlt) (by decide);have HNO:=hD (fun (h:datB (m.datas.getD k dat0)=false)=>HF6.out (VM (by rw[HN6.out];exact hlt) h));have HYE:=hD (fun (h:datB (m.datas.getD k dat0)=true)=>HA.out.succ h);clear hAT;generalize m.datas.getD k dat0=x at h0 h1 h2 h3 HNO HYE;obtain⟨x1,x2,x3,x4⟩:=x;obtain rfl:u0=.bool x1:=h0;obtain rfl:u1=.int .i64 x2:=h1;obtain rfl:u2=.int .i64 x3:=h2;obtain⟨P3,q3,rfl,hx4,_⟩:=h3;obtain⟨m3,hm3⟩:∃ m,x4.length=m:=⟨_,rfl⟩;rw[hm3]at k3 hx4;rw[Nat.add_zero]at k0;rcases x1
     ·skip
      rw[show datB ⟨false,x2,x3,x4⟩=(inB x2 0 0 && inB x3 0 0 && decide (x4.length≤1048576)) from rfl]at HNO HYE;rw[hm3]at HNO HYE;clear hm3;rw[V9 x2,V9 x3]at HNO HYE;generalize hb0:(x2==0)=b0 at HNO HYE;generalize hb1:(x3==0)=b1 at HNO HYE;generalize hb2:(decide (m3≤1048576))=b2 at HNO HYE;have hnx:=Wb (bR w0.heap.size w0) (.cells #[.bool false,.int .i64 x2,.int .i64 x3,.slice P3 m3 q3] 61);have HC:Hid (∀ wz,Below (w0.alloc (.cells #[.bool false,.int .i64 x2,.int .i64 x3,.slice P3 m3 q3] 61)).heap.size (w0.alloc (.cells #[.bool false,.int .i64 x2,.int .i64 x3,.slice P3 m3 q3] 61)) wz→wz.cell? ⟨w0.heap.size,0,none⟩=some (.bool false)∧wz.cell? ⟨w0.heap.size,1,none⟩=some (.int .i64 x2)∧wz.cell? ⟨w0.heap.size,2,none⟩=some (.int .i64 x3)∧wz.cell? ⟨w0.heap.size,3,none⟩=some (.slice P3 m3 q3)):=hD fun wz hb=>by
       exact Zb0
      cases b0 with
      | false =>
       have HF:=hD (HNO.out (by rfl));clear HNO HYE;have d0:(x2==0)=false:=hb0;have e0:(x2 != 0)=true:=by simpa using d0
       go_wp2;exact ZI
      | true =>
       have d0:x2=0:=by simpa using hb0
       clear hb0;subst d0;cases b1 with
       | false =>
        have HF:=hD (HNO.out (by rfl));clear HNO HYE;have d1:(x3==0)=false:=hb1;have e1:(x3 != 0)=true:=by simpa using d1
        go_wp2;exact ZI
       | true =>
        have d1:x3=0:=by simpa using hb1
        clear hb1;subst d1;cases b2 with
        | false =>
         have HF:=hD (HNO.out (by rfl));clear HNO HYE;have e2:=of_decide_eq_false hb2;clear hb2;have d2:decide ((1048576:Int)<(m3:Int))=true:=by simp;omega
         clear e2;go_wp2;exact ZI
        | true =>
         have e2:=of_decide_eq_true hb2;clear hb2;have d2:decide ((1048576:Int)<(m3:Int))=false:=by simp;omega
         clear e2;have HY:=hD (HYE.out rfl);clear HNO HYE;go_wp2;exact ZK
     ·skip
      rw[show datB ⟨true,x2,x3,x4⟩=(inB x2 0 3 && inB x3 0 2147483647 && decide (x4.length≤1048576)) from rfl]at HNO HYE;rw[hm3]at HNO HYE;clear hm3;have C0:=hD (fun wz (hb:Below w0.heap.size w0 wz)=>din_any x2 3 wz);generalize inB x2 0 3=b0 at C0 HNO HYE;have C1:=hD (fun wz (hb:Below w0.heap.size w0 wz)=>din_any x3 2147483647 wz);generalize inB x3 0 2147483647=b1 at C1 HNO HYE;generalize hb2:(decide (m3≤1048576))=b2 at HNO HYE;have hnx:=Wb (bR w0.heap.size w0) (.cells #[.bool true,.int .i64 x2,.int .i64 x3,.slice P3 m3 q3] 61);have HC:Hid (∀ wz,Below (w0.alloc (.cells #[.bool true,.int .i64 x2,.int .i64 x3,.slice P3 m3 q3] 61)).heap.size (w0.alloc (.cells #[.bool true,.int .i64 x2,.int .i64 x3,.slice P3 m3 q3] 61)) wz→wz.cell? ⟨w0.heap.size,0,none⟩=some (.bool true)∧wz.cell? ⟨w0.heap.size,1,none⟩=some (.int .i64 x2)∧wz.cell? ⟨w0.heap.size,2,none⟩=some (.int .i64 x3)∧wz.cell? ⟨w0.heap.size,3,none⟩=some (.slice P3 m3 q3)):=hD fun wz hb=>by
       exact Zb3
      cases b0 with
      | false =>
       exact ZcG
      | true =>
       cases b1 with
       | false =>
        have HF:=hD (HNO.out (by rfl));clear HNO HYE;exact Zcn
       | true =>
        cases b2 with
        | false =>
         have HF:=hD (HNO.out (by rfl));clear HNO HYE;have e2:=of_decide_eq_false hb2;clear hb2;have d2:decide ((1048576:Int)<(m3:Int))=true:=by simp;omega
         clear e2;exact Zcn
        | true =>
         have e2:=of_decide_eq_true hb2;clear hb2;have d2:decide ((1048576:Int)<(m3:Int))=false:=by simp;omega
         clear e2;have HY:=hD (HYE.out rfl);clear HNO HYE;go_wp2_with (first|(go_at_call 109;(with_reducible refine(C0.out _ hnx).mono ?_);rintro e w0' ⟨rfl,rfl⟩)|(go_at_call 109;(with_reducible refine(C1.out _ hnx).mono ?_);rintro e w1' ⟨rfl,rfl⟩))
         exact ZK
    ·have hd:decide ((k:Int)<(n6:Int))=false:=by simp;omega
     have hkn:k=n6:=by omega
     have HD6:=hD (show m.datas.all datB=true by have h:=HA.out;rw[hkn,← HN6.out]at h;exact h.done);obtain⟨b0,b1,b2,b3,b4,b5,b6,b7⟩:=HBX.out w0 HB.out;obtain⟨w6z,rfl⟩:∃ wz,wz=w0:=⟨_,rfl⟩;have HBS:=HB;clear HA HB hkn hk;go_wp2_with fail
     clear hlt hd;go_loopw [104] (fun i wr=>∃ k:Nat,k≤n7∧i=.int .i64 (k:Int)∧Hid (Below w1.heap.size w1 wr)∧Hid (W0 cusB m.cus (ByteArray.empty,[]) k)) (fun i _=>n7 - (intOf i).toNat)
     case atStart=>exact⟨0,nZ _,rfl,HBS,hD (W0.zero _ _ _)⟩
     case round =>
      obtain⟨w0,rfl⟩:∃ w0,w0=wr:=⟨_,rfl⟩;obtain⟨k,hk,rfl,HB,HA⟩:=hrel;by_cases hlt:k<n7
      ·have hd:decide ((k:Int)<(n7:Int))=true:=by simp;omega
       obtain⟨g,o,c',he,_,_⟩:=Wd.some_ (HL7.out w0 (Wa HB01.out HB.out)) (by rw[HN7.out];omega);simp only[vI]at he;obtain⟨rfl,-,rfl⟩:=he;have hAT:=HL7.out w0 (Wa HB01.out HB.out);obtain⟨u0,k0,h0⟩:=Wd.at_ hAT k 0 (by rw[HN7.out];exact hlt) (by decide);obtain⟨u1,k1,h1⟩:=Wd.at_ hAT k 1 (by rw[HN7.out];exact hlt) (by decide);have HNO:=hD (fun (h:cusB (m.cus.getD k (ByteArray.empty,[]))=false)=>HF7.out (VM (by rw[HN7.out];exact hlt) h));have HYE:=hD (fun (h:cusB (m.cus.getD k (ByteArray.empty,[]))=true)=>HA.out.succ h);clear hAT;generalize m.cus.getD k (ByteArray.empty,[])=x at h0 h1 HNO HYE;obtain⟨x1,x2⟩:=x;obtain rfl:u0=.string x1:=h0;obtain⟨P1,q1,rfl,hx2,_⟩:=h1;obtain⟨m1,hm1⟩:∃ m,x2.length=m:=⟨_,rfl⟩;rw[hm1]at k1 hx2;rw[Nat.add_zero]at k0;rw[show cusB ⟨x1,x2⟩=(strB x1 && decide (x2.length≤1048576)) from rfl]at HNO HYE;rw[hm1]at HNO HYE;clear hm1;have C0:=hD (fun wz (hb:Below w0.heap.size w0 wz)=>dname_any x1 wz);generalize strB x1=b0 at C0 HNO HYE;generalize hb1:(decide (m1≤1048576))=b1 at HNO HYE;have hnx:=Wb (bR w0.heap.size w0) (.cells #[.string x1,.slice P1 m1 q1] 185);have HC:Hid (∀ wz,Below (w0.alloc (.cells #[.string x1,.slice P1 m1 q1] 185)).heap.size (w0.alloc (.cells #[.string x1,.slice P1 m1 q1] 185)) wz→wz.cell? ⟨w0.heap.size,0,none⟩=some (.string x1)∧wz.cell? ⟨w0.heap.size,1,none⟩=some (.slice P1 m1 q1)):=hD fun wz hb=>by
        exact Zcp
       cases b0 with
       | false =>
        have HF:=hD (HNO.out (by rfl));clear HNO HYE;exact ZbI
       | true =>
        cases b1 with
        | false =>
         have HF:=hD (HNO.out (by rfl));clear HNO HYE;have e1:=of_decide_eq_false hb1;clear hb1;have d1:decide ((1048576:Int)<(m1:Int))=true:=by simp;omega
         clear e1;exact ZbI
        | true =>
         have e1:=of_decide_eq_true hb1;clear hb1;have d1:decide ((1048576:Int)<(m1:Int))=false:=by simp;omega
         clear e1;have HY:=hD (HYE.out rfl);clear HNO HYE;go_wp2_with (first|(go_at_call 108;(with_reducible refine(C0.out _ hnx).mono ?_);rintro e w0' ⟨rfl,hb0⟩;have hn0:=Wa hnx hb0;have hbb0:=hb0;obtain⟨j00,j01⟩:=HC.out _ hbb0;clear hb0))
         exact Zbj
      ·have hd:decide ((k:Int)<(n7:Int))=false:=by simp;omega
       have hkn:k=n7:=by omega
       have HD7:=hD (show m.cus.all cusB=true by have h:=HA.out;rw[hkn,← HN7.out]at h;exact h.done);obtain⟨b0,b1,b2,b3,b4,b5,b6,b7⟩:=HBX.out w0 HB.out;obtain⟨w7z,rfl⟩:∃ wz,wz=w0:=⟨_,rfl⟩;have HBS:=HB;clear HA HB hkn hk;have HF:=hD (HG.out HD5.out HD6.out HD7.out);go_wp2;go_ret;exact⟨WV (by rw[HF.out]),Wa HB01.out HBS.out⟩
theorem drop_parts (m:Vt):UG m=(UF m && restA m):=by
 unfold UG UF restA;cases m.types.all typB <;> cases m.imps.all impB <;> cases m.funs.all fncB <;> cases m.mems.all memB <;> cases m.globs.all Uj <;> cases exsB m.exps <;> cases m.datas.all datB <;> rfl
theorem dright_any (w:World) (v:Mv) (m:Vt) (h:W7 (fun k=>k<w.heap.size) w v m) (hT:TypedM m) (hw:Few m):Calls Tryz.prog 43 #[.agg v.cells] w (RightPost m w):=by
 have HP:=hD (fun wz (hb:Below w.heap.size w wz)=>dparts_any wz v m (h.keep (We.below hb fun _ hk=>hk) fun _ hk=>Ve hk hb.size) hT);have HS:=hD (fun wz (hb:Below w.heap.size w wz)=>drest_any wz v m (h.keep (We.below hb fun _ hk=>hk) fun _ hk=>Ve hk hb.size));have HR1:=hD (right_full (m:=m));have HR2:=hD (right_form (m:=m));have HR3:=hD (right_ok (m:=m));rw[drop_parts m]at HR2 HR3;generalize UF m=pa at HP HR2 HR3;generalize restA m=pb at HS HR2 HR3;obtain⟨A0,c0,A1,c1,A2,c2,A3,c3,A4,c4,A5,c5,A6,c6,A7,c7,rfl⟩:=Wr h;simp only[Mv.cells]at HP HS ⊢;have HFT:Hid (fitsB m=(decide (m.types.length≤64) && decide (m.imps.length+m.funs.length≤256) && decide (m.mems.length≤4) && decide (m.globs.length≤256) && decide (m.datas.length≤16) && decide (m.exps.length≤256) && decide (m.cus.length≤16))):=hD rfl;unfold RightPost;generalize WU m=R at HR1 HR2 HR3 ⊢;generalize fitsB m=bf at HR1 HR2 HR3 HFT;unfold Few at hw;clear h hT;generalize m.types.length=n0 at *;generalize m.imps.length=n1 at *;generalize m.funs.length=n2 at *;generalize m.mems.length=n3 at *;generalize m.globs.length=n4 at *;generalize m.exps.length=n5 at *;generalize m.datas.length=n6 at *;generalize m.cus.length=n7 at *;obtain⟨w0,w1,w2,w3,w4,w5,w6,w7⟩:=hw;have e1:IntKind.i64.wrap ((n1:Int)+(n2:Int))=(n1:Int)+(n2:Int):=IntWalk.i64_in _ (by omega);have HB01:=hD ((bR w.heap.size w).alloc (nR _) (.cells #[.slice A0 n0 c0,.slice A1 n1 c1,.slice A2 n2 c2,.slice A3 n3 c3,.slice A4 n4 c4,.slice A5 n5 c5,.slice A6 n6 c6,.slice A7 n7 c7] 37));have HBX:=hD (fun wz hb=>UB w (.slice A0 n0 c0) (.slice A1 n1 c1) (.slice A2 n2 c2) (.slice A3 n3 c3) (.slice A4 n4 c4) (.slice A5 n5 c5) (.slice A6 n6 c6) (.slice A7 n7 c7) (wz:=wz) hb);go_enter Tryz.func43,Tryz.ntmps43
 go_upto_region 1 with (fail)
 generalize w.alloc (.cells #[.slice A0 n0 c0,.slice A1 n1 c1,.slice A2 n2 c2,.slice A3 n3 c3,.slice A4 n4 c4,.slice A5 n5 c5,.slice A6 n6 c6,.slice A7 n7 c7] 37)=W at HB01 HBX ⊢;obtain⟨b0,b1,b2,b3,b4,b5,b6,b7⟩:=HBX.out W (bR _ _);by_cases h0:n0≤64
 rotate_left
 ·have d0:decide ((64:Int)<(n0:Int))=true:=by simp;omega
  have HF:=hD (HR1.out (by rw[HFT.out,decide_eq_false h0];simp));clear HR1 HR2 HR3 HFT w0 w1 w2 w3 w4 w5 w6 w7 h0;exact ZbG
 ·have d0:decide ((64:Int)<(n0:Int))=false:=by simp;omega
  rw[decide_eq_true h0]at HFT;clear h0;by_cases h1:n1+n2≤256
  rotate_left
  ·have d1:decide ((256:Int)<(n1:Int)+(n2:Int))=true:=by simp;omega
   have HF:=hD (HR1.out (by rw[HFT.out,decide_eq_false h1];simp));clear HR1 HR2 HR3 HFT w0 w1 w2 w3 w4 w5 w6 w7 h1;exact ZbG
  ·have d1:decide ((256:Int)<(n1:Int)+(n2:Int))=false:=by simp;omega
   rw[decide_eq_true h1]at HFT;clear h1;by_cases h2:n3≤4
   rotate_left
   ·have d2:decide ((4:Int)<(n3:Int))=true:=by simp;omega
    have HF:=hD (HR1.out (by rw[HFT.out,decide_eq_false h2];simp));clear HR1 HR2 HR3 HFT w0 w1 w2 w3 w4 w5 w6 w7 h2;exact ZbG
   ·have d2:decide ((4:Int)<(n3:Int))=false:=by simp;omega
    rw[decide_eq_true h2]at HFT;clear h2;by_cases h3:n4≤256
    rotate_left
    ·have d3:decide ((256:Int)<(n4:Int))=true:=by simp;omega
     have HF:=hD (HR1.out (by rw[HFT.out,decide_eq_false h3];simp));clear HR1 HR2 HR3 HFT w0 w1 w2 w3 w4 w5 w6 w7 h3;exact ZbG
    ·have d3:decide ((256:Int)<(n4:Int))=false:=by simp;omega
     rw[decide_eq_true h3]at HFT;clear h3;by_cases h4:n6≤16
     rotate_left
     ·have d4:decide ((16:Int)<(n6:Int))=true:=by simp;omega
      have HF:=hD (HR1.out (by rw[HFT.out,decide_eq_false h4];simp));clear HR1 HR2 HR3 HFT w0 w1 w2 w3 w4 w5 w6 w7 h4;exact ZbG
     ·have d4:decide ((16:Int)<(n6:Int))=false:=by simp;omega
      rw[decide_eq_true h4]at HFT;clear h4;by_cases h5:n5≤256
      rotate_left
      ·have d5:decide ((256:Int)<(n5:Int))=true:=by simp;omega
       have HF:=hD (HR1.out (by rw[HFT.out,decide_eq_false h5];simp));clear HR1 HR2 HR3 HFT w0 w1 w2 w3 w4 w5 w6 w7 h5;exact ZbG
      ·have d5:decide ((256:Int)<(n5:Int))=false:=by simp;omega
       rw[decide_eq_true h5]at HFT;clear h5;by_cases h6:n7≤16
       rotate_left
       ·have d6:decide ((16:Int)<(n7:Int))=true:=by simp;omega
        have HF:=hD (HR1.out (by rw[HFT.out,decide_eq_false h6];simp));clear HR1 HR2 HR3 HFT w0 w1 w2 w3 w4 w5 w6 w7 h6;exact ZbG
       ·have d6:decide ((16:Int)<(n7:Int))=false:=by simp;omega
        rw[decide_eq_true h6]at HFT;clear h6;have HFI:=hD (show bf=true by rw[HFT.out];rfl);rw[HFI.out]at HR2 HR3;clear HR1 HFT HFI w0 w1 w2 w3 w4 w5 w6 w7;cases pa with
        | false =>
         have HF:=hD (HR2.out rfl (by rfl));clear HR2 HR3 HS;go_wp2_with (first|(go_at_call 74;(with_reducible refine(HP.out _ HB01.out).mono ?_);rintro e wa ⟨rfl,hba⟩;have HBA:=hD hba;obtain⟨a0,a1,a2,a3,a4,a5,a6,a7⟩:=HBX.out wa hba;clear hba))
         go_ret;exact⟨Vd (by rw[HF.out]),Wa HB01.out HBA.out⟩
        | true =>
         cases pb with
         | false =>
          have HF:=hD (HR2.out rfl (by rfl));exact Zbk
         | true =>
          have HF:=hD (HR3.out rfl (by rfl));exact Zbk
end Go.Proofs.YtmfpnfdinoofpaaGreatDoor
