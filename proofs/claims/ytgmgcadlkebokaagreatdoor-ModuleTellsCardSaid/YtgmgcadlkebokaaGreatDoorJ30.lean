/- A part of the proof. -/
import Derived.Test.YtgmgcadlkebokaaGreatDoorJ28
import Derived.Test.YtgmgcadlkebokaaGreatDoorJ29
namespace Go.Proofs.YtgmgcadlkebokaaGreatDoor
section
open Go.RowKit
set_option maxHeartbeats 4000000
set_option maxRecDepth 100000
theorem Zw {P:Prop}(h:P:=by
 clear HR1 HR2 HR3;go_wp2_with (first|(go_at_call 50;(with_reducible refine(C0.out _ hq).mono ?_);rintro e y0 ⟨rfl,hb0⟩;have hq0:=Wa hq hb0;have hx0:=Wa (HB12.out) hb0;obtain⟨z00,z01,z02,z03,z04,z05,z06,z07⟩:=HBX.out _ hx0;clear hb0)|(go_at_call 51;(with_reducible refine(C1.out _ hq0).mono ?_);rintro e y1 ⟨rfl,hb1⟩;have hq1:=Wa hq0 hb1;have hx1:=Wa (hx0) hb1;obtain⟨z10,z11,z12,z13,z14,z15,z16,z17⟩:=HBX.out _ hx1;clear hb1)|(go_at_call 52;(with_reducible refine(C2.out _ hq1).mono ?_);rintro e y2 ⟨rfl,hb2⟩;have hq2:=Wa hq1 hb2;have hx2:=Wa (hx1) hb2;obtain⟨z20,z21,z22,z23,z24,z25,z26,z27⟩:=HBX.out _ hx2;clear hb2)|(go_at_call 53;(with_reducible refine(C3.out _ hq2).mono ?_);rintro e y3 ⟨rfl,hb3⟩;have hq3:=Wa hq2 hb3;have hx3:=Wa (hx2) hb3;obtain⟨z30,z31,z32,z33,z34,z35,z36,z37⟩:=HBX.out _ hx3;clear hb3)|(go_at_call 54;(with_reducible refine(C4.out _ hq3).mono ?_);rintro e y4 ⟨rfl,hb4⟩;have hq4:=Wa hq3 hb4;have hx4:=Wa (hx3) hb4;obtain⟨z40,z41,z42,z43,z44,z45,z46,z47⟩:=HBX.out _ hx4;clear hb4)|(go_at_call 55;(with_reducible refine(C5.out _ hq4).mono ?_);rintro e y5 ⟨rfl,hb5⟩;have hq5:=Wa hq4 hb5;have hx5:=Wa (hx4) hb5;obtain⟨z50,z51,z52,z53,z54,z55,z56,z57⟩:=HBX.out _ hx5;clear hb5)|(go_at_call 56;(with_reducible refine(C6.out _ hq5).mono ?_);rintro e y6 ⟨rfl,hb6⟩;have hq6:=Wa hq5 hb6;have hx6:=Wa (hx5) hb6;obtain⟨z60,z61,z62,z63,z64,z65,z66,z67⟩:=HBX.out _ hx6;clear hb6)|(go_at_call 57;(with_reducible refine(C7.out _ hq6).mono ?_);rintro e y7 ⟨rfl,hb7⟩;have hq7:=Wa hq6 hb7;have hx7:=Wa (hx6) hb7;obtain⟨z70,z71,z72,z73,z74,z75,z76,z77⟩:=HBX.out _ hx7;clear hb7))
 go_ret;exact⟨ret_i64 (by rw[HR.out]),hq7⟩):P:=h
theorem ZG {P:Prop}(h:P:=by
 clear w0 w1 w2 w3 w4 w5 w6 w7;try clear h0
 try clear h1
 try clear h2
 try clear h3
 try clear h4
 try clear h5
 try clear h6
 go_enter Tryz.func49,Tryz.ntmps49;go_wp2;go_ret;exact⟨WA (by rfl),(bR _ _).alloc (nR _) _⟩):P:=h
theorem Zb0 {P:Prop}(h:P:=by
 have h9:∀ i,wz.cell? ⟨w0.heap.size,i,none⟩=(#[.string x1,.int .i64 x2,.int .i64 x3]:Array Value)[i]?:=fun i=>(hb.cell (p:=⟨w0.heap.size,i,none⟩) (by simp)).trans (wN w0 _ _ i);exact⟨h9 0,h9 1,h9 2⟩):P:=h
theorem Zcl {P:Prop}(h:P:=by
 simp only[Bool.and_true,Bool.and_false,Bool.false_and];exact ZG):P:=h
theorem exAt_one {l:List (ByteArray×Int×Int)} {k:Nat} (h:exOneB (l.getD k exD)=false):exAtB l k=false:=by unfold exAtB;rw[h];rfl
theorem exAt_old {l:List (ByteArray×Int×Int)} {k j:Nat} (hj:j<k) (h:Vs (l.getD j exD).1=Vs (l.getD k exD).1):exAtB l k=false:=by
 unfold exAtB;rw[range_no hj (by simpa using h)];simp
theorem exAt_new {l:List (ByteArray×Int×Int)} {k:Nat} (h:exOneB (l.getD k exD)=true) (hn:∀ j,j<k→Vs (l.getD j exD).1≠Vs (l.getD k exD).1):exAtB l k=true:=by
 unfold exAtB;rw[h,range_yes (fun j hj=>by simpa using hn j hj)];rfl
theorem exs_no {l:List (ByteArray×Int×Int)} {k n:Nat} (hn:l.length=n) (hk:k<n) (h:exAtB l k=false):exsB l=false:=by unfold exsB;rw[hn];exact range_no hk h
theorem exs_yes {l:List (ByteArray×Int×Int)} {n:Nat} (hn:l.length=n) (h:∀ k,k<n→exAtB l k=true):exsB l=true:=by unfold exsB;rw[hn];exact range_yes h
theorem rexports_any (K:Nat→Prop) (w:World) (hK:∀ k,K k→k<w.heap.size) (ht:Tab w) (v:Value) (l:List (ByteArray×Int×Int)) (h:ExpsK K w v l):Calls Tryz.prog 55 #[v] w (Wj (exsB l) w):=by
 obtain⟨A,c,hv,hnc,hcm⟩:=Wb.form h;have H:=hD (Wb.keep (K':=fun k=>k<w.heap.size) h (.refl _ _) hK (fun _ _ _ h=>h));rw[hv]at H ⊢;clear h hv;unfold maxLen at hcm;obtain⟨n,hn⟩:∃ n,l.length=n:=⟨_,rfl⟩;have HN:=hD hn;rw[hn]at H hnc ⊢;clear hn;have HT:=hD ht;clear ht;go_enter Tryz.func55,Tryz.ntmps55;go_wp2_with fail
 go_loopw [9] (fun i wr=>∃ k:Nat,k≤n∧i=.int .i64 (k:Int)∧Hid (Below w.heap.size w wr)∧Hid (∀ j,j<k→exAtB l j=true)) (fun i _=>n - (intOf i).toNat)
 case atStart=>exact⟨0,nZ _,rfl,hD (bR _ _),hD fun _ h=>absurd h (Nat.not_lt_zero _)⟩
 case round =>
  obtain⟨w0,rfl⟩:∃ w0,w0=wr:=⟨_,rfl⟩;obtain⟨k,hk,rfl,HB,HA⟩:=hrel;by_cases hlt:k<n
  ·have hd:decide ((k:Int)<(n:Int))=true:=by simp;omega
   obtain⟨g,o,c',he,_,_⟩:=Wb.some_ H.out (by first|omega|(rw[HN.out];omega));simp only[vI]at he;obtain⟨rfl,-,rfl⟩:=he;have HAT:=hD (fun wz (hb:Below w.heap.size w wz)=>Wb.keep (K':=fun k=>k<wz.heap.size) H.out (We.below hb fun _ hk=>hk) (fun _ hk=>WK hk hb.size) (fun _ _ _ h=>h));have HAC:=hD (fun (wz:World) (hb:Below w.heap.size w wz) (j:Nat) (hj:j<n)=>(show ∃ y:ByteArray×Int×Int,l.getD j exD=y∧wz.cell? ⟨g,o+j * 3,none⟩=some (.string y.1)∧wz.cell? ⟨g,o+j * 3+1,none⟩=some (.int .i64 y.2.1)∧wz.cell? ⟨g,o+j * 3+2,none⟩=some (.int .i64 y.2.2) from by
    have hAT:=HAT.out wz hb;obtain⟨u0,k0,h0⟩:=Wb.at_ hAT j 0 (by first|exact hj|(rw[HN.out];exact hj)) (by decide);obtain⟨u1,k1,h1⟩:=Wb.at_ hAT j 1 (by first|exact hj|(rw[HN.out];exact hj)) (by decide);obtain⟨u2,k2,h2⟩:=Wb.at_ hAT j 2 (by first|exact hj|(rw[HN.out];exact hj)) (by decide);obtain rfl:u0=.string (l.getD j exD).1:=h0;obtain rfl:u1=.int .i64 (l.getD j exD).2.1:=h1;obtain rfl:u2=.int .i64 (l.getD j exD).2.2:=h2;exact⟨_,rfl,k0,k1,k2⟩))
   obtain⟨x,hx,k0,k1,k2⟩:=HAC.out w0 HB.out k hlt;have HNO:=hD (fun (h:exOneB x=false)=>exs_no HN.out hlt (exAt_one (by rw[hx];exact h)));have HOL:=hD (fun (j:Nat) (hj:j<k) (y:ByteArray×Int×Int) (hy:l.getD j exD=y) (h:Vs y.1=Vs x.1)=>exs_no HN.out hlt (exAt_old hj (by rw[hy,hx];exact h)));have HYE:=hD (fun (h:exOneB x=true) (hn:∀ j,j<k→Vs (l.getD j exD).1≠Vs x.1) (i:Nat) (hi:i<k+1)=>(show exAtB l i=true from by
    rcases Nat.lt_or_ge i k with h1|h1
    ·exact HA.out i h1
    ·rw[show i=k by omega];exact exAt_new (by rw[hx];exact h) (by rw[hx];exact hn)))
   clear hx HA HAT;obtain⟨x1,x2,x3⟩:=x;simp only at k0 k1 k2 HOL HYE;rw[show exOneB ⟨x1,x2,x3⟩=(strB x1 && idxB x3 && exKindB x2) from rfl]at HNO HYE;have C0:=hD (fun wz (hb:Below w0.heap.size w0 wz)=>str_any x1 wz (HT.out.below (Wa HB.out hb)));generalize strB x1=b0 at C0 HNO HYE;have C1:=hD (fun wz (hb:Below w0.heap.size w0 wz)=>idx_any x3 wz);generalize idxB x3=b1 at C1 HNO HYE;have C2:=hD (fun wz (hb:Below w0.heap.size w0 wz)=>exkind_any x2 wz);generalize exKindB x2=b2 at C2 HNO HYE;have hnx:=Wg (bR w0.heap.size w0) (.cells #[.string x1,.int .i64 x2,.int .i64 x3] 61);have HC:Hid (∀ wz,Below (w0.alloc (.cells #[.string x1,.int .i64 x2,.int .i64 x3] 61)).heap.size (w0.alloc (.cells #[.string x1,.int .i64 x2,.int .i64 x3] 61)) wz→wz.cell? ⟨w0.heap.size,0,none⟩=some (.string x1)∧wz.cell? ⟨w0.heap.size,1,none⟩=some (.int .i64 x2)∧wz.cell? ⟨w0.heap.size,2,none⟩=some (.int .i64 x3)):=hD fun wz hb=>by
    exact Zb0
   cases b0 with
   | false =>
    have HF:=hD (HNO.out (by rfl));clear HNO HYE HOL HAC;exact Zb6
   | true =>
    cases b1 with
    | false =>
     have HF:=hD (HNO.out (by rfl));clear HNO HYE HOL HAC;go_wp2_with (first|(go_at_call 91;(with_reducible refine(C0.out _ hnx).mono ?_);rintro e w0' ⟨rfl,hb0⟩;have hn0:=Wa hnx hb0;have hbb0:=hb0;obtain⟨j00,j01,j02⟩:=HC.out _ hbb0;clear hb0)|(go_at_call 92;(with_reducible refine(C1.out _ hn0).mono ?_);rintro e w1' ⟨rfl,hb1⟩;have hn1:=Wa hn0 hb1;have hbb1:=(Wa hbb0 hb1);obtain⟨j10,j11,j12⟩:=HC.out _ hbb1;clear hb1))
     exact Zck
    | true =>
     cases b2 with
     | false =>
      have HF:=hD (HNO.out (by rfl));clear HNO HYE HOL HAC;go_wp2_with (first|(go_at_call 91;(with_reducible refine(C0.out _ hnx).mono ?_);rintro e w0' ⟨rfl,hb0⟩;have hn0:=Wa hnx hb0;have hbb0:=hb0;obtain⟨j00,j01,j02⟩:=HC.out _ hbb0;clear hb0)|(go_at_call 92;(with_reducible refine(C1.out _ hn0).mono ?_);rintro e w1' ⟨rfl,hb1⟩;have hn1:=Wa hn0 hb1;have hbb1:=(Wa hbb0 hb1);obtain⟨j10,j11,j12⟩:=HC.out _ hbb1;clear hb1)|(go_at_call 95;(with_reducible refine(C2.out _ hn1).mono ?_);rintro e w2' ⟨rfl,hb2⟩;have hn2:=Wa hn1 hb2;have hbb2:=(Wa hbb1 hb2);obtain⟨j20,j21,j22⟩:=HC.out _ hbb2;clear hb2))
      exact ZcI
     | true =>
      have HY:=hD (HYE.out rfl);clear HNO HYE;have hkc:k≤c:=by omega
      go_upto_region 6 with (first|(go_at_call 91;(with_reducible refine(C0.out _ hnx).mono ?_);rintro e w0' ⟨rfl,hb0⟩;have hn0:=Wa hnx hb0;have hbb0:=hb0;obtain⟨j00,j01,j02⟩:=HC.out _ hbb0;clear hb0)|(go_at_call 92;(with_reducible refine(C1.out _ hn0).mono ?_);rintro e w1' ⟨rfl,hb1⟩;have hn1:=Wa hn0 hb1;have hbb1:=(Wa hbb0 hb1);obtain⟨j10,j11,j12⟩:=HC.out _ hbb1;clear hb1)|(go_at_call 95;(with_reducible refine(C2.out _ hn1).mono ?_);rintro e w2' ⟨rfl,hb2⟩;have hn2:=Wa hn1 hb2;have hbb2:=(Wa hbb1 hb2);obtain⟨j20,j21,j22⟩:=HC.out _ hbb2;clear hb2))
      have HB2:=hD (Wa HB.out hn2);have HX1:=hD (fun wz (hb:Below w2'.heap.size w2' wz)=>(HC.out wz (Wa hbb2 hb)).1);clear hn0 hn1 hn2 hbb0 hbb1 hbb2 C0 C1 C2 HC k0 k1 k2 hnx;try clear j00 j01 j02
      try clear j10 j11 j12
      try clear j20 j21 j22
      obtain⟨w3,rfl⟩:∃ w3,w3=w2':=⟨_,rfl⟩;generalize w0.heap.size=E at *;go_wp2_with fail
      go_loopw [34] (fun i wr=>∃ j:Nat,j≤k∧i=.int .i64 (j:Int)∧Hid (Below w3.heap.size w3 wr)∧Hid (∀ q,q<j→Vs (l.getD q exD).1≠Vs x1)) (fun i _=>k - (intOf i).toNat)
      case atStart=>exact⟨0,nZ _,rfl,hD (bR _ _),hD fun _ h=>absurd h (Nat.not_lt_zero _)⟩
      case round =>
       obtain⟨w4,rfl⟩:∃ w4,w4=wr:=⟨_,rfl⟩;obtain⟨j,hj,rfl,HB4,HQ⟩:=hrel;by_cases hlj:j<k
       ·have hd2:decide ((j:Int)<(k:Int))=true:=by simp;omega
        obtain⟨y,hy,q0,q1,q2⟩:=HAC.out w4 (Wa HB2.out HB4.out) j (by omega);have HNE:=hD (fun (h:Vs y.1≠Vs x1) (q:Nat) (hq:q<j+1)=>(show Vs (l.getD q exD).1≠Vs x1 from by
         rcases Nat.lt_or_ge q j with h1|h1
         ·exact HQ.out q h1
         ·rw[show q=j by omega,hy];exact h))
        have HOJ:=hD (fun (h:Vs y.1=Vs x1)=>HOL.out j hlj y hy h);clear hy;obtain⟨y1,y2,y3⟩:=y;simp only at q0 q1 q2 HNE HOJ;have xe:=HX1.out (w4.alloc (.cells #[.string y1,.int .i64 y2,.int .i64 y3] 61)) (Wg HB4.out _);by_cases hs:Vs y1=Vs x1
        ·have ds:=nums_is hs;have HF:=hD (HOJ.out hs);clear HNE HOJ hs;go_wp2;go_ret;exact⟨WA (by rw[HF.out]),Wa HB2.out (Wg HB4.out _)⟩
        ·have ds:=nums_ne hs;have HNE2:=hD (HNE.out hs);clear HNE HOJ hs;go_wp2;go_roundw
         case rel=>exact⟨j+1,by omega,by go_num,hD (Wg HB4.out _),HNE2⟩
         case measure=>simp[intOf];omega
       ·have hd2:decide ((j:Int)<(k:Int))=false:=by simp;omega
        obtain rfl:j=k:=by omega
        have HY2:=hD (HY.out HQ.out);go_wp2;go_roundw
        case rel=>exact⟨j+1,by omega,by go_num,hD (Wa HB2.out HB4.out),HY2⟩
        case measure=>simp[intOf];omega
  ·have hd:decide ((k:Int)<(n:Int))=false:=by simp;omega
   obtain rfl:k=n:=by omega
   have HF:=hD (exs_yes HN.out HA.out);exact Zbh
def Few (m:Vz):Prop:=m.types.length≤281474976710656∧m.imps.length≤281474976710656∧m.funs.length≤281474976710656∧m.mems.length≤281474976710656∧m.globs.length≤281474976710656∧m.exps.length≤281474976710656∧m.datas.length≤281474976710656∧m.cus.length≤281474976710656
theorem fits_any (w:World) (v:Mv) (m:Vz) (h:WL (fun k=>k<w.heap.size) w v m) (hw:Few m):Calls Tryz.prog 49 #[.agg v.cells] w (Wj (fitsB m) w):=by
 obtain⟨A0,c0,A1,c1,A2,c2,A3,c3,A4,c4,A5,c5,A6,c6,A7,c7,rfl⟩:=WI h;clear h;unfold Few at hw;unfold fitsB;simp only[Mv.cells];generalize m.types.length=n0 at *;generalize m.imps.length=n1 at *;generalize m.funs.length=n2 at *;generalize m.mems.length=n3 at *;generalize m.globs.length=n4 at *;generalize m.exps.length=n5 at *;generalize m.datas.length=n6 at *;generalize m.cus.length=n7 at *;obtain⟨w0,w1,w2,w3,w4,w5,w6,w7⟩:=hw;have e1:IntKind.i64.wrap ((n1:Int)+(n2:Int))=(n1:Int)+(n2:Int):=IntWalk.i64_in _ (by omega);by_cases h0:n0≤64
 ·rw[decide_eq_true h0];have d0:decide ((n0:Int)≤64)=true:=by simp;omega
  by_cases h1:n1+n2≤256
  ·rw[decide_eq_true h1];have d1:decide ((n1:Int)+(n2:Int)≤256)=true:=by simp;omega
   by_cases h2:n3≤4
   ·rw[decide_eq_true h2];have d2:decide ((n3:Int)≤4)=true:=by simp;omega
    by_cases h3:n4≤256
    ·rw[decide_eq_true h3];have d3:decide ((n4:Int)≤256)=true:=by simp;omega
     by_cases h4:n6≤16
     ·rw[decide_eq_true h4];have d4:decide ((n6:Int)≤16)=true:=by simp;omega
      by_cases h5:n5≤256
      ·rw[decide_eq_true h5];have d5:decide ((n5:Int)≤256)=true:=by simp;omega
       by_cases h6:n7≤16
       ·rw[decide_eq_true h6];have d6:decide ((n7:Int)≤16)=true:=by simp;omega
        simp only[Bool.and_true];exact ZG
       ·rw[decide_eq_false h6];have d6:decide ((n7:Int)≤16)=false:=by simp;omega
        simp only[Bool.and_true,Bool.and_false];exact ZG
      ·rw[decide_eq_false h5];have d5:decide ((n5:Int)≤256)=false:=by simp;omega
       exact Zcl
     ·rw[decide_eq_false h4];have d4:decide ((n6:Int)≤16)=false:=by simp;omega
      exact Zcl
    ·rw[decide_eq_false h3];have d3:decide ((n4:Int)≤256)=false:=by simp;omega
     exact Zcl
   ·rw[decide_eq_false h2];have d2:decide ((n3:Int)≤4)=false:=by simp;omega
    exact Zcl
  ·rw[decide_eq_false h1];have d1:decide ((n1:Int)+(n2:Int)≤256)=false:=by simp;omega
   simp only[Bool.and_false,Bool.false_and];exact ZG
 ·rw[decide_eq_false h0];have d0:decide ((n0:Int)≤64)=false:=by simp;omega
  simp only[Bool.false_and];exact ZG
def UH (m:Vz) (w:World) (e:Ending) (w':World):Prop:=e=.returned (.int .i64 (rightB m))∧Below w.heap.size w w'
theorem ret_i64 {a b:Int} (h:a=b):Ending.returned (.int .i64 a)=.returned (.int .i64 b):=by rw[h]
theorem right_full {m:Vz} (h:fitsB m=false):rightB m=13:=by unfold rightB;rw[h];rfl
theorem right_form {m:Vz} (h:fitsB m=true) (h2:partsB m=false):rightB m=12:=by unfold rightB;rw[h,h2];rfl
theorem right_ok {m:Vz} (h:fitsB m=true) (h2:partsB m=true):rightB m=0:=by unfold rightB;rw[h,h2];rfl
theorem right_mod (w:World) (ht:Tab w) (v:Mv) (m:Vz) (h:WL (fun k=>k<w.heap.size) w v m) (hw:Few m):Calls Tryz.prog 11 #[.agg v.cells] w (UH m w):=by
 have HK:=hD (fun wz (hb:Below w.heap.size w wz)=>(show WL (fun k=>k<wz.heap.size) wz v m from h.keep (We.below hb fun _ hk=>hk) fun _ hk=>WK hk hb.size));have HT:=hD (fun wz (hb:Below w.heap.size w wz)=>ht.below hb);have HFI:=hD (fun wz (hb:Below w.heap.size w wz)=>fits_any wz v m (HK.out wz hb) hw);have C0:=hD (fun wz (hb:Below w.heap.size w wz)=>rtypes_any (fun k=>k<wz.heap.size) wz (fun _ h=>h) _ _ (HK.out wz hb).types);have C1:=hD (fun wz (hb:Below w.heap.size w wz)=>rimports_any (fun k=>k<wz.heap.size) wz (fun _ h=>h) (HT.out wz hb) _ _ (HK.out wz hb).imps);have C2:=hD (fun wz (hb:Below w.heap.size w wz)=>rfuncs_any (fun k=>k<wz.heap.size) wz (fun _ h=>h) _ _ (HK.out wz hb).funs);have C3:=hD (fun wz (hb:Below w.heap.size w wz)=>rmems_any (fun k=>k<wz.heap.size) wz (fun _ h=>h) _ _ (HK.out wz hb).mems);have C4:=hD (fun wz (hb:Below w.heap.size w wz)=>rglobs_any (fun k=>k<wz.heap.size) wz (fun _ h=>h) _ _ (HK.out wz hb).globs);have C5:=hD (fun wz (hb:Below w.heap.size w wz)=>rexports_any (fun k=>k<wz.heap.size) wz (fun _ h=>h) (HT.out wz hb) _ _ (HK.out wz hb).exps);have C6:=hD (fun wz (hb:Below w.heap.size w wz)=>rdatas_any (fun k=>k<wz.heap.size) wz (fun _ h=>h) _ _ (HK.out wz hb).datas);have C7:=hD (fun wz (hb:Below w.heap.size w wz)=>rcustoms_any (fun k=>k<wz.heap.size) wz (fun _ h=>h) (HT.out wz hb) _ _ (HK.out wz hb).cus);have HP:Hid (partsB m=(m.types.all typB && m.imps.all impB && m.funs.all fncB && m.mems.all memB && m.globs.all V8 && exsB m.exps && m.datas.all datB && m.cus.all cusB)):=hD rfl;have HR1:=hD (right_full (m:=m));have HR2:=hD (right_form (m:=m));have HR3:=hD (right_ok (m:=m));generalize m.types.all typB=b0 at C0 HP;generalize m.imps.all impB=b1 at C1 HP;generalize m.funs.all fncB=b2 at C2 HP;generalize m.mems.all memB=b3 at C3 HP;generalize m.globs.all V8=b4 at C4 HP;generalize exsB m.exps=b5 at C5 HP;generalize m.datas.all datB=b6 at C6 HP;generalize m.cus.all cusB=b7 at C7 HP;generalize fitsB m=bf at HFI HR1 HR2 HR3;rw[HP.out]at HR2 HR3;clear HP HT hw ht;unfold UH;generalize rightB m=R at HR1 HR2 HR3 ⊢;obtain⟨A0,c0,A1,c1,A2,c2,A3,c3,A4,c4,A5,c5,A6,c6,A7,c7,rfl⟩:=WI h;simp only at C0 C1 C2 C3 C4 C5 C6 C7;simp only[Mv.cells]at HFI ⊢;clear h HK;generalize m.types.length=n0 at *;generalize m.imps.length=n1 at *;generalize m.funs.length=n2 at *;generalize m.mems.length=n3 at *;generalize m.globs.length=n4 at *;generalize m.exps.length=n5 at *;generalize m.datas.length=n6 at *;generalize m.cus.length=n7 at *;have hb0:=(bR w.heap.size w).alloc (nR _) (.cells #[.slice A0 n0 c0,.slice A1 n1 c1,.slice A2 n2 c2,.slice A3 n3 c3,.slice A4 n4 c4,.slice A5 n5 c5,.slice A6 n6 c6,.slice A7 n7 c7] 36);have HB0:=hD hb0;have HQ:=hD (HFI.out _ hb0);have HBX:=hD (fun wz hb=>Vb w (.slice A0 n0 c0) (.slice A1 n1 c1) (.slice A2 n2 c2) (.slice A3 n3 c3) (.slice A4 n4 c4) (.slice A5 n5 c5) (.slice A6 n6 c6) (.slice A7 n7 c7) (wz:=wz) hb);clear hb0 HFI;go_enter Tryz.func11,Tryz.ntmps11;go_wp2_with fail
 obtain⟨w1,hw1⟩:∃ w1,w1=w.alloc (.cells #[.slice A0 n0 c0,.slice A1 n1 c1,.slice A2 n2 c2,.slice A3 n3 c3,.slice A4 n4 c4,.slice A5 n5 c5,.slice A6 n6 c6,.slice A7 n7 c7] 36):=⟨_,rfl⟩;rw[← hw1]at HB0 HQ HBX ⊢;clear hw1;go_at_call 49;refine HQ.out.mono ?_;rintro e w2 ⟨rfl,hb2⟩;obtain⟨x0,x1,x2,x3,x4,x5,x6,x7⟩:=HBX.out w2 hb2;have HB12:=hD hb2;have hq:=Wa HB0.out hb2;have HB2:=hD hq;clear hb2 HQ;cases bf with
 | false =>
  have HR:=hD (HR1.out rfl);clear HR1 HR2 HR3;go_wp2;go_ret;exact⟨ret_i64 (by rw[HR.out]),HB2.out⟩
 | true =>
  cases b0 with
  | false =>
   have HR:=hD (HR2.out rfl (by rfl));clear HR1 HR2 HR3;go_wp2_with (go_at_call 50;(with_reducible refine(C0.out _ hq).mono ?_);rintro e y0 ⟨rfl,hb0⟩;have hq0:=Wa hq hb0;have hx0:=Wa (HB12.out) hb0;obtain⟨z00,z01,z02,z03,z04,z05,z06,z07⟩:=HBX.out _ hx0;clear hb0)
   go_ret;exact⟨ret_i64 (by rw[HR.out]),hq0⟩
  | true =>
   cases b1 with
   | false =>
    have HR:=hD (HR2.out rfl (by rfl));clear HR1 HR2 HR3;go_wp2_with (first|(go_at_call 50;(with_reducible refine(C0.out _ hq).mono ?_);rintro e y0 ⟨rfl,hb0⟩;have hq0:=Wa hq hb0;have hx0:=Wa (HB12.out) hb0;obtain⟨z00,z01,z02,z03,z04,z05,z06,z07⟩:=HBX.out _ hx0;clear hb0)|(go_at_call 51;(with_reducible refine(C1.out _ hq0).mono ?_);rintro e y1 ⟨rfl,hb1⟩;have hq1:=Wa hq0 hb1;have hx1:=Wa (hx0) hb1;obtain⟨z10,z11,z12,z13,z14,z15,z16,z17⟩:=HBX.out _ hx1;clear hb1))
    go_ret;exact⟨ret_i64 (by rw[HR.out]),hq1⟩
   | true =>
    cases b2 with
    | false =>
     have HR:=hD (HR2.out rfl (by rfl));clear HR1 HR2 HR3;go_wp2_with (first|(go_at_call 50;(with_reducible refine(C0.out _ hq).mono ?_);rintro e y0 ⟨rfl,hb0⟩;have hq0:=Wa hq hb0;have hx0:=Wa (HB12.out) hb0;obtain⟨z00,z01,z02,z03,z04,z05,z06,z07⟩:=HBX.out _ hx0;clear hb0)|(go_at_call 51;(with_reducible refine(C1.out _ hq0).mono ?_);rintro e y1 ⟨rfl,hb1⟩;have hq1:=Wa hq0 hb1;have hx1:=Wa (hx0) hb1;obtain⟨z10,z11,z12,z13,z14,z15,z16,z17⟩:=HBX.out _ hx1;clear hb1)|(go_at_call 52;(with_reducible refine(C2.out _ hq1).mono ?_);rintro e y2 ⟨rfl,hb2⟩;have hq2:=Wa hq1 hb2;have hx2:=Wa (hx1) hb2;obtain⟨z20,z21,z22,z23,z24,z25,z26,z27⟩:=HBX.out _ hx2;clear hb2))
     go_ret;exact⟨ret_i64 (by rw[HR.out]),hq2⟩
    | true =>
     cases b3 with
     | false =>
      have HR:=hD (HR2.out rfl (by rfl));clear HR1 HR2 HR3;go_wp2_with (first|(go_at_call 50;(with_reducible refine(C0.out _ hq).mono ?_);rintro e y0 ⟨rfl,hb0⟩;have hq0:=Wa hq hb0;have hx0:=Wa (HB12.out) hb0;obtain⟨z00,z01,z02,z03,z04,z05,z06,z07⟩:=HBX.out _ hx0;clear hb0)|(go_at_call 51;(with_reducible refine(C1.out _ hq0).mono ?_);rintro e y1 ⟨rfl,hb1⟩;have hq1:=Wa hq0 hb1;have hx1:=Wa (hx0) hb1;obtain⟨z10,z11,z12,z13,z14,z15,z16,z17⟩:=HBX.out _ hx1;clear hb1)|(go_at_call 52;(with_reducible refine(C2.out _ hq1).mono ?_);rintro e y2 ⟨rfl,hb2⟩;have hq2:=Wa hq1 hb2;have hx2:=Wa (hx1) hb2;obtain⟨z20,z21,z22,z23,z24,z25,z26,z27⟩:=HBX.out _ hx2;clear hb2)|(go_at_call 53;(with_reducible refine(C3.out _ hq2).mono ?_);rintro e y3 ⟨rfl,hb3⟩;have hq3:=Wa hq2 hb3;have hx3:=Wa (hx2) hb3;obtain⟨z30,z31,z32,z33,z34,z35,z36,z37⟩:=HBX.out _ hx3;clear hb3))
      go_ret;exact⟨ret_i64 (by rw[HR.out]),hq3⟩
     | true =>
      cases b4 with
      | false =>
       have HR:=hD (HR2.out rfl (by rfl));clear HR1 HR2 HR3;go_wp2_with (first|(go_at_call 50;(with_reducible refine(C0.out _ hq).mono ?_);rintro e y0 ⟨rfl,hb0⟩;have hq0:=Wa hq hb0;have hx0:=Wa (HB12.out) hb0;obtain⟨z00,z01,z02,z03,z04,z05,z06,z07⟩:=HBX.out _ hx0;clear hb0)|(go_at_call 51;(with_reducible refine(C1.out _ hq0).mono ?_);rintro e y1 ⟨rfl,hb1⟩;have hq1:=Wa hq0 hb1;have hx1:=Wa (hx0) hb1;obtain⟨z10,z11,z12,z13,z14,z15,z16,z17⟩:=HBX.out _ hx1;clear hb1)|(go_at_call 52;(with_reducible refine(C2.out _ hq1).mono ?_);rintro e y2 ⟨rfl,hb2⟩;have hq2:=Wa hq1 hb2;have hx2:=Wa (hx1) hb2;obtain⟨z20,z21,z22,z23,z24,z25,z26,z27⟩:=HBX.out _ hx2;clear hb2)|(go_at_call 53;(with_reducible refine(C3.out _ hq2).mono ?_);rintro e y3 ⟨rfl,hb3⟩;have hq3:=Wa hq2 hb3;have hx3:=Wa (hx2) hb3;obtain⟨z30,z31,z32,z33,z34,z35,z36,z37⟩:=HBX.out _ hx3;clear hb3)|(go_at_call 54;(with_reducible refine(C4.out _ hq3).mono ?_);rintro e y4 ⟨rfl,hb4⟩;have hq4:=Wa hq3 hb4;have hx4:=Wa (hx3) hb4;obtain⟨z40,z41,z42,z43,z44,z45,z46,z47⟩:=HBX.out _ hx4;clear hb4))
       go_ret;exact⟨ret_i64 (by rw[HR.out]),hq4⟩
      | true =>
       cases b5 with
       | false =>
        have HR:=hD (HR2.out rfl (by rfl));clear HR1 HR2 HR3;go_wp2_with (first|(go_at_call 50;(with_reducible refine(C0.out _ hq).mono ?_);rintro e y0 ⟨rfl,hb0⟩;have hq0:=Wa hq hb0;have hx0:=Wa (HB12.out) hb0;obtain⟨z00,z01,z02,z03,z04,z05,z06,z07⟩:=HBX.out _ hx0;clear hb0)|(go_at_call 51;(with_reducible refine(C1.out _ hq0).mono ?_);rintro e y1 ⟨rfl,hb1⟩;have hq1:=Wa hq0 hb1;have hx1:=Wa (hx0) hb1;obtain⟨z10,z11,z12,z13,z14,z15,z16,z17⟩:=HBX.out _ hx1;clear hb1)|(go_at_call 52;(with_reducible refine(C2.out _ hq1).mono ?_);rintro e y2 ⟨rfl,hb2⟩;have hq2:=Wa hq1 hb2;have hx2:=Wa (hx1) hb2;obtain⟨z20,z21,z22,z23,z24,z25,z26,z27⟩:=HBX.out _ hx2;clear hb2)|(go_at_call 53;(with_reducible refine(C3.out _ hq2).mono ?_);rintro e y3 ⟨rfl,hb3⟩;have hq3:=Wa hq2 hb3;have hx3:=Wa (hx2) hb3;obtain⟨z30,z31,z32,z33,z34,z35,z36,z37⟩:=HBX.out _ hx3;clear hb3)|(go_at_call 54;(with_reducible refine(C4.out _ hq3).mono ?_);rintro e y4 ⟨rfl,hb4⟩;have hq4:=Wa hq3 hb4;have hx4:=Wa (hx3) hb4;obtain⟨z40,z41,z42,z43,z44,z45,z46,z47⟩:=HBX.out _ hx4;clear hb4)|(go_at_call 55;(with_reducible refine(C5.out _ hq4).mono ?_);rintro e y5 ⟨rfl,hb5⟩;have hq5:=Wa hq4 hb5;have hx5:=Wa (hx4) hb5;obtain⟨z50,z51,z52,z53,z54,z55,z56,z57⟩:=HBX.out _ hx5;clear hb5))
        go_ret;exact⟨ret_i64 (by rw[HR.out]),hq5⟩
       | true =>
        cases b6 with
        | false =>
         have HR:=hD (HR2.out rfl (by rfl));clear HR1 HR2 HR3;go_wp2_with (first|(go_at_call 50;(with_reducible refine(C0.out _ hq).mono ?_);rintro e y0 ⟨rfl,hb0⟩;have hq0:=Wa hq hb0;have hx0:=Wa (HB12.out) hb0;obtain⟨z00,z01,z02,z03,z04,z05,z06,z07⟩:=HBX.out _ hx0;clear hb0)|(go_at_call 51;(with_reducible refine(C1.out _ hq0).mono ?_);rintro e y1 ⟨rfl,hb1⟩;have hq1:=Wa hq0 hb1;have hx1:=Wa (hx0) hb1;obtain⟨z10,z11,z12,z13,z14,z15,z16,z17⟩:=HBX.out _ hx1;clear hb1)|(go_at_call 52;(with_reducible refine(C2.out _ hq1).mono ?_);rintro e y2 ⟨rfl,hb2⟩;have hq2:=Wa hq1 hb2;have hx2:=Wa (hx1) hb2;obtain⟨z20,z21,z22,z23,z24,z25,z26,z27⟩:=HBX.out _ hx2;clear hb2)|(go_at_call 53;(with_reducible refine(C3.out _ hq2).mono ?_);rintro e y3 ⟨rfl,hb3⟩;have hq3:=Wa hq2 hb3;have hx3:=Wa (hx2) hb3;obtain⟨z30,z31,z32,z33,z34,z35,z36,z37⟩:=HBX.out _ hx3;clear hb3)|(go_at_call 54;(with_reducible refine(C4.out _ hq3).mono ?_);rintro e y4 ⟨rfl,hb4⟩;have hq4:=Wa hq3 hb4;have hx4:=Wa (hx3) hb4;obtain⟨z40,z41,z42,z43,z44,z45,z46,z47⟩:=HBX.out _ hx4;clear hb4)|(go_at_call 55;(with_reducible refine(C5.out _ hq4).mono ?_);rintro e y5 ⟨rfl,hb5⟩;have hq5:=Wa hq4 hb5;have hx5:=Wa (hx4) hb5;obtain⟨z50,z51,z52,z53,z54,z55,z56,z57⟩:=HBX.out _ hx5;clear hb5)|(go_at_call 56;(with_reducible refine(C6.out _ hq5).mono ?_);rintro e y6 ⟨rfl,hb6⟩;have hq6:=Wa hq5 hb6;have hx6:=Wa (hx5) hb6;obtain⟨z60,z61,z62,z63,z64,z65,z66,z67⟩:=HBX.out _ hx6;clear hb6))
         go_ret;exact⟨ret_i64 (by rw[HR.out]),hq6⟩
        | true =>
         cases b7 with
         | false =>
          have HR:=hD (HR2.out rfl (by rfl));exact Zw
         | true =>
          have HR:=hD (HR3.out rfl (by rfl));exact Zw
end
section
open Go.RowKit Go.ChangeShapes Go.WideShapes Go.Deep
set_option maxRecDepth 100000
theorem ZbD {P:Prop}(h:P:=by
 obtain⟨z2,e2,w2⟩:=WH (o:=2) Tryz.underlying3 Tryz.cells_int hxn (by decide) (hf 2 _ rfl);refine⟨(z0,z1,z2),fun i hi=>?_⟩
 match i,hi with
 | 0,_=>exact⟨_,e0,rfl⟩
 | 1,_=>exact⟨_,e1,rfl⟩
 | 2,_=>exact⟨_,e2,rfl⟩
 | _+3,h=>exact absurd h (by omega)):P:=h
theorem Uf {H:Type} {enc:TypeId×Value→H} {W:World} {n o:Nat} {t:TypeId} {cs:List Value} {xs:List (DataW H×List MemPlace)} {i m:Nat} (hc:Tryz.prog.cellsOf t=1) (hx:xs.length=m) (hi:i<m) (h:DataW.trod enc Tryz.prog W 0 (fun _=>true) true n t ((cs.drop o).take (Tryz.prog.cellsOf t))=xs[i]?) :
 ∃ y,xs[i]?=some y∧DataW.trod enc Tryz.prog W 0 (fun _=>true) true n t ((cs.drop o).take 1)=some y:=by
 obtain⟨y,hy⟩:=some_at hx hi;rw[hy,hc]at h;exact⟨y,hy,h⟩
theorem Vt {H:Type} {t tj:TypeId} {fs:Array Field} {y:DataW H×List MemPlace} {xs:List (DataW H×List MemPlace)} {ps:List MemPlace} {j:Nat} {z:DataW H×List MemPlace} (hf:Fits t y.1) (hu:Tryz.prog.underlying t=some (.struct fs)) (ht:(fs.toList.map (·.type))[j]?=some tj) (hy:y=(.agg (xs.map Prod.fst),ps)) (hz:xs[j]?=some z):Fits tj z.1:=by
 subst hy;exact fun n hn=>hf n (weights_field (j:=j) (d:=z.1) hu ht (by simp[hz]) hn)
theorem bool_of_trod {H:Type} {enc:TypeId×Value→H} {W:World} {n o:Nat} {t:TypeId} {cs:List Value} {xs:List (DataW H×List MemPlace)} {i m:Nat} (ht:Tryz.prog.underlying t=some .bool) (hc:Tryz.prog.cellsOf t=1) (hx:xs.length=m) (hi:i<m) (h:DataW.trod enc Tryz.prog W 0 (fun _=>true) true n t ((cs.drop o).take (Tryz.prog.cellsOf t))=xs[i]?):∃ z,cs[o]?=some (.bool z):=by
 obtain⟨y,_,hy⟩:=Uf hc hx hi h;obtain⟨z,hz,_⟩:=DataW.trod_bool ht hy;exact⟨z,VZ hz⟩
theorem str_of_trod {H:Type} {enc:TypeId×Value→H} {W:World} {n o:Nat} {t:TypeId} {cs:List Value} {xs:List (DataW H×List MemPlace)} {i m:Nat} (ht:Tryz.prog.underlying t=some .string) (hc:Tryz.prog.cellsOf t=1) (hx:xs.length=m) (hi:i<m) (h:DataW.trod enc Tryz.prog W 0 (fun _=>true) true n t ((cs.drop o).take (Tryz.prog.cellsOf t))=xs[i]?):∃ z,cs[o]?=some (.string z):=by
 obtain⟨y,_,hy⟩:=Uf hc hx hi h;obtain⟨z,hz,_⟩:=DataW.trod_string ht hy;exact⟨z,VZ hz⟩
theorem Tryz.cells_bool:Tryz.prog.cellsOf 4=1:=by kernel_rfl
theorem Tryz.cells_str:Tryz.prog.cellsOf 9=1:=by kernel_rfl
theorem Tryz.cells_u8:Tryz.prog.cellsOf 5=1:=by kernel_rfl
theorem Tryz.cells_bytes:Tryz.prog.cellsOf 57=1:=by kernel_rfl
theorem no_spot {W:World} {a:Addr} {u:Value} (c0:W.cell? (a.add 0)=some u):a.spot=none:=by
 have e:a.add 0=a:=by unfold Addr.add;simp
 exact ZcE
theorem bytes_of_trod {H:Type} {enc:TypeId×Value→H} {W:World} {n:Nat} {cs:List Value} {y:DataW H×List MemPlace} (h:DataW.trod enc Tryz.prog W 0 (fun _=>true) true n 57 cs=some y):∃ u l,cs=[u]∧WD (lt W) W u l:=by
 rcases open_ints Tryz.underlying57 Tryz.underlying5 Tryz.cells_u8 h with ⟨hcs,_⟩|⟨a,len,cap,zs,hcs,_,hl,hm,hz,hy,hcell,hwz⟩
 ·exact⟨_,[],hcs,WD.nil _ W⟩
 ·simp only[if_true]at hz;have hlen:((zs.take len).map Int.toNat).length=len:=by rw[List.length_map,List.length_take];omega
  have hb:∀ z ∈ zs,0≤z∧z≤255:=fun z hzm=>by
   have h1:=hwz z hzm;simp only[Lit.wf,Bool.and_eq_true,decide_eq_true_eq]at h1;exact h1
  refine⟨_,(zs.take len).map Int.toNat,hcs,some a,cap,by rw[hlen],by rw[hlen];omega,by rw[hlen];exact hl,(fun h=>by cases h),fun h0=>?_,fun b hbm=>?_⟩
  ·rw[hlen]at h0;have c0:=hcell 0 (by omega);have hspot:=no_spot c0;obtain⟨g,o,sp⟩:=a;obtain rfl:sp=none:=hspot;refine⟨g,o,rfl,show g<W.heap.size from wL W _ (by rw[Addr.add_lit]at c0;exact c0),fun j hj=>?_⟩;rw[hlen]at hj;have cj:=hcell j (by omega);rw[Addr.add_lit]at cj;have hjz:j<zs.length:=by omega
   have h1:=hb _ (List.getElem_mem hjz);rw[cj,List.getD_eq_getElem?_getD,List.getD_eq_getElem?_getD,List.getElem?_map,List.getElem?_take,if_pos hj,List.getElem?_eq_getElem hjz];simp only[Option.map_some,Option.getD_some];rw[Int.toNat_of_nonneg h1.1]
  ·obtain⟨z,hzm,rfl⟩:=List.mem_map.1 hbm;have:=hb z (List.mem_of_mem_take hzm);omega
theorem Vv {α H:Type} {enc:TypeId×Value→H} {W:World} {ts e:TypeId} {size:Nat} {cf:α→Nat→Value→Prop} (hu:Tryz.prog.underlying ts=some (.slice e)) (hc:Tryz.prog.cellsOf e=size) (hs:0<size) (hby:1≤Tryz.prog.bytesOf e) (d:α)
 (hopen:∀ n cs y,DataW.trod enc Tryz.prog W 0 (fun _=>true) true n e cs=some y→Fits e y.1→∃ x,∀ i,i<size→∃ u,cs[i]?=some u∧cf x i u) {n:Nat} {cs:List Value} {y:DataW H×List MemPlace}
 (h:DataW.trod enc Tryz.prog W 0 (fun _=>true) true n ts cs=some y) (hz:Fits ts y.1):∃ (u:Value) (l:List α),cs=[u]∧Wb (lt W) W u l.length size (fun j i u=>cf (l.getD j d) i u)∧l.length≤281474976710656:=by
 rcases open_slice hu h with ⟨hcs,_⟩|⟨a,len,cap,m,n1,D,Pl,hcs,_,hl,hm,hmm,hx,hi⟩
 ·exact⟨_,[],hcs,⟨none,0,rfl,nR _,nZ _,fun _=>rfl,fun h=>by simp at h⟩,nZ _⟩
 ·simp only[if_true]at hmm;subst hmm;rw[hc]at hi;obtain⟨l,h1,h2⟩:=lst_of d (fun i x=>∀ j,j<size→∃ u,W.cell? (a.add (i * size+j))=some u∧cf x j u) len fun i hlt=>by
   obtain⟨cs',hcc,ht⟩:=hi i (by omega);obtain⟨x,ht2⟩:=hopen _ _ _ ht fun n hn=>hz n (by
    rw[hx];simp only[DataW.weights,hu];exact List.mem_cons_of_mem _ (List.mem_append.2 (.inl (weights_all (List.mem_map.2 ⟨i,List.mem_range.2 hlt,rfl⟩) n hn))))
   obtain⟨_,hcl,hat⟩:=World.cells?_some hcc;exact⟨x,fun j hj=>by
    obtain⟨u,h3,h4⟩:=ht2 j hj;exact⟨u,by rw[← Go.Deep.add_add,hat j hj,h3],h4⟩⟩
  have hlen:len≤281474976710656:=by
   have h9:=hz _ (by rw[hx];simp only[DataW.weights,hu];exact List.mem_cons_self ..);simp only[List.length_map,List.length_range]at h9;have h8:(len+(m - len)) * 1≤(len+(m - len)) * Tryz.prog.bytesOf e:=Nat.mul_le_mul_left _ hby;unfold reachBytes at h9;omega
  refine⟨_,l,hcs,⟨some a,m,by rw[h1],by omega,hm,(fun h=>by cases h),fun h0=>?_⟩,by omega⟩;rw[h1]at h0;obtain⟨u0,c0,_⟩:=h2 0 h0 0 hs;rw[Nat.zero_mul,Nat.zero_add]at c0;have hspot:=no_spot c0;exact ZbE
theorem inst_of_trod {H:Type} {enc:TypeId×Value→H} {W:World} (n:Nat) (cs:List Value) (y:DataW H×List MemPlace) (h:DataW.trod enc Tryz.prog W 0 (fun _=>true) true n 26 cs=some y) (hfy:Fits 26 y.1):∃ x,∀ i,i<5→∃ u,cs[i]?=some u∧WN (lt W) W x i u:=by
 obtain⟨xs,n1,_,hy,hl,hx,hf⟩:=DataW.trod_struct Tryz.underlying26 h;have hxn:xs.length=5:=hx;obtain⟨z0,e0,w0⟩:=WH (o:=0) Tryz.underlying3 Tryz.cells_int hxn (by decide) (hf 0 _ rfl);obtain⟨z1,e1,w1⟩:=WH (o:=1) Tryz.underlying3 Tryz.cells_int hxn (by decide) (hf 1 _ rfl);obtain⟨z2,e2,w2⟩:=WH (o:=2) Tryz.underlying3 Tryz.cells_int hxn (by decide) (hf 2 _ rfl);obtain⟨z3,e3,w3⟩:=WH (o:=3) Tryz.underlying24 Tryz.cells_u64 hxn (by decide) (hf 3 _ rfl);obtain⟨y4,k4,t4⟩:=Uf (o:=4) Tryz.cells_ints hxn (by decide) (hf 4 _ rfl);obtain⟨u4,z4,c4,L4,F4⟩:=UO t4;have G4:=F4 (Vt hfy Tryz.underlying26 rfl hy k4);have e4:=VZ c4;refine⟨⟨z0,z1,z2,z3,z4⟩,fun i hi=>?_⟩
 match i,hi with
 | 0,_=>exact⟨_,e0,rfl⟩
 | 1,_=>exact⟨_,e1,rfl⟩
 | 2,_=>exact⟨_,e2,rfl⟩
 | 3,_=>exact⟨_,e3,⟨rfl,word_wf w3⟩⟩
 | 4,_=>exact⟨_,e4,⟨L4,G4⟩⟩
 | _+5,h=>exact absurd h (by omega)
theorem Tryz.cells_code:Tryz.prog.cellsOf 62=1:=by kernel_rfl
theorem typ_of_trod {H:Type} {enc:TypeId×Value→H} {W:World} (n:Nat) (cs:List Value) (y:DataW H×List MemPlace) (h:DataW.trod enc Tryz.prog W 0 (fun _=>true) true n 68 cs=some y) (hfy:Fits 68 y.1):∃ x,∀ i,i<2→∃ u,cs[i]?=some u∧Ve (lt W) W x i u:=by
 obtain⟨xs,n1,_,hy,hl,hx,hf⟩:=DataW.trod_struct Tryz.underlying68 h;have hxn:xs.length=2:=hx;obtain⟨y0,k0,t0⟩:=Uf (o:=0) Tryz.cells_ints hxn (by decide) (hf 0 _ rfl);obtain⟨u0,z0,c0,L0,F0⟩:=UO t0;have G0:=F0 (Vt hfy Tryz.underlying68 rfl hy k0);have e0:=VZ c0;obtain⟨y1,k1,t1⟩:=Uf (o:=1) Tryz.cells_ints hxn (by decide) (hf 1 _ rfl);obtain⟨u1,z1,c1,L1,F1⟩:=UO t1;have G1:=F1 (Vt hfy Tryz.underlying68 rfl hy k1);have e1:=VZ c1;refine⟨(z0,z1),fun i hi=>?_⟩
 match i,hi with
 | 0,_=>exact⟨_,e0,L0⟩
 | 1,_=>exact⟨_,e1,L1⟩
 | _+2,h=>exact absurd h (by omega)
theorem imp_of_trod {H:Type} {enc:TypeId×Value→H} {W:World} (n:Nat) (cs:List Value) (y:DataW H×List MemPlace) (h:DataW.trod enc Tryz.prog W 0 (fun _=>true) true n 51 cs=some y) (_:Fits 51 y.1):∃ x,∀ i,i<3→∃ u,cs[i]?=some u∧UR x i u:=by
 obtain⟨xs,n1,_,hy,hl,hx,hf⟩:=DataW.trod_struct Tryz.underlying51 h;have hxn:xs.length=3:=hx;obtain⟨z0,e0⟩:=str_of_trod (o:=0) Tryz.underlying9 Tryz.cells_str hxn (by decide) (hf 0 _ rfl);obtain⟨z1,e1⟩:=str_of_trod (o:=1) Tryz.underlying9 Tryz.cells_str hxn (by decide) (hf 1 _ rfl);exact ZbD
theorem fnc_of_trod {H:Type} {enc:TypeId×Value→H} {W:World} (n:Nat) (cs:List Value) (y:DataW H×List MemPlace) (h:DataW.trod enc Tryz.prog W 0 (fun _=>true) true n 64 cs=some y) (hfy:Fits 64 y.1):∃ x,∀ i,i<3→∃ u,cs[i]?=some u∧WP (lt W) W x i u:=by
 obtain⟨xs,n1,_,hy,hl,hx,hf⟩:=DataW.trod_struct Tryz.underlying64 h;have hxn:xs.length=3:=hx;obtain⟨z0,e0,w0⟩:=WH (o:=0) Tryz.underlying3 Tryz.cells_int hxn (by decide) (hf 0 _ rfl);obtain⟨y1,k1,t1⟩:=Uf (o:=1) Tryz.cells_ints hxn (by decide) (hf 1 _ rfl);obtain⟨u1,z1,c1,L1,F1⟩:=UO t1;have G1:=F1 (Vt hfy Tryz.underlying64 rfl hy k1);have e1:=VZ c1;obtain⟨y2,k2,t2⟩:=Uf (o:=2) Tryz.cells_code hxn (by decide) (hf 2 _ rfl);obtain⟨u2,z2,c2,L2,_⟩:=Vv Tryz.underlying62 Tryz.cells_inst (by decide) (by decide +kernel) VX inst_of_trod t2 (Vt hfy Tryz.underlying64 rfl hy k2);have e2:=VZ c2;refine⟨⟨z0,z1,z2⟩,fun i hi=>?_⟩
 match i,hi with
 | 0,_=>exact⟨_,e0,rfl⟩
 | 1,_=>exact⟨_,e1,L1⟩
 | 2,_=>exact⟨_,e2,L2⟩
 | _+3,h=>exact absurd h (by omega)
theorem mem_of_trod {H:Type} {enc:TypeId×Value→H} {W:World} (n:Nat) (cs:List Value) (y:DataW H×List MemPlace) (h:DataW.trod enc Tryz.prog W 0 (fun _=>true) true n 56 cs=some y) (_:Fits 56 y.1):∃ x,∀ i,i<2→∃ u,cs[i]?=some u∧memCell x i u:=by
 obtain⟨xs,n1,_,hy,hl,hx,hf⟩:=DataW.trod_struct Tryz.underlying56 h;have hxn:xs.length=2:=hx;obtain⟨z0,e0,w0⟩:=WH (o:=0) Tryz.underlying3 Tryz.cells_int hxn (by decide) (hf 0 _ rfl);obtain⟨z1,e1,w1⟩:=WH (o:=1) Tryz.underlying3 Tryz.cells_int hxn (by decide) (hf 1 _ rfl);refine⟨(z0,z1),fun i hi=>?_⟩
 match i,hi with
 | 0,_=>exact⟨_,e0,rfl⟩
 | 1,_=>exact⟨_,e1,rfl⟩
 | _+2,h=>exact absurd h (by omega)
theorem glob_of_trod {H:Type} {enc:TypeId×Value→H} {W:World} (n:Nat) (cs:List Value) (y:DataW H×List MemPlace) (h:DataW.trod enc Tryz.prog W 0 (fun _=>true) true n 53 cs=some y) (_:Fits 53 y.1):∃ x,∀ i,i<3→∃ u,cs[i]?=some u∧Ua x i u:=by
 obtain⟨xs,n1,_,hy,hl,hx,hf⟩:=DataW.trod_struct Tryz.underlying53 h;have hxn:xs.length=3:=hx;obtain⟨z0,e0,w0⟩:=WH (o:=0) Tryz.underlying3 Tryz.cells_int hxn (by decide) (hf 0 _ rfl);obtain⟨z1,e1⟩:=bool_of_trod (o:=1) Tryz.underlying4 Tryz.cells_bool hxn (by decide) (hf 1 _ rfl);obtain⟨z2,e2,w2⟩:=WH (o:=2) Tryz.underlying24 Tryz.cells_u64 hxn (by decide) (hf 2 _ rfl);refine⟨(z0,z1,z2),fun i hi=>?_⟩
 match i,hi with
 | 0,_=>exact⟨_,e0,rfl⟩
 | 1,_=>exact⟨_,e1,rfl⟩
 | 2,_=>exact⟨_,e2,⟨rfl,word_wf w2⟩⟩
 | _+3,h=>exact absurd h (by omega)
theorem exp_of_trod {H:Type} {enc:TypeId×Value→H} {W:World} (n:Nat) (cs:List Value) (y:DataW H×List MemPlace) (h:DataW.trod enc Tryz.prog W 0 (fun _=>true) true n 61 cs=some y) (_:Fits 61 y.1):∃ x,∀ i,i<3→∃ u,cs[i]?=some u∧expCell x i u:=by
 obtain⟨xs,n1,_,hy,hl,hx,hf⟩:=DataW.trod_struct Tryz.underlying61 h;have hxn:xs.length=3:=hx;obtain⟨z0,e0⟩:=str_of_trod (o:=0) Tryz.underlying9 Tryz.cells_str hxn (by decide) (hf 0 _ rfl);obtain⟨z1,e1,w1⟩:=WH (o:=1) Tryz.underlying3 Tryz.cells_int hxn (by decide) (hf 1 _ rfl);exact ZbD
theorem dat_of_trod {H:Type} {enc:TypeId×Value→H} {W:World} (n:Nat) (cs:List Value) (y:DataW H×List MemPlace) (h:DataW.trod enc Tryz.prog W 0 (fun _=>true) true n 59 cs=some y) (_:Fits 59 y.1):∃ x,∀ i,i<4→∃ u,cs[i]?=some u∧Vi (lt W) W x i u:=by
 obtain⟨xs,n1,_,hy,hl,hx,hf⟩:=DataW.trod_struct Tryz.underlying59 h;have hxn:xs.length=4:=hx;obtain⟨z0,e0⟩:=bool_of_trod (o:=0) Tryz.underlying4 Tryz.cells_bool hxn (by decide) (hf 0 _ rfl);obtain⟨z1,e1,w1⟩:=WH (o:=1) Tryz.underlying3 Tryz.cells_int hxn (by decide) (hf 1 _ rfl);obtain⟨z2,e2,w2⟩:=WH (o:=2) Tryz.underlying3 Tryz.cells_int hxn (by decide) (hf 2 _ rfl);obtain⟨y3,k3,t3⟩:=Uf (o:=3) Tryz.cells_bytes hxn (by decide) (hf 3 _ rfl);obtain⟨u3,z3,c3,L3⟩:=bytes_of_trod t3;have e3:=VZ c3;refine⟨⟨z0,z1,z2,z3⟩,fun i hi=>?_⟩
 match i,hi with
 | 0,_=>exact⟨_,e0,rfl⟩
 | 1,_=>exact⟨_,e1,rfl⟩
 | 2,_=>exact⟨_,e2,rfl⟩
 | 3,_=>exact⟨_,e3,L3⟩
 | _+4,h=>exact absurd h (by omega)
theorem cus_of_trod {H:Type} {enc:TypeId×Value→H} {W:World} (n:Nat) (cs:List Value) (y:DataW H×List MemPlace) (h:DataW.trod enc Tryz.prog W 0 (fun _=>true) true n 115 cs=some y) (_:Fits 115 y.1):∃ x,∀ i,i<2→∃ u,cs[i]?=some u∧Vk (lt W) W x i u:=by
 obtain⟨xs,n1,_,hy,hl,hx,hf⟩:=DataW.trod_struct Tryz.underlying115 h;have hxn:xs.length=2:=hx;obtain⟨z0,e0⟩:=str_of_trod (o:=0) Tryz.underlying9 Tryz.cells_str hxn (by decide) (hf 0 _ rfl);obtain⟨y1,k1,t1⟩:=Uf (o:=1) Tryz.cells_bytes hxn (by decide) (hf 1 _ rfl);obtain⟨u1,z1,c1,L1⟩:=bytes_of_trod t1;have e1:=VZ c1;refine⟨(z0,z1),fun i hi=>?_⟩
 match i,hi with
 | 0,_=>exact⟨_,e0,rfl⟩
 | 1,_=>exact⟨_,e1,L1⟩
 | _+2,h=>exact absurd h (by omega)
theorem Tryz.cellsS_typ:Tryz.prog.cellsOf 27=1:=by kernel_rfl
theorem Tryz.cellsE_typ:Tryz.prog.cellsOf 68=2:=by kernel_rfl
theorem Tryz.cellsS_imp:Tryz.prog.cellsOf 28=1:=by kernel_rfl
theorem Tryz.cellsE_imp:Tryz.prog.cellsOf 51=3:=by kernel_rfl
theorem Tryz.cellsS_fnc:Tryz.prog.cellsOf 29=1:=by kernel_rfl
theorem Tryz.cellsE_fnc:Tryz.prog.cellsOf 64=3:=by kernel_rfl
theorem Tryz.cellsS_mem:Tryz.prog.cellsOf 30=1:=by kernel_rfl
theorem Tryz.cellsE_mem:Tryz.prog.cellsOf 56=2:=by kernel_rfl
theorem Tryz.cellsS_glob:Tryz.prog.cellsOf 31=1:=by kernel_rfl
theorem Tryz.cellsE_glob:Tryz.prog.cellsOf 53=3:=by kernel_rfl
theorem Tryz.cellsS_exp:Tryz.prog.cellsOf 32=1:=by kernel_rfl
theorem Tryz.cellsE_exp:Tryz.prog.cellsOf 61=3:=by kernel_rfl
theorem Tryz.cellsS_dat:Tryz.prog.cellsOf 33=1:=by kernel_rfl
theorem Tryz.cellsE_dat:Tryz.prog.cellsOf 59=4:=by kernel_rfl
theorem Tryz.cellsS_cus:Tryz.prog.cellsOf 34=1:=by kernel_rfl
theorem Tryz.cellsE_cus:Tryz.prog.cellsOf 115=2:=by kernel_rfl
theorem agg_of {P:Program} {W:World} {r:Reach} {b0:Nat} {t:TypeId} {fs:Array Field} {v:Value} (hu:P.underlying t=some (.struct fs)) (h:Value.okWide P W r b0 t v):∃ cs,v=.agg cs:=by
 unfold Value.okWide at h;rw[hu]at h;obtain⟨cs,rfl,_⟩:=h;exact⟨cs,rfl⟩
theorem okWide_size {P:Program} {W:World} {r:Reach} {b0:Nat} {t:TypeId} {fs:Array Field} {cs:Array Value} (hu:P.underlying t=some (.struct fs)) (h:Value.okWide P W r b0 t (.agg cs)):cs.size=P.cellsOf t:=by
 unfold Value.okWide at h;rw[hu]at h;obtain⟨cs',h1,h2,_⟩:=h;cases h1
 exact h2
theorem open_inst {H:Type} {enc:TypeId×Value→H} {W:World} {r:Reach} {b0:Nat} {v:Value} {d:DataW H} {ps:List MemPlace} (hval:Value.okWide Tryz.prog W r b0 26 v)
 (h:DataW.Trod enc Tryz.prog W 0 (fun _=>true) true 26 v d ps) (hz:Fits 26 d):∃ (x:Ins) (Lv:Value),v=.agg #[.int .i64 x.op,.int .i64 x.a,.int .i64 x.b,.int .u64 x.n,Lv]∧Wh (fun k=>k<W.heap.size) W Lv x.l∧0≤x.n∧x.n≤18446744073709551615:=by
 obtain⟨cs,rfl⟩:=agg_of Tryz.underlying26 hval;have hs:=okWide_size Tryz.underlying26 hval;rw[Tryz.cells_inst]at hs;obtain⟨fuel,hf⟩:=h;obtain⟨x,hx⟩:=inst_of_trod _ _ _ hf hz;obtain⟨u0,e0,rfl⟩:=hx 0 (by decide);obtain⟨u1,e1,rfl⟩:=hx 1 (by decide);obtain⟨u2,e2,rfl⟩:=hx 2 (by decide);obtain⟨u3,e3,rfl,hw⟩:=hx 3 (by decide);obtain⟨u4,e4,hL⟩:=hx 4 (by decide);refine⟨x,u4,?_,hL.1,hw⟩;obtain⟨l⟩:=cs;simp only[Value.cells]at e0 e1 e2 e3 e4;simp at hs;obtain⟨a,b,c,d,e,rfl⟩:∃ a b c d e,l=[a,b,c,d,e]:=match l,hs with|[a,b,c,d,e],_=>⟨a,b,c,d,e,rfl⟩
 simp only[List.getElem?_cons_zero,List.getElem?_cons_succ,Option.some.injEq]at e0 e1 e2 e3 e4;rw[e0,e1,e2,e3,e4]
theorem open_module {H:Type} {enc:TypeId×Value→H} {W:World} {r:Reach} {b0:Nat} {v:Value} {d:DataW H} {ps:List MemPlace} (hval:Value.okWide Tryz.prog W r b0 36 v)
 (h:DataW.Trod enc Tryz.prog W 0 (fun _=>true) true 36 v d ps) (hz:Fits 36 d):∃ (v':Mv) (m:Vz),v=.agg v'.cells∧WL (fun k=>k<W.heap.size) W v' m∧Few m:=by
 obtain⟨cs,rfl⟩:=agg_of Tryz.underlying36 hval;have hs:=okWide_size Tryz.underlying36 hval;rw[show Tryz.prog.cellsOf 36=8 by kernel_rfl]at hs;obtain⟨fuel,hf⟩:=h;obtain⟨xs,n1,_,hy,hl,hx,hg⟩:=DataW.trod_struct Tryz.underlying36 hf;have hxn:xs.length=8:=hx;obtain⟨y0,k0,t0⟩:=Uf (o:=0) Tryz.cellsS_typ hxn (by decide) (hg 0 _ rfl);obtain⟨u0,z0,c0,L0,B0⟩:=Vv Tryz.underlying27 Tryz.cellsE_typ (by decide) (by decide +kernel) ([],[]) typ_of_trod t0 (Vt hz Tryz.underlying36 rfl hy k0);have e0:=VZ c0;obtain⟨y1,k1,t1⟩:=Uf (o:=1) Tryz.cellsS_imp hxn (by decide) (hg 1 _ rfl);obtain⟨u1,z1,c1,L1,B1⟩:=Vv Tryz.underlying28 Tryz.cellsE_imp (by decide) (by decide +kernel) (ByteArray.empty,ByteArray.empty,0) imp_of_trod t1 (Vt hz Tryz.underlying36 rfl hy k1);have e1:=VZ c1;obtain⟨y2,k2,t2⟩:=Uf (o:=2) Tryz.cellsS_fnc hxn (by decide) (hg 2 _ rfl);obtain⟨u2,z2,c2,L2,B2⟩:=Vv Tryz.underlying29 Tryz.cellsE_fnc (by decide) (by decide +kernel) WW fnc_of_trod t2 (Vt hz Tryz.underlying36 rfl hy k2);have e2:=VZ c2;obtain⟨y3,k3,t3⟩:=Uf (o:=3) Tryz.cellsS_mem hxn (by decide) (hg 3 _ rfl);obtain⟨u3,z3,c3,L3,B3⟩:=Vv Tryz.underlying30 Tryz.cellsE_mem (by decide) (by decide +kernel) (0,0) mem_of_trod t3 (Vt hz Tryz.underlying36 rfl hy k3);have e3:=VZ c3;obtain⟨y4,k4,t4⟩:=Uf (o:=4) Tryz.cellsS_glob hxn (by decide) (hg 4 _ rfl);obtain⟨u4,z4,c4,L4,B4⟩:=Vv Tryz.underlying31 Tryz.cellsE_glob (by decide) (by decide +kernel) (0,false,0) glob_of_trod t4 (Vt hz Tryz.underlying36 rfl hy k4);have e4:=VZ c4;obtain⟨y5,k5,t5⟩:=Uf (o:=5) Tryz.cellsS_exp hxn (by decide) (hg 5 _ rfl);obtain⟨u5,z5,c5,L5,B5⟩:=Vv Tryz.underlying32 Tryz.cellsE_exp (by decide) (by decide +kernel) (ByteArray.empty,0,0) exp_of_trod t5 (Vt hz Tryz.underlying36 rfl hy k5);have e5:=VZ c5;obtain⟨y6,k6,t6⟩:=Uf (o:=6) Tryz.cellsS_dat hxn (by decide) (hg 6 _ rfl);obtain⟨u6,z6,c6,L6,B6⟩:=Vv Tryz.underlying33 Tryz.cellsE_dat (by decide) (by decide +kernel) VC dat_of_trod t6 (Vt hz Tryz.underlying36 rfl hy k6);have e6:=VZ c6;obtain⟨y7,k7,t7⟩:=Uf (o:=7) Tryz.cellsS_cus hxn (by decide) (hg 7 _ rfl);obtain⟨u7,z7,c7,L7,B7⟩:=Vv Tryz.underlying34 Tryz.cellsE_cus (by decide) (by decide +kernel) (ByteArray.empty,[]) cus_of_trod t7 (Vt hz Tryz.underlying36 rfl hy k7);have e7:=VZ c7;refine⟨⟨u0,u1,u2,u3,u4,u5,u6,u7⟩,⟨z0,z1,z2,z3,z4,z5,z6,z7⟩,?_,⟨L0,L1,L2,L3,L4,L5,L6,L7⟩,B0,B1,B2,B3,B4,B5,B6,B7⟩;obtain⟨l⟩:=cs;simp only[Value.cells]at e0 e1 e2 e3 e4 e5 e6 e7;simp at hs;obtain⟨a,b,c,d,e,f,g,h,rfl⟩:∃ a b c d e f g h,l=[a,b,c,d,e,f,g,h]:=match l,hs with|[a,b,c,d,e,f,g,h],_=>⟨a,b,c,d,e,f,g,h,rfl⟩
 simp only[List.getElem?_cons_zero,List.getElem?_cons_succ,Option.some.injEq]at e0 e1 e2 e3 e4 e5 e6 e7;rw[e0,e1,e2,e3,e4,e5,e6,e7];rfl
end
end Go.Proofs.YtgmgcadlkebokaaGreatDoor
