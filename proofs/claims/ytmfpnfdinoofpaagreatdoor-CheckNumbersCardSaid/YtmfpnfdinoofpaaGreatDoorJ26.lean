/- A part of the proof. -/
import Derived.Test.YtmfpnfdinoofpaaGreatDoorJ22
import Derived.Test.YtmfpnfdinoofpaaGreatDoorJ20
namespace Go.Proofs.YtmfpnfdinoofpaaGreatDoor
section
open Go.RowKit
set_option maxHeartbeats 4000000
set_option maxRecDepth 100000
theorem Zv {P:Prop}(h:P:=by
 clear HR1 HR2 HR3;go_wp2_with (first|(go_at_call 63;(with_reducible refine(C0.out _ hq).mono ?_);rintro e y0 ⟨rfl,hb0⟩;have hq0:=Wa hq hb0;have hx0:=Wa (HB12.out) hb0;obtain⟨z00,z01,z02,z03,z04,z05,z06,z07⟩:=HBX.out _ hx0;clear hb0)|(go_at_call 64;(with_reducible refine(C1.out _ hq0).mono ?_);rintro e y1 ⟨rfl,hb1⟩;have hq1:=Wa hq0 hb1;have hx1:=Wa (hx0) hb1;obtain⟨z10,z11,z12,z13,z14,z15,z16,z17⟩:=HBX.out _ hx1;clear hb1)|(go_at_call 65;(with_reducible refine(C2.out _ hq1).mono ?_);rintro e y2 ⟨rfl,hb2⟩;have hq2:=Wa hq1 hb2;have hx2:=Wa (hx1) hb2;obtain⟨z20,z21,z22,z23,z24,z25,z26,z27⟩:=HBX.out _ hx2;clear hb2)|(go_at_call 66;(with_reducible refine(C3.out _ hq2).mono ?_);rintro e y3 ⟨rfl,hb3⟩;have hq3:=Wa hq2 hb3;have hx3:=Wa (hx2) hb3;obtain⟨z30,z31,z32,z33,z34,z35,z36,z37⟩:=HBX.out _ hx3;clear hb3)|(go_at_call 67;(with_reducible refine(C4.out _ hq3).mono ?_);rintro e y4 ⟨rfl,hb4⟩;have hq4:=Wa hq3 hb4;have hx4:=Wa (hx3) hb4;obtain⟨z40,z41,z42,z43,z44,z45,z46,z47⟩:=HBX.out _ hx4;clear hb4)|(go_at_call 68;(with_reducible refine(C5.out _ hq4).mono ?_);rintro e y5 ⟨rfl,hb5⟩;have hq5:=Wa hq4 hb5;have hx5:=Wa (hx4) hb5;obtain⟨z50,z51,z52,z53,z54,z55,z56,z57⟩:=HBX.out _ hx5;clear hb5)|(go_at_call 69;(with_reducible refine(C6.out _ hq5).mono ?_);rintro e y6 ⟨rfl,hb6⟩;have hq6:=Wa hq5 hb6;have hx6:=Wa (hx5) hb6;obtain⟨z60,z61,z62,z63,z64,z65,z66,z67⟩:=HBX.out _ hx6;clear hb6)|(go_at_call 70;(with_reducible refine(C7.out _ hq6).mono ?_);rintro e y7 ⟨rfl,hb7⟩;have hq7:=Wa hq6 hb7;have hx7:=Wa (hx6) hb7;obtain⟨z70,z71,z72,z73,z74,z75,z76,z77⟩:=HBX.out _ hx7;clear hb7))
 go_ret;exact⟨Vd (by rw[HR.out]),hq7⟩):P:=h
theorem ZD {P:Prop}(h:P:=by
 clear w0 w1 w2 w3 w4 w5 w6 w7;try clear h0
 try clear h1
 try clear h2
 try clear h3
 try clear h4
 try clear h5
 try clear h6
 go_enter Tryz.func62,Tryz.ntmps62;go_wp2;go_ret;exact⟨WV (by rfl),(bR _ _).alloc (nR _) _⟩):P:=h
theorem Zcd {P:Prop}(h:P:=by
 have h9:∀ i,wz.cell? ⟨w0.heap.size,i,none⟩=(#[.string x1,.int .i64 x2,.int .i64 x3]:Array Value)[i]?:=fun i=>(hb.cell (p:=⟨w0.heap.size,i,none⟩) (by simp)).trans (wN w0 _ _ i);exact⟨h9 0,h9 1,h9 2⟩):P:=h
theorem ZcD {P:Prop}(h:P:=by
 simp only[Bool.and_true,Bool.and_false,Bool.false_and];exact ZD):P:=h
theorem exAt_one {l:List (ByteArray×Int×Int)} {k:Nat} (h:exOneB (l.getD k exD)=false):exAtB l k=false:=by unfold exAtB;rw[h];rfl
theorem exAt_old {l:List (ByteArray×Int×Int)} {k j:Nat} (hj:j<k) (h:VR (l.getD j exD).1=VR (l.getD k exD).1):exAtB l k=false:=by
 unfold exAtB;rw[range_no hj (by simpa using h)];simp
theorem exAt_new {l:List (ByteArray×Int×Int)} {k:Nat} (h:exOneB (l.getD k exD)=true) (hn:∀ j,j<k→VR (l.getD j exD).1≠VR (l.getD k exD).1):exAtB l k=true:=by
 unfold exAtB;rw[h,range_yes (fun j hj=>by simpa using hn j hj)];rfl
theorem exs_no {l:List (ByteArray×Int×Int)} {k n:Nat} (hn:l.length=n) (hk:k<n) (h:exAtB l k=false):exsB l=false:=by unfold exsB;rw[hn];exact range_no hk h
theorem exs_yes {l:List (ByteArray×Int×Int)} {n:Nat} (hn:l.length=n) (h:∀ k,k<n→exAtB l k=true):exsB l=true:=by unfold exsB;rw[hn];exact range_yes h
theorem rexports_any (K:Nat→Prop) (w:World) (hK:∀ k,K k→k<w.heap.size) (ht:Tab w) (v:Value) (l:List (ByteArray×Int×Int)) (h:ExpsK K w v l):Calls Tryz.prog 68 #[v] w (Wh (exsB l) w):=by
 obtain⟨A,c,hv,hnc,hcm⟩:=Wd.form h;have H:=hD (Wd.keep (K':=fun k=>k<w.heap.size) h (.refl _ _) hK (fun _ _ _ h=>h));rw[hv]at H ⊢;clear h hv;unfold maxLen at hcm;obtain⟨n,hn⟩:∃ n,l.length=n:=⟨_,rfl⟩;have HN:=hD hn;rw[hn]at H hnc ⊢;clear hn;have HT:=hD ht;clear ht;go_enter Tryz.func68,Tryz.ntmps68;go_wp2_with fail
 go_loopw [9] (fun i wr=>∃ k:Nat,k≤n∧i=.int .i64 (k:Int)∧Hid (Below w.heap.size w wr)∧Hid (∀ j,j<k→exAtB l j=true)) (fun i _=>n - (intOf i).toNat)
 case atStart=>exact⟨0,nZ _,rfl,hD (bR _ _),hD fun _ h=>absurd h (Nat.not_lt_zero _)⟩
 case round =>
  obtain⟨w0,rfl⟩:∃ w0,w0=wr:=⟨_,rfl⟩;obtain⟨k,hk,rfl,HB,HA⟩:=hrel;by_cases hlt:k<n
  ·have hd:decide ((k:Int)<(n:Int))=true:=by simp;omega
   obtain⟨g,o,c',he,_,_⟩:=Wd.some_ H.out (by first|omega|(rw[HN.out];omega));simp only[vI]at he;obtain⟨rfl,-,rfl⟩:=he;have HAT:=hD (fun wz (hb:Below w.heap.size w wz)=>Wd.keep (K':=fun k=>k<wz.heap.size) H.out (We.below hb fun _ hk=>hk) (fun _ hk=>Ve hk hb.size) (fun _ _ _ h=>h));have HAC:=hD (fun (wz:World) (hb:Below w.heap.size w wz) (j:Nat) (hj:j<n)=>(show ∃ y:ByteArray×Int×Int,l.getD j exD=y∧wz.cell? ⟨g,o+j * 3,none⟩=some (.string y.1)∧wz.cell? ⟨g,o+j * 3+1,none⟩=some (.int .i64 y.2.1)∧wz.cell? ⟨g,o+j * 3+2,none⟩=some (.int .i64 y.2.2) from by
    have hAT:=HAT.out wz hb;obtain⟨u0,k0,h0⟩:=Wd.at_ hAT j 0 (by first|exact hj|(rw[HN.out];exact hj)) (by decide);obtain⟨u1,k1,h1⟩:=Wd.at_ hAT j 1 (by first|exact hj|(rw[HN.out];exact hj)) (by decide);obtain⟨u2,k2,h2⟩:=Wd.at_ hAT j 2 (by first|exact hj|(rw[HN.out];exact hj)) (by decide);obtain rfl:u0=.string (l.getD j exD).1:=h0;obtain rfl:u1=.int .i64 (l.getD j exD).2.1:=h1;obtain rfl:u2=.int .i64 (l.getD j exD).2.2:=h2;exact⟨_,rfl,k0,k1,k2⟩))
   obtain⟨x,hx,k0,k1,k2⟩:=HAC.out w0 HB.out k hlt;have HNO:=hD (fun (h:exOneB x=false)=>exs_no HN.out hlt (exAt_one (by rw[hx];exact h)));have HOL:=hD (fun (j:Nat) (hj:j<k) (y:ByteArray×Int×Int) (hy:l.getD j exD=y) (h:VR y.1=VR x.1)=>exs_no HN.out hlt (exAt_old hj (by rw[hy,hx];exact h)));have HYE:=hD (fun (h:exOneB x=true) (hn:∀ j,j<k→VR (l.getD j exD).1≠VR x.1) (i:Nat) (hi:i<k+1)=>(show exAtB l i=true from by
    rcases Nat.lt_or_ge i k with h1|h1
    ·exact HA.out i h1
    ·rw[show i=k by omega];exact exAt_new (by rw[hx];exact h) (by rw[hx];exact hn)))
   clear hx HA HAT;obtain⟨x1,x2,x3⟩:=x;simp only at k0 k1 k2 HOL HYE;rw[show exOneB ⟨x1,x2,x3⟩=(strB x1 && idxB x3 && exKindB x2) from rfl]at HNO HYE;have C0:=hD (fun wz (hb:Below w0.heap.size w0 wz)=>str_any x1 wz (HT.out.below (Wa HB.out hb)));generalize strB x1=b0 at C0 HNO HYE;have C1:=hD (fun wz (hb:Below w0.heap.size w0 wz)=>idx_any x3 wz);generalize idxB x3=b1 at C1 HNO HYE;have C2:=hD (fun wz (hb:Below w0.heap.size w0 wz)=>exkind_any x2 wz);generalize exKindB x2=b2 at C2 HNO HYE;have hnx:=Wb (bR w0.heap.size w0) (.cells #[.string x1,.int .i64 x2,.int .i64 x3] 102);have HC:Hid (∀ wz,Below (w0.alloc (.cells #[.string x1,.int .i64 x2,.int .i64 x3] 102)).heap.size (w0.alloc (.cells #[.string x1,.int .i64 x2,.int .i64 x3] 102)) wz→wz.cell? ⟨w0.heap.size,0,none⟩=some (.string x1)∧wz.cell? ⟨w0.heap.size,1,none⟩=some (.int .i64 x2)∧wz.cell? ⟨w0.heap.size,2,none⟩=some (.int .i64 x3)):=hD fun wz hb=>by
    exact Zcd
   cases b0 with
   | false =>
    have HF:=hD (HNO.out (by rfl));clear HNO HYE HOL HAC;exact Zcl
   | true =>
    cases b1 with
    | false =>
     have HF:=hD (HNO.out (by rfl));clear HNO HYE HOL HAC;go_wp2_with (first|(go_at_call 100;(with_reducible refine(C0.out _ hnx).mono ?_);rintro e w0' ⟨rfl,hb0⟩;have hn0:=Wa hnx hb0;have hbb0:=hb0;obtain⟨j00,j01,j02⟩:=HC.out _ hbb0;clear hb0)|(go_at_call 101;(with_reducible refine(C1.out _ hn0).mono ?_);rintro e w1' ⟨rfl,hb1⟩;have hn1:=Wa hn0 hb1;have hbb1:=(Wa hbb0 hb1);obtain⟨j10,j11,j12⟩:=HC.out _ hbb1;clear hb1))
     exact ZcC
    | true =>
     cases b2 with
     | false =>
      have HF:=hD (HNO.out (by rfl));clear HNO HYE HOL HAC;go_wp2_with (first|(go_at_call 100;(with_reducible refine(C0.out _ hnx).mono ?_);rintro e w0' ⟨rfl,hb0⟩;have hn0:=Wa hnx hb0;have hbb0:=hb0;obtain⟨j00,j01,j02⟩:=HC.out _ hbb0;clear hb0)|(go_at_call 101;(with_reducible refine(C1.out _ hn0).mono ?_);rintro e w1' ⟨rfl,hb1⟩;have hn1:=Wa hn0 hb1;have hbb1:=(Wa hbb0 hb1);obtain⟨j10,j11,j12⟩:=HC.out _ hbb1;clear hb1)|(go_at_call 104;(with_reducible refine(C2.out _ hn1).mono ?_);rintro e w2' ⟨rfl,hb2⟩;have hn2:=Wa hn1 hb2;have hbb2:=(Wa hbb1 hb2);obtain⟨j20,j21,j22⟩:=HC.out _ hbb2;clear hb2))
      exact Zc8
     | true =>
      have HY:=hD (HYE.out rfl);clear HNO HYE;have hkc:k≤c:=by omega
      go_upto_region 6 with (first|(go_at_call 100;(with_reducible refine(C0.out _ hnx).mono ?_);rintro e w0' ⟨rfl,hb0⟩;have hn0:=Wa hnx hb0;have hbb0:=hb0;obtain⟨j00,j01,j02⟩:=HC.out _ hbb0;clear hb0)|(go_at_call 101;(with_reducible refine(C1.out _ hn0).mono ?_);rintro e w1' ⟨rfl,hb1⟩;have hn1:=Wa hn0 hb1;have hbb1:=(Wa hbb0 hb1);obtain⟨j10,j11,j12⟩:=HC.out _ hbb1;clear hb1)|(go_at_call 104;(with_reducible refine(C2.out _ hn1).mono ?_);rintro e w2' ⟨rfl,hb2⟩;have hn2:=Wa hn1 hb2;have hbb2:=(Wa hbb1 hb2);obtain⟨j20,j21,j22⟩:=HC.out _ hbb2;clear hb2))
      have HB2:=hD (Wa HB.out hn2);have HX1:=hD (fun wz (hb:Below w2'.heap.size w2' wz)=>(HC.out wz (Wa hbb2 hb)).1);clear hn0 hn1 hn2 hbb0 hbb1 hbb2 C0 C1 C2 HC k0 k1 k2 hnx;try clear j00 j01 j02
      try clear j10 j11 j12
      try clear j20 j21 j22
      obtain⟨w3,rfl⟩:∃ w3,w3=w2':=⟨_,rfl⟩;generalize w0.heap.size=E at *;go_wp2_with fail
      go_loopw [34] (fun i wr=>∃ j:Nat,j≤k∧i=.int .i64 (j:Int)∧Hid (Below w3.heap.size w3 wr)∧Hid (∀ q,q<j→VR (l.getD q exD).1≠VR x1)) (fun i _=>k - (intOf i).toNat)
      case atStart=>exact⟨0,nZ _,rfl,hD (bR _ _),hD fun _ h=>absurd h (Nat.not_lt_zero _)⟩
      case round =>
       obtain⟨w4,rfl⟩:∃ w4,w4=wr:=⟨_,rfl⟩;obtain⟨j,hj,rfl,HB4,HQ⟩:=hrel;by_cases hlj:j<k
       ·have hd2:decide ((j:Int)<(k:Int))=true:=by simp;omega
        obtain⟨y,hy,q0,q1,q2⟩:=HAC.out w4 (Wa HB2.out HB4.out) j (by omega);have HNE:=hD (fun (h:VR y.1≠VR x1) (q:Nat) (hq:q<j+1)=>(show VR (l.getD q exD).1≠VR x1 from by
         rcases Nat.lt_or_ge q j with h1|h1
         ·exact HQ.out q h1
         ·rw[show q=j by omega,hy];exact h))
        have HOJ:=hD (fun (h:VR y.1=VR x1)=>HOL.out j hlj y hy h);clear hy;obtain⟨y1,y2,y3⟩:=y;simp only at q0 q1 q2 HNE HOJ;have xe:=HX1.out (w4.alloc (.cells #[.string y1,.int .i64 y2,.int .i64 y3] 102)) (Wb HB4.out _);by_cases hs:VR y1=VR x1
        ·have ds:=nums_is hs;have HF:=hD (HOJ.out hs);clear HNE HOJ hs;go_wp2;go_ret;exact⟨WV (by rw[HF.out]),Wa HB2.out (Wb HB4.out _)⟩
        ·have ds:=nums_ne hs;have HNE2:=hD (HNE.out hs);clear HNE HOJ hs;go_wp2;go_roundw
         case rel=>exact⟨j+1,by omega,by go_num,hD (Wb HB4.out _),HNE2⟩
         case measure=>simp[intOf];omega
       ·have hd2:decide ((j:Int)<(k:Int))=false:=by simp;omega
        obtain rfl:j=k:=by omega
        have HY2:=hD (HY.out HQ.out);go_wp2;go_roundw
        case rel=>exact⟨j+1,by omega,by go_num,hD (Wa HB2.out HB4.out),HY2⟩
        case measure=>simp[intOf];omega
  ·have hd:decide ((k:Int)<(n:Int))=false:=by simp;omega
   obtain rfl:k=n:=by omega
   have HF:=hD (exs_yes HN.out HA.out);exact Zbg
def Few (m:Vt):Prop:=m.types.length≤281474976710656∧m.imps.length≤281474976710656∧m.funs.length≤281474976710656∧m.mems.length≤281474976710656∧m.globs.length≤281474976710656∧m.exps.length≤281474976710656∧m.datas.length≤281474976710656∧m.cus.length≤281474976710656
theorem fits_any (w:World) (v:Mv) (m:Vt) (h:W7 (fun k=>k<w.heap.size) w v m) (hw:Few m):Calls Tryz.prog 62 #[.agg v.cells] w (Wh (fitsB m) w):=by
 obtain⟨A0,c0,A1,c1,A2,c2,A3,c3,A4,c4,A5,c5,A6,c6,A7,c7,rfl⟩:=Wr h;clear h;unfold Few at hw;unfold fitsB;simp only[Mv.cells];generalize m.types.length=n0 at *;generalize m.imps.length=n1 at *;generalize m.funs.length=n2 at *;generalize m.mems.length=n3 at *;generalize m.globs.length=n4 at *;generalize m.exps.length=n5 at *;generalize m.datas.length=n6 at *;generalize m.cus.length=n7 at *;obtain⟨w0,w1,w2,w3,w4,w5,w6,w7⟩:=hw;have e1:IntKind.i64.wrap ((n1:Int)+(n2:Int))=(n1:Int)+(n2:Int):=IntWalk.i64_in _ (by omega);by_cases h0:n0≤64
 ·rw[decide_eq_true h0];have d0:decide ((n0:Int)≤64)=true:=by simp;omega
  by_cases h1:n1+n2≤256
  ·rw[decide_eq_true h1];have d1:decide ((n1:Int)+(n2:Int)≤256)=true:=by simp;omega
   by_cases h2:n3≤4
   ·rw[decide_eq_true h2];have d2:decide ((n3:Int)≤4)=true:=by simp;omega
    by_cases h3:n4≤256
    ·rw[decide_eq_true h3];have d3:decide ((n4:Int)≤256)=true:=by simp;omega
     by_cases h4:n6≤16
     ·rw[decide_eq_true h4];have d4:decide ((n6:Int)≤16)=true:=by simp;omega
      by_cases h5:n5≤256
      ·rw[decide_eq_true h5];have d5:decide ((n5:Int)≤256)=true:=by simp;omega
       by_cases h6:n7≤16
       ·rw[decide_eq_true h6];have d6:decide ((n7:Int)≤16)=true:=by simp;omega
        simp only[Bool.and_true];exact ZD
       ·rw[decide_eq_false h6];have d6:decide ((n7:Int)≤16)=false:=by simp;omega
        simp only[Bool.and_true,Bool.and_false];exact ZD
      ·rw[decide_eq_false h5];have d5:decide ((n5:Int)≤256)=false:=by simp;omega
       exact ZcD
     ·rw[decide_eq_false h4];have d4:decide ((n6:Int)≤16)=false:=by simp;omega
      exact ZcD
    ·rw[decide_eq_false h3];have d3:decide ((n4:Int)≤256)=false:=by simp;omega
     exact ZcD
   ·rw[decide_eq_false h2];have d2:decide ((n3:Int)≤4)=false:=by simp;omega
    exact ZcD
  ·rw[decide_eq_false h1];have d1:decide ((n1:Int)+(n2:Int)≤256)=false:=by simp;omega
   simp only[Bool.and_false,Bool.false_and];exact ZD
 ·rw[decide_eq_false h0];have d0:decide ((n0:Int)≤64)=false:=by simp;omega
  simp only[Bool.false_and];exact ZD
def RightPost (m:Vt) (w:World) (e:Ending) (w':World):Prop:=e=.returned (.int .i64 (WU m))∧Below w.heap.size w w'
theorem Vd {a b:Int} (h:a=b):Ending.returned (.int .i64 a)=.returned (.int .i64 b):=by rw[h]
theorem right_full {m:Vt} (h:fitsB m=false):WU m=13:=by unfold WU;rw[h];rfl
theorem right_form {m:Vt} (h:fitsB m=true) (h2:UG m=false):WU m=12:=by unfold WU;rw[h,h2];rfl
theorem right_ok {m:Vt} (h:fitsB m=true) (h2:UG m=true):WU m=0:=by unfold WU;rw[h,h2];rfl
theorem right_mod (w:World) (ht:Tab w) (v:Mv) (m:Vt) (h:W7 (fun k=>k<w.heap.size) w v m) (hw:Few m):Calls Tryz.prog 36 #[.agg v.cells] w (RightPost m w):=by
 have HK:=hD (fun wz (hb:Below w.heap.size w wz)=>(show W7 (fun k=>k<wz.heap.size) wz v m from h.keep (We.below hb fun _ hk=>hk) fun _ hk=>Ve hk hb.size));have HT:=hD (fun wz (hb:Below w.heap.size w wz)=>ht.below hb);have HFI:=hD (fun wz (hb:Below w.heap.size w wz)=>fits_any wz v m (HK.out wz hb) hw);have C0:=hD (fun wz (hb:Below w.heap.size w wz)=>rtypes_any (fun k=>k<wz.heap.size) wz (fun _ h=>h) _ _ (HK.out wz hb).types);have C1:=hD (fun wz (hb:Below w.heap.size w wz)=>rimports_any (fun k=>k<wz.heap.size) wz (fun _ h=>h) (HT.out wz hb) _ _ (HK.out wz hb).imps);have C2:=hD (fun wz (hb:Below w.heap.size w wz)=>rfuncs_any (fun k=>k<wz.heap.size) wz (fun _ h=>h) _ _ (HK.out wz hb).funs);have C3:=hD (fun wz (hb:Below w.heap.size w wz)=>rmems_any (fun k=>k<wz.heap.size) wz (fun _ h=>h) _ _ (HK.out wz hb).mems);have C4:=hD (fun wz (hb:Below w.heap.size w wz)=>rglobs_any (fun k=>k<wz.heap.size) wz (fun _ h=>h) _ _ (HK.out wz hb).globs);have C5:=hD (fun wz (hb:Below w.heap.size w wz)=>rexports_any (fun k=>k<wz.heap.size) wz (fun _ h=>h) (HT.out wz hb) _ _ (HK.out wz hb).exps);have C6:=hD (fun wz (hb:Below w.heap.size w wz)=>rdatas_any (fun k=>k<wz.heap.size) wz (fun _ h=>h) _ _ (HK.out wz hb).datas);have C7:=hD (fun wz (hb:Below w.heap.size w wz)=>rcustoms_any (fun k=>k<wz.heap.size) wz (fun _ h=>h) (HT.out wz hb) _ _ (HK.out wz hb).cus);have HP:Hid (UG m=(m.types.all typB && m.imps.all impB && m.funs.all fncB && m.mems.all memB && m.globs.all Uj && exsB m.exps && m.datas.all datB && m.cus.all cusB)):=hD rfl;have HR1:=hD (right_full (m:=m));have HR2:=hD (right_form (m:=m));have HR3:=hD (right_ok (m:=m));generalize m.types.all typB=b0 at C0 HP;generalize m.imps.all impB=b1 at C1 HP;generalize m.funs.all fncB=b2 at C2 HP;generalize m.mems.all memB=b3 at C3 HP;generalize m.globs.all Uj=b4 at C4 HP;generalize exsB m.exps=b5 at C5 HP;generalize m.datas.all datB=b6 at C6 HP;generalize m.cus.all cusB=b7 at C7 HP;generalize fitsB m=bf at HFI HR1 HR2 HR3;rw[HP.out]at HR2 HR3;clear HP HT hw ht;unfold RightPost;generalize WU m=R at HR1 HR2 HR3 ⊢;obtain⟨A0,c0,A1,c1,A2,c2,A3,c3,A4,c4,A5,c5,A6,c6,A7,c7,rfl⟩:=Wr h;simp only at C0 C1 C2 C3 C4 C5 C6 C7;simp only[Mv.cells]at HFI ⊢;clear h HK;generalize m.types.length=n0 at *;generalize m.imps.length=n1 at *;generalize m.funs.length=n2 at *;generalize m.mems.length=n3 at *;generalize m.globs.length=n4 at *;generalize m.exps.length=n5 at *;generalize m.datas.length=n6 at *;generalize m.cus.length=n7 at *;have hb0:=(bR w.heap.size w).alloc (nR _) (.cells #[.slice A0 n0 c0,.slice A1 n1 c1,.slice A2 n2 c2,.slice A3 n3 c3,.slice A4 n4 c4,.slice A5 n5 c5,.slice A6 n6 c6,.slice A7 n7 c7] 37);have HB0:=hD hb0;have HQ:=hD (HFI.out _ hb0);have HBX:=hD (fun wz hb=>UB w (.slice A0 n0 c0) (.slice A1 n1 c1) (.slice A2 n2 c2) (.slice A3 n3 c3) (.slice A4 n4 c4) (.slice A5 n5 c5) (.slice A6 n6 c6) (.slice A7 n7 c7) (wz:=wz) hb);clear hb0 HFI;go_enter Tryz.func36,Tryz.ntmps36;go_wp2_with fail
 obtain⟨w1,hw1⟩:∃ w1,w1=w.alloc (.cells #[.slice A0 n0 c0,.slice A1 n1 c1,.slice A2 n2 c2,.slice A3 n3 c3,.slice A4 n4 c4,.slice A5 n5 c5,.slice A6 n6 c6,.slice A7 n7 c7] 37):=⟨_,rfl⟩;rw[← hw1]at HB0 HQ HBX ⊢;clear hw1;go_at_call 62;refine HQ.out.mono ?_;rintro e w2 ⟨rfl,hb2⟩;obtain⟨x0,x1,x2,x3,x4,x5,x6,x7⟩:=HBX.out w2 hb2;have HB12:=hD hb2;have hq:=Wa HB0.out hb2;have HB2:=hD hq;clear hb2 HQ;cases bf with
 | false =>
  have HR:=hD (HR1.out rfl);clear HR1 HR2 HR3;go_wp2;go_ret;exact⟨Vd (by rw[HR.out]),HB2.out⟩
 | true =>
  cases b0 with
  | false =>
   have HR:=hD (HR2.out rfl (by rfl));clear HR1 HR2 HR3;go_wp2_with (go_at_call 63;(with_reducible refine(C0.out _ hq).mono ?_);rintro e y0 ⟨rfl,hb0⟩;have hq0:=Wa hq hb0;have hx0:=Wa (HB12.out) hb0;obtain⟨z00,z01,z02,z03,z04,z05,z06,z07⟩:=HBX.out _ hx0;clear hb0)
   go_ret;exact⟨Vd (by rw[HR.out]),hq0⟩
  | true =>
   cases b1 with
   | false =>
    have HR:=hD (HR2.out rfl (by rfl));clear HR1 HR2 HR3;go_wp2_with (first|(go_at_call 63;(with_reducible refine(C0.out _ hq).mono ?_);rintro e y0 ⟨rfl,hb0⟩;have hq0:=Wa hq hb0;have hx0:=Wa (HB12.out) hb0;obtain⟨z00,z01,z02,z03,z04,z05,z06,z07⟩:=HBX.out _ hx0;clear hb0)|(go_at_call 64;(with_reducible refine(C1.out _ hq0).mono ?_);rintro e y1 ⟨rfl,hb1⟩;have hq1:=Wa hq0 hb1;have hx1:=Wa (hx0) hb1;obtain⟨z10,z11,z12,z13,z14,z15,z16,z17⟩:=HBX.out _ hx1;clear hb1))
    go_ret;exact⟨Vd (by rw[HR.out]),hq1⟩
   | true =>
    cases b2 with
    | false =>
     have HR:=hD (HR2.out rfl (by rfl));clear HR1 HR2 HR3;go_wp2_with (first|(go_at_call 63;(with_reducible refine(C0.out _ hq).mono ?_);rintro e y0 ⟨rfl,hb0⟩;have hq0:=Wa hq hb0;have hx0:=Wa (HB12.out) hb0;obtain⟨z00,z01,z02,z03,z04,z05,z06,z07⟩:=HBX.out _ hx0;clear hb0)|(go_at_call 64;(with_reducible refine(C1.out _ hq0).mono ?_);rintro e y1 ⟨rfl,hb1⟩;have hq1:=Wa hq0 hb1;have hx1:=Wa (hx0) hb1;obtain⟨z10,z11,z12,z13,z14,z15,z16,z17⟩:=HBX.out _ hx1;clear hb1)|(go_at_call 65;(with_reducible refine(C2.out _ hq1).mono ?_);rintro e y2 ⟨rfl,hb2⟩;have hq2:=Wa hq1 hb2;have hx2:=Wa (hx1) hb2;obtain⟨z20,z21,z22,z23,z24,z25,z26,z27⟩:=HBX.out _ hx2;clear hb2))
     go_ret;exact⟨Vd (by rw[HR.out]),hq2⟩
    | true =>
     cases b3 with
     | false =>
      have HR:=hD (HR2.out rfl (by rfl));clear HR1 HR2 HR3;go_wp2_with (first|(go_at_call 63;(with_reducible refine(C0.out _ hq).mono ?_);rintro e y0 ⟨rfl,hb0⟩;have hq0:=Wa hq hb0;have hx0:=Wa (HB12.out) hb0;obtain⟨z00,z01,z02,z03,z04,z05,z06,z07⟩:=HBX.out _ hx0;clear hb0)|(go_at_call 64;(with_reducible refine(C1.out _ hq0).mono ?_);rintro e y1 ⟨rfl,hb1⟩;have hq1:=Wa hq0 hb1;have hx1:=Wa (hx0) hb1;obtain⟨z10,z11,z12,z13,z14,z15,z16,z17⟩:=HBX.out _ hx1;clear hb1)|(go_at_call 65;(with_reducible refine(C2.out _ hq1).mono ?_);rintro e y2 ⟨rfl,hb2⟩;have hq2:=Wa hq1 hb2;have hx2:=Wa (hx1) hb2;obtain⟨z20,z21,z22,z23,z24,z25,z26,z27⟩:=HBX.out _ hx2;clear hb2)|(go_at_call 66;(with_reducible refine(C3.out _ hq2).mono ?_);rintro e y3 ⟨rfl,hb3⟩;have hq3:=Wa hq2 hb3;have hx3:=Wa (hx2) hb3;obtain⟨z30,z31,z32,z33,z34,z35,z36,z37⟩:=HBX.out _ hx3;clear hb3))
      go_ret;exact⟨Vd (by rw[HR.out]),hq3⟩
     | true =>
      cases b4 with
      | false =>
       have HR:=hD (HR2.out rfl (by rfl));clear HR1 HR2 HR3;go_wp2_with (first|(go_at_call 63;(with_reducible refine(C0.out _ hq).mono ?_);rintro e y0 ⟨rfl,hb0⟩;have hq0:=Wa hq hb0;have hx0:=Wa (HB12.out) hb0;obtain⟨z00,z01,z02,z03,z04,z05,z06,z07⟩:=HBX.out _ hx0;clear hb0)|(go_at_call 64;(with_reducible refine(C1.out _ hq0).mono ?_);rintro e y1 ⟨rfl,hb1⟩;have hq1:=Wa hq0 hb1;have hx1:=Wa (hx0) hb1;obtain⟨z10,z11,z12,z13,z14,z15,z16,z17⟩:=HBX.out _ hx1;clear hb1)|(go_at_call 65;(with_reducible refine(C2.out _ hq1).mono ?_);rintro e y2 ⟨rfl,hb2⟩;have hq2:=Wa hq1 hb2;have hx2:=Wa (hx1) hb2;obtain⟨z20,z21,z22,z23,z24,z25,z26,z27⟩:=HBX.out _ hx2;clear hb2)|(go_at_call 66;(with_reducible refine(C3.out _ hq2).mono ?_);rintro e y3 ⟨rfl,hb3⟩;have hq3:=Wa hq2 hb3;have hx3:=Wa (hx2) hb3;obtain⟨z30,z31,z32,z33,z34,z35,z36,z37⟩:=HBX.out _ hx3;clear hb3)|(go_at_call 67;(with_reducible refine(C4.out _ hq3).mono ?_);rintro e y4 ⟨rfl,hb4⟩;have hq4:=Wa hq3 hb4;have hx4:=Wa (hx3) hb4;obtain⟨z40,z41,z42,z43,z44,z45,z46,z47⟩:=HBX.out _ hx4;clear hb4))
       go_ret;exact⟨Vd (by rw[HR.out]),hq4⟩
      | true =>
       cases b5 with
       | false =>
        have HR:=hD (HR2.out rfl (by rfl));clear HR1 HR2 HR3;go_wp2_with (first|(go_at_call 63;(with_reducible refine(C0.out _ hq).mono ?_);rintro e y0 ⟨rfl,hb0⟩;have hq0:=Wa hq hb0;have hx0:=Wa (HB12.out) hb0;obtain⟨z00,z01,z02,z03,z04,z05,z06,z07⟩:=HBX.out _ hx0;clear hb0)|(go_at_call 64;(with_reducible refine(C1.out _ hq0).mono ?_);rintro e y1 ⟨rfl,hb1⟩;have hq1:=Wa hq0 hb1;have hx1:=Wa (hx0) hb1;obtain⟨z10,z11,z12,z13,z14,z15,z16,z17⟩:=HBX.out _ hx1;clear hb1)|(go_at_call 65;(with_reducible refine(C2.out _ hq1).mono ?_);rintro e y2 ⟨rfl,hb2⟩;have hq2:=Wa hq1 hb2;have hx2:=Wa (hx1) hb2;obtain⟨z20,z21,z22,z23,z24,z25,z26,z27⟩:=HBX.out _ hx2;clear hb2)|(go_at_call 66;(with_reducible refine(C3.out _ hq2).mono ?_);rintro e y3 ⟨rfl,hb3⟩;have hq3:=Wa hq2 hb3;have hx3:=Wa (hx2) hb3;obtain⟨z30,z31,z32,z33,z34,z35,z36,z37⟩:=HBX.out _ hx3;clear hb3)|(go_at_call 67;(with_reducible refine(C4.out _ hq3).mono ?_);rintro e y4 ⟨rfl,hb4⟩;have hq4:=Wa hq3 hb4;have hx4:=Wa (hx3) hb4;obtain⟨z40,z41,z42,z43,z44,z45,z46,z47⟩:=HBX.out _ hx4;clear hb4)|(go_at_call 68;(with_reducible refine(C5.out _ hq4).mono ?_);rintro e y5 ⟨rfl,hb5⟩;have hq5:=Wa hq4 hb5;have hx5:=Wa (hx4) hb5;obtain⟨z50,z51,z52,z53,z54,z55,z56,z57⟩:=HBX.out _ hx5;clear hb5))
        go_ret;exact⟨Vd (by rw[HR.out]),hq5⟩
       | true =>
        cases b6 with
        | false =>
         have HR:=hD (HR2.out rfl (by rfl));clear HR1 HR2 HR3;go_wp2_with (first|(go_at_call 63;(with_reducible refine(C0.out _ hq).mono ?_);rintro e y0 ⟨rfl,hb0⟩;have hq0:=Wa hq hb0;have hx0:=Wa (HB12.out) hb0;obtain⟨z00,z01,z02,z03,z04,z05,z06,z07⟩:=HBX.out _ hx0;clear hb0)|(go_at_call 64;(with_reducible refine(C1.out _ hq0).mono ?_);rintro e y1 ⟨rfl,hb1⟩;have hq1:=Wa hq0 hb1;have hx1:=Wa (hx0) hb1;obtain⟨z10,z11,z12,z13,z14,z15,z16,z17⟩:=HBX.out _ hx1;clear hb1)|(go_at_call 65;(with_reducible refine(C2.out _ hq1).mono ?_);rintro e y2 ⟨rfl,hb2⟩;have hq2:=Wa hq1 hb2;have hx2:=Wa (hx1) hb2;obtain⟨z20,z21,z22,z23,z24,z25,z26,z27⟩:=HBX.out _ hx2;clear hb2)|(go_at_call 66;(with_reducible refine(C3.out _ hq2).mono ?_);rintro e y3 ⟨rfl,hb3⟩;have hq3:=Wa hq2 hb3;have hx3:=Wa (hx2) hb3;obtain⟨z30,z31,z32,z33,z34,z35,z36,z37⟩:=HBX.out _ hx3;clear hb3)|(go_at_call 67;(with_reducible refine(C4.out _ hq3).mono ?_);rintro e y4 ⟨rfl,hb4⟩;have hq4:=Wa hq3 hb4;have hx4:=Wa (hx3) hb4;obtain⟨z40,z41,z42,z43,z44,z45,z46,z47⟩:=HBX.out _ hx4;clear hb4)|(go_at_call 68;(with_reducible refine(C5.out _ hq4).mono ?_);rintro e y5 ⟨rfl,hb5⟩;have hq5:=Wa hq4 hb5;have hx5:=Wa (hx4) hb5;obtain⟨z50,z51,z52,z53,z54,z55,z56,z57⟩:=HBX.out _ hx5;clear hb5)|(go_at_call 69;(with_reducible refine(C6.out _ hq5).mono ?_);rintro e y6 ⟨rfl,hb6⟩;have hq6:=Wa hq5 hb6;have hx6:=Wa (hx5) hb6;obtain⟨z60,z61,z62,z63,z64,z65,z66,z67⟩:=HBX.out _ hx6;clear hb6))
         go_ret;exact⟨Vd (by rw[HR.out]),hq6⟩
        | true =>
         cases b7 with
         | false =>
          have HR:=hD (HR2.out rfl (by rfl));exact Zv
         | true =>
          have HR:=hD (HR3.out rfl (by rfl));exact Zv
end
section
open Go.RowKit
theorem run_append_both (w:World) (t ty e:TypeId) (z:Value) (size bytes:Nat) (ht:Tryz.prog.underlying t=some (.slice e)) (hinfo:(Tryz.prog.info? e).map (fun i=>(i.zero,i.size,i.bytes))=some (some z,size,bytes))
 (hzs:z.cells.size=size) (hsz:0<size) (v:Value) (n:Nat) (xs:List Value) (hown:w.ownsRow 0 e size v n xs) (src:Value) (m:Nat) (news:List Value) (hl:news.length=m * size) (hsrc:UZ w src m news)
 (h1:∀ u ∈ news,u.oneCell'=true) (hnm:n+m≤1000000) (hb:bytes≤1000) :
 ∃ v' w',(Builtin.append_ #[t,t] ty #[v,src]).run Tryz.prog w=.ok v' w'∧w'.ownsRow 0 e size v' (n+m) (xs++news)∧w.grownBy w' v.ownBlock∧(v'.ownBlock=v.ownBlock∨v'.ownBlock=some w.heap.size)∧w'.ownsRow 0 e size v n xs:=by
 obtain⟨v',w',hr,h2,h3,h5⟩:=run_append_row w t ty e z size bytes ht hinfo hzs hsz v n xs hown src m news hl hsrc h1 hnm hb;refine⟨v',w',hr,h2,h3,h5,?_⟩;obtain⟨i0,hi,hz0,hz1,hz2⟩:=info_parts hinfo;rcases hsrc with ⟨rfl,rfl,rfl⟩|⟨ad,c,rfl,hcell⟩
 ·have hv:v'=v:=by
   have e2:(Builtin.append_ #[t,t] ty #[v,.slice none 0 0]).run Tryz.prog w=.ok v w:=by
    exact ZbN
   have e3:=hr.symm.trans e2;simp only[Result.ok.injEq]at e3;exact e3.1
  subst hv;simpa using h2
 ·rcases hown.2 with ⟨rfl,h⟩|⟨g,cap,cur,rfl,_,hcur,hnc,_,hcs,htake⟩
  ·have hx:=hown.1;subst h;simp only[Nat.zero_mul,List.length_eq_zero_iff]at hx;subst hx;exact World.ownsRow_nil _ _ _ _
  ·by_cases hroom:n+m≤cap
   ·have hr2:=run_append_room (P:=Tryz.prog) w t ty e i0 ht hi g n cap cur hcur ad m c news (by rw[hz1];exact hl) hcell h1 hroom (by rw[hz1,hcs,hl,← Nat.add_mul];exact Nat.mul_le_mul_right _ hroom);have e3:=hr.symm.trans hr2;simp only[Result.ok.injEq]at e3;obtain⟨rfl,-⟩:=e3;have h4:=owns_cut (m:=n) h2 (Nat.le_add_right n m);rw[← hown.1,List.take_left]at h4;exact h4
   ·have hb2:(n+m) * bytes≤1000000 * 1000:=Nat.mul_le_mul hnm hb;have hr2:=run_append_grow (P:=Tryz.prog) w t ty e i0 z ht hi hz0 ⟨g,0,none⟩ n cap xs (by rw[hz1];exact hown.1) (hown.cells (g:=g) rfl) ad m c news (by rw[hz1];exact hl) hcell (by omega) (by omega) (growslice_fits (by omega) (by rw[hz2];omega));have e3:=hr.symm.trans hr2;simp only[Result.ok.injEq]at e3;obtain⟨-,rfl⟩:=e3;exact(World.ownsRow.drew hown).alloc _
theorem wpList_append_both {ops:Array Oper} {rest:List Oper} {o:Oper} {a:Act} {w:World} {Q:Exit→Act→World→Prop} (hw:Region.wanted o (yielded ops a.tmps)=true) (s x:Operand) (t e:TypeId)
 (ho:o.op=.call { callee:=.builtin .append,args:=#[s,x],argTypes:=#[t,t] }) (z:Value) (size bytes:Nat) (ht:Tryz.prog.underlying t=some (.slice e)) (hinfo:(Tryz.prog.info? e).map (fun i=>(i.zero,i.size,i.bytes))=some (some z,size,bytes))
 (hzs:z.cells.size=size) (hsz:0<size) (hb:bytes≤1000) (v:Value) (n:Nat) (xs:List Value) (hs:a.eval s=v) (hown:w.ownsRow 0 e size v n xs) (src:Value) (m:Nat) (news:List Value) (hx:a.eval x=src) (hl:news.length=m * size) (hsrc:UZ w src m news)
 (h1:∀ u ∈ news,u.oneCell'=true) (hnm:n+m≤1000000)
 (hk:∀ v' w',w'.ownsRow 0 e size v' (n+m) (xs++news)→w.grownBy w' v.ownBlock→(v'.ownBlock=v.ownBlock∨v'.ownBlock=some w.heap.size)→w'.ownsRow 0 e size v n xs→wpList Tryz.prog ops Q rest (a.put o.dst v') w'):wpList Tryz.prog ops Q (o :: rest) a w:=by
 refine BigFrame.wpList_want hw fun K hK=>?_;obtain⟨v',w',hr,h2,h3,h5,h6⟩:=run_append_both w t o.type e z size bytes ht hinfo hzs hsz v n xs hown src m news hl hsrc h1 hnm hb;unfold Oper.wp execOp;simp only[ho,resolve,invoke,builtin,Sem.run_bind,Sem.run_pure,Result.andThen_ok,List.map_toArray,List.map_cons,List.map_nil,hs,hx,hr];exact hK _ _ (hk v' w' h2 h3 h5 h6)
end
section
open Go.RowKit
set_option maxHeartbeats 1000000
set_option maxRecDepth 100000
theorem ZP {P:Prop}(h:P:=by
 clear HBB HTN HTS h0;go_enter Tryz.func132,Tryz.ntmps132;go_wp2;exact bodyPost_ret (v:=.tuple #[.agg #[.slice none 0 0,.slice (some ⟨w.heap.size+2,0,none⟩) 1 1],.bool true]) (by simp[results,Tryz.results132,go_sem]) rfl ⟨_,_,rfl,Wf.nil _ _,⟨_,_,rfl,by unfold maxLen;simp,(fun h=>by cases h),fun _=>⟨w.heap.size+2,0,rfl,.inr ⟨by omega,by simp⟩,fun j hj=>by
  obtain rfl:j=0:=by simp at hj;omega
  exact cell_third w _ _ _ _ 0⟩⟩,(((bR _ _).alloc (nR _) _).alloc (by simp) _).alloc (by simp;omega) _⟩):P:=h
theorem ZbM {P:Prop}(h:P:=by
 clear hk ha HTN HTS h0;go_enter Tryz.func132,Tryz.ntmps132;go_wp2;exact bodyPost_ret (v:=.tuple #[.agg #[.slice none 0 0,.slice none 0 0],.bool false]) (by simp[results,Tryz.results132,go_sem]) rfl ⟨_,_,rfl,Wf.nil _ _,Wf.nil _ _,((bR _ _).alloc (nR _) _).alloc (by simp) _⟩):P:=h
theorem dsig_in (w:World) (v:Mv) (m:Vt) {K:Nat→Prop} (hK:∀ k,K k→k<w.heap.size) (h:W7 K w v m) (hs:Vq m) (f:Int) :
 Calls Tryz.prog 77 #[.agg v.cells,.int .i64 f] w (TypPost K (WB m f) w):=by
 have h0:=h.types;have h1:=imps_fieldK h.imps;have h2:=funs_fieldK h.funs;obtain⟨A0,c0,A1,c1,A2,c2,A3,c3,A4,c4,A5,c5,A6,c6,A7,c7,rfl⟩:=Wr h;simp only[Mv.cells]at h0 h1 h2 ⊢;obtain⟨s0,s1,s2,_⟩:=hs;by_cases hr:f<0∨(m.imps.length:Int)+m.funs.length≤f
 ·exact Zdf
 ·obtain⟨d,rfl⟩:∃ d:Nat,f=d:=⟨f.toNat,by omega⟩;obtain⟨z,hz,hf⟩:∃ z:Int,WB m (d:Int)=Uo m z∧((d<(m.imps.map fun x=>x.2.2).length∧(m.imps.map fun x=>x.2.2).getD d 0=z)∨((m.imps.map fun x=>x.2.2).length≤d∧d<(m.imps.map fun x=>x.2.2).length+(m.funs.map Fnc.ty).length∧(m.funs.map Fnc.ty).getD (d - (m.imps.map fun x=>x.2.2).length) 0=z)):=by
   exact Zbm
  rw[hz];by_cases hk:z<0∨(m.types.length:Int)≤z
  ·exact ZcM
  ·obtain⟨t,rfl⟩:∃ t:Nat,z=t:=⟨z.toNat,by omega⟩;rw[typeB_some (by omega)];exact(rsig_yes _ w _ _ _ _ _ _ _ _ m.types _ _ h0 h1 h2 (by rw[List.length_map,List.length_map];omega) d t hf (by omega)).mono fun _ _ h=>h.typ hK
theorem dblock_in (w:World) (v:Mv) (m:Vt) {K:Nat→Prop} (hK:∀ k,K k→k<w.heap.size) (h:W7 K w v m) (a:Int) :
 Calls Tryz.prog 132 #[.agg v.cells,.int .i64 a] w (TypPost K (Wv m a) w):=by
 have h0:=h.types;obtain⟨A0,c0,A1,c1,A2,c2,A3,c3,A4,c4,A5,c5,A6,c6,A7,c7,rfl⟩:=Wr h;simp only[Mv.cells]at h0 ⊢;clear h;have HBB:Hid (¬ a = -1→¬ a = -2→¬ a = -3→¬ a = -4→Wv m a=Uo m a):=hD fun h1 h2 h3 h4=>by unfold Wv;rw[if_neg h1,if_neg h2,if_neg h3,if_neg h4]
 have HTN:=hD (fun hk=>typeB_none (m:=m) (k:=a) hk);have HTS:=hD (fun k hk=>typeB_some (m:=m) (k:=k) hk);obtain⟨n0,hn0⟩:∃ n,m.types.length=n:=⟨_,rfl⟩;rw[hn0]at HTN h0 ⊢;have HN0:=hD hn0;generalize m.imps.length=n1 at *;generalize m.funs.length=n2 at *;generalize m.mems.length=n3 at *;generalize m.globs.length=n4 at *;generalize m.exps.length=n5 at *;generalize m.datas.length=n6 at *;generalize m.cus.length=n7 at *;clear hn0;by_cases c1:a = -1
 ·subst c1;rw[show Wv m (-1)=some ([],[]) from rfl];clear HBB HTN HTS h0;go_enter Tryz.func132,Tryz.ntmps132;go_wp2;exact bodyPost_ret (v:=.tuple #[.agg #[.slice none 0 0,.slice none 0 0],.bool true]) (by simp[results,Tryz.results132,go_sem]) rfl ⟨_,_,rfl,Wf.nil _ _,Wf.nil _ _,((bR _ _).alloc (nR _) _).alloc (by simp) _⟩
 by_cases c2:a = -2
 ·subst c2;rw[show Wv m (-2)=some ([],[127]) from rfl];exact ZP
 by_cases c3:a = -3
 ·subst c3;rw[show Wv m (-3)=some ([],[126]) from rfl];exact ZP
 by_cases c4:a = -4
 ·subst c4;rw[show Wv m (-4)=some ([],[124]) from rfl];exact ZP
 rw[HBB.out c1 c2 c3 c4];have e1:(a == -1)=false:=by simpa using c1
 have e2:(a == -2)=false:=by simpa using c2
 have e3:(a == -3)=false:=by simpa using c3
 have e4:(a == -4)=false:=by simpa using c4
 clear c1 c2 c3 c4 HBB;by_cases hk:a<0∨(n0:Int)≤a
 ·rw[HTN.out hk];by_cases ha:a<0
  ·have d1:decide ((0:Int)≤a)=false:=by simp;omega
   exact ZbM
  ·have d1:decide ((0:Int)≤a)=true:=by simp;omega
   have d2:decide (a<(n0:Int))=false:=by simp;omega
   exact ZbM
 ·obtain⟨t,rfl⟩:∃ t:Nat,a=t:=⟨a.toNat,by omega⟩;have ht:t<n0:=by omega
  rw[HTS.out t (by rw[HN0.out];exact ht)];obtain⟨g0,o0,cc0,he,_,_⟩:=Wd.some_ h0 (by rw[HN0.out];omega);simp only[vI]at he;obtain⟨rfl,-,rfl⟩:=he;obtain⟨p,r,hp,hr,hip,hir⟩:=UN.at_ h0 t (by rw[HN0.out];exact ht);obtain⟨Ap,cp,rfl,_,_⟩:=hip.form;obtain⟨Ar,cr,rfl,_,_⟩:=hir.form;have kp:=US hp;have kr:=US hr;have HP:=hD hip;have HR:=hD hir;generalize m.types.getD t ([],[])=tt at *;generalize hP:tt.1.length=np at kp HP;generalize hR:tt.2.length=nr at kr HR;clear hP hR hk hp hr hip hir h0 HTN HTS HN0;have d1:decide ((t:Int)<(n0:Int))=true:=by simp;omega
  have d2:decide ((0:Int)≤(t:Int))=true:=by simp
  clear e1 e2 e3 e4;go_enter Tryz.func132,Tryz.ntmps132;go_wp2;refine bodyPost_ret (v:=.tuple #[.agg #[.slice Ap np cp,.slice Ar nr cr],.bool true]) (by simp[results,Tryz.results132,go_sem]) rfl
   ⟨_,_,rfl,HP.out.keep (.below ?_ hK) (fun k hk=>.inl hk),HR.out.keep (.below ?_ hK) (fun k hk=>.inl hk),?_⟩
  all_goals exact((bR _ _).alloc (nR _) _).alloc (by simp) _
end
end Go.Proofs.YtmfpnfdinoofpaaGreatDoor
