/- A part of the proof. -/
import Derived.Test.YtmfpnfdinoofpaaGreatDoorJ32
import Derived.Test.YtmfpnfdinoofpaaGreatDoorJ29
namespace Go.Proofs.YtmfpnfdinoofpaaGreatDoor
section
open Go.RowKit
set_option maxHeartbeats 4000000
set_option maxRecDepth 100000
theorem ZcE {P:Prop}(h:P:=by
 have HY:=hD (HYE.out hb0);have HBZ:=hD hb0;clear HNO HYE;go_wp2_with (go_at_call 72;refine(chkin_any _ _ _).mono ?_;rintro e w1 ⟨rfl,rfl⟩;try rw[HBZ.out])
 exact ZK):P:=h
theorem ctypesExist_any (w:World) (v:Mv) (m:Vt) (h:W7 (fun k=>k<w.heap.size) w v m):Calls Tryz.prog 38 #[.agg v.cells] w (Wh (Ub m) w):=by
 have q0:=h.types;have q1:=h.imps;have q2:=h.funs;have q3:=h.mems;have q4:=h.globs;have q5:=h.exps;have q6:=h.datas;have q7:=h.cus;obtain⟨A0,c0,A1,c1,A2,c2,A3,c3,A4,c4,A5,c5,A6,c6,A7,c7,rfl⟩:=Wr h;simp only[Mv.cells]at ⊢;simp only at q0 q1 q2 q3 q4 q5 q6 q7;clear h;obtain⟨⟨n0,hn0⟩,⟨n1,hn1⟩,⟨n2,hn2⟩,⟨n3,hn3⟩,⟨n4,hn4⟩,⟨n5,hn5⟩,⟨n6,hn6⟩,⟨n7,hn7⟩⟩:=len8 m;have HN0:=hD hn0;have HN1:=hD hn1;have HN2:=hD hn2;have HN3:=hD hn3;have HN4:=hD hn4;have HN5:=hD hn5;have HN6:=hD hn6;have HN7:=hD hn7;rw[hn0]at q0 ⊢;rw[hn1]at q1 ⊢;rw[hn2]at q2 ⊢;rw[hn3]at q3 ⊢;rw[hn4]at q4 ⊢;rw[hn5]at q5 ⊢;rw[hn6]at q6 ⊢;rw[hn7]at q7 ⊢;obtain⟨W,hW,hbw,HB8⟩:=Vv w (.slice A0 n0 c0) (.slice A1 n1 c1) (.slice A2 n2 c2) (.slice A3 n3 c3) (.slice A4 n4 c4) (.slice A5 n5 c5) (.slice A6 n6 c6) (.slice A7 n7 c7);have HBW:=hD hbw;have HB8:=hD HB8;have HW:=hD hW;have Q1:=hD (Wd.keep (K':=fun k=>k<W.heap.size) q1 (We.below hbw fun _ hk=>hk) (fun _ hk=>Ve hk hbw.size) (fun _ _ _ h=>h));have Q2:=hD (FunsK.keep (K':=fun k=>k<W.heap.size) q2 (We.below hbw fun _ hk=>hk) (fun _ hk=>Ve hk hbw.size));clear hbw hW q0 q1 q2 q3 q4 q5 q6 q7 hn0 hn1 hn2 hn3 hn4 hn5 hn6 hn7;go_enter Tryz.func38,Tryz.ntmps38
 go_upto_region 1 with (fail)
 rw[← HW.out];obtain⟨b0,b1,b2,b3,b4,b5,b6,b7⟩:=HB8.out W (bR _ _);go_wp2_with fail
 clear b0 b1 b2 b3 b4 b5 b6 b7;go_loopw [10] (fun i wr=>∃ k:Nat,k≤n1∧i=.int .i64 (k:Int)∧Hid (Below W.heap.size W wr)∧Hid (W0 (impIn n0) m.imps (ByteArray.empty,ByteArray.empty,0) k)) (fun i _=>n1 - (intOf i).toNat)
 case atStart=>exact⟨0,nZ _,rfl,hD (bR _ _),hD (W0.zero _ _ _)⟩
 case round =>
  obtain⟨w0,rfl⟩:∃ w0,w0=wr:=⟨_,rfl⟩;obtain⟨k,hk,rfl,HB,HA⟩:=hrel;by_cases hlt:k<n1
  ·have hd:decide ((k:Int)<(n1:Int))=true:=by simp;omega
   have hd2:decide (k<n1)=true:=by simp;omega
   obtain⟨g,o,c',he,hq1,hq2⟩:=Wd.some_ Q1.out (by rw[HN1.out];omega);rw[HN1.out]at hq1;unfold maxLen at hq2;simp only[vI]at he;obtain⟨rfl,-,rfl⟩:=he;have hAT:=Wd.keep (K':=fun k=>k<w0.heap.size) Q1.out (We.below HB.out fun _ hk=>hk) (fun _ hk=>Ve hk HB.out.size) (fun _ _ _ h=>h);obtain⟨u0,k0,h0⟩:=Wd.at_ hAT k 0 (by rw[HN1.out];exact hlt) (by decide);obtain⟨u1,k1,h1⟩:=Wd.at_ hAT k 1 (by rw[HN1.out];exact hlt) (by decide);obtain⟨u2,k2,h2⟩:=Wd.at_ hAT k 2 (by rw[HN1.out];exact hlt) (by decide);have HMEM:=hD (WA m.imps k (ByteArray.empty,ByteArray.empty,0) (by rw[HN1.out];exact hlt));have HNO:=hD (fun (h:(impIn n0) (m.imps.getD k (ByteArray.empty,ByteArray.empty,0))=false)=>VM (p:=impIn n0) (by rw[HN1.out];exact hlt) h);have HYE:=hD (fun (h:(impIn n0) (m.imps.getD k (ByteArray.empty,ByteArray.empty,0))=true)=>HA.out.succ h);clear hAT;generalize m.imps.getD k (ByteArray.empty,ByteArray.empty,0)=x at h0 h1 h2 HNO HYE HMEM;obtain⟨x1,x2,x3⟩:=x;obtain rfl:u0=.string x1:=h0;obtain rfl:u1=.string x2:=h1;obtain rfl:u2=.int .i64 x3:=h2;rw[Nat.add_zero]at k0;have hnx:=Wb (bR w0.heap.size w0) (.cells #[.string x1,.string x2,.int .i64 x3] 66);have HC:Hid (∀ wz,Below (w0.alloc (.cells #[.string x1,.string x2,.int .i64 x3] 66)).heap.size (w0.alloc (.cells #[.string x1,.string x2,.int .i64 x3] 66)) wz→(wz.cell? ⟨w0.heap.size,0,none⟩=some (.string x1)∧wz.cell? ⟨w0.heap.size,1,none⟩=some (.string x2)∧wz.cell? ⟨w0.heap.size,2,none⟩=some (.int .i64 x3))∧Box8 wz w.heap.size (.slice A0 n0 c0) (.slice (some ⟨g,o,none⟩) n1 c1) (.slice A2 n2 c2) (.slice A3 n3 c3) (.slice A4 n4 c4) (.slice A5 n5 c5) (.slice A6 n6 c6) (.slice A7 n7 c7)):=hD fun wz hb=>by
    have h9:∀ i,wz.cell? ⟨w0.heap.size,i,none⟩=(#[.string x1,.string x2,.int .i64 x3]:Array Value)[i]?:=fun i=>(hb.cell (p:=⟨w0.heap.size,i,none⟩) (by simp)).trans (wN w0 _ _ i);exact⟨⟨h9 0,h9 1,h9 2⟩,HB8.out wz (Wa HB.out (Wa hnx hb))⟩
   obtain⟨-,b0,b1,b2,b3,b4,b5,b6,b7⟩:=HC.out _ (bR _ _);cases hb0:(Wi x3 n0) with
   | false =>
    have HF:=hD (HNO.out hb0);have HBZ:=hD hb0;clear HNO HYE;go_wp2_with (go_at_call 72;refine(chkin_any _ _ _).mono ?_;rintro e w1 ⟨rfl,rfl⟩;try rw[HBZ.out])
    go_ret;exact⟨WV (by unfold Ub;rw[← HN0.out]at HF;rw[HF.out,Bool.false_and]),Wa HBW.out (Wa HB.out hnx)⟩
   | true =>
    exact ZcE
  ·have hd:decide ((k:Int)<(n1:Int))=false:=by simp;omega
   have hd2:decide (k<n1)=false:=by simp;omega
   obtain rfl:n1=k:=by omega
   have HF1:=hD (show m.imps.all (impIn n0)=true by have h:=HA.out;rw[← HN1.out]at h;exact h.done);obtain⟨b0,b1,b2,b3,b4,b5,b6,b7⟩:=HB8.out _ HB.out;go_wp2_with fail
   clear b0 b1 b2 b3 b4 b5 b6 b7;go_loopw [25] (fun i wr=>∃ k:Nat,k≤n2∧i=.int .i64 (k:Int)∧Hid (Below W.heap.size W wr)∧Hid (W0 (funIn n0) m.funs WW k)) (fun i _=>n2 - (intOf i).toNat)
   case atStart=>exact⟨0,nZ _,rfl,HB,hD (W0.zero _ _ _)⟩
   case round =>
    obtain⟨w0,rfl⟩:∃ w0,w0=wr:=⟨_,rfl⟩;obtain⟨k,hk,rfl,HB,HA⟩:=hrel;by_cases hlt:k<n2
    ·have hd:decide ((k:Int)<(n2:Int))=true:=by simp;omega
     have hd2:decide (k<n2)=true:=by simp;omega
     obtain⟨g,o,c',he,hq1,hq2⟩:=Wd.some_ Q2.out (by rw[HN2.out];omega);rw[HN2.out]at hq1;unfold maxLen at hq2;simp only[vI]at he;obtain⟨rfl,-,rfl⟩:=he;have hAT:=FunsK.keep (K':=fun k=>k<w0.heap.size) Q2.out (We.below HB.out fun _ hk=>hk) (fun _ hk=>Ve hk HB.out.size);obtain⟨u0,k0,h0⟩:=Wd.at_ hAT k 0 (by rw[HN2.out];exact hlt) (by decide);obtain⟨u1,k1,h1⟩:=Wd.at_ hAT k 1 (by rw[HN2.out];exact hlt) (by decide);obtain⟨u2,k2,h2⟩:=Wd.at_ hAT k 2 (by rw[HN2.out];exact hlt) (by decide);have HMEM:=hD (WA m.funs k WW (by rw[HN2.out];exact hlt));have HNO:=hD (fun (h:(funIn n0) (m.funs.getD k WW)=false)=>VM (p:=funIn n0) (by rw[HN2.out];exact hlt) h);have HYE:=hD (fun (h:(funIn n0) (m.funs.getD k WW)=true)=>HA.out.succ h);clear hAT;generalize m.funs.getD k WW=x at h0 h1 h2 HNO HYE HMEM;obtain⟨x1,x2,x3⟩:=x;obtain rfl:u0=.int .i64 x1:=h0;have h1:Wf (fun g=>g<w0.heap.size) w0 u1 x2:=h1;have h2:Uc (fun g=>g<w0.heap.size) w0 u2 x3:=h2;obtain⟨P1,p1,rfl,_,_⟩:=h1.form;obtain⟨P2,p2,rfl,_,_⟩:=Wd.form h2;generalize hm1:x2.length=m1 at *;generalize hm2:x3.length=m2 at *;clear hm1 hm2 h1 h2;rw[Nat.add_zero]at k0;have hnx:=Wb (bR w0.heap.size w0) (.cells #[.int .i64 x1,.slice P1 m1 p1,.slice P2 m2 p2] 68);have HC:Hid (∀ wz,Below (w0.alloc (.cells #[.int .i64 x1,.slice P1 m1 p1,.slice P2 m2 p2] 68)).heap.size (w0.alloc (.cells #[.int .i64 x1,.slice P1 m1 p1,.slice P2 m2 p2] 68)) wz→(wz.cell? ⟨w0.heap.size,0,none⟩=some (.int .i64 x1)∧wz.cell? ⟨w0.heap.size,1,none⟩=some (.slice P1 m1 p1)∧wz.cell? ⟨w0.heap.size,2,none⟩=some (.slice P2 m2 p2))∧Box8 wz w.heap.size (.slice A0 n0 c0) (.slice A1 n1 c1) (.slice (some ⟨g,o,none⟩) n2 c2) (.slice A3 n3 c3) (.slice A4 n4 c4) (.slice A5 n5 c5) (.slice A6 n6 c6) (.slice A7 n7 c7)):=hD fun wz hb=>by
      have h9:∀ i,wz.cell? ⟨w0.heap.size,i,none⟩=(#[.int .i64 x1,.slice P1 m1 p1,.slice P2 m2 p2]:Array Value)[i]?:=fun i=>(hb.cell (p:=⟨w0.heap.size,i,none⟩) (by simp)).trans (wN w0 _ _ i);exact⟨⟨h9 0,h9 1,h9 2⟩,HB8.out wz (Wa HB.out (Wa hnx hb))⟩
     obtain⟨-,b0,b1,b2,b3,b4,b5,b6,b7⟩:=HC.out _ (bR _ _);cases hb0:(Wi x1 n0) with
     | false =>
      have HF:=hD (HNO.out hb0);have HBZ:=hD hb0;clear HNO HYE;go_wp2_with (go_at_call 72;refine(chkin_any _ _ _).mono ?_;rintro e w1 ⟨rfl,rfl⟩;try rw[HBZ.out])
      go_ret;exact⟨WV (by unfold Ub;rw[← HN0.out]at HF;rw[HF.out,Bool.and_false]),Wa HBW.out (Wa HB.out hnx)⟩
     | true =>
      exact ZcE
    ·have hd:decide ((k:Int)<(n2:Int))=false:=by simp;omega
     have hd2:decide (k<n2)=false:=by simp;omega
     obtain rfl:n2=k:=by omega
     have HF2:=hD (show m.funs.all (funIn n0)=true by have h:=HA.out;rw[← HN2.out]at h;exact h.done);obtain⟨b0,b1,b2,b3,b4,b5,b6,b7⟩:=HB8.out _ HB.out;go_wp2;go_ret;exact⟨WV (by unfold Ub;rw[← HN0.out]at HF1 HF2;rw[HF1.out,HF2.out];rfl),Wa HBW.out HB.out⟩
end
section
open Go.RowKit
set_option maxHeartbeats 8000000
set_option maxRecDepth 100000
def agreesC (p:Pl) (q:List Int) (n:Int):Bool:=(Ww p n.toNat).length==q.length && Vm (WT p.f).h (WT p.f).dead p.s (Ww p n.toNat)
theorem branch_is {p p3:Pl} {l:List Int} (h:WI p [127]=some p3):Uw p l=if l.all (agreesC p3 (Ww p3 (l.getD (l.length - 1) 0).toNat)) then Vo p3 (Ww p3 (l.getD (l.length - 1) 0).toNat) else none:=by
 unfold Uw;rw[h,Option.bind_some];rfl
theorem branch_any {F:Wx} {w:World} {x:Ws} (hF:F.prg) (h:Wk F w x) (h0:0<x.f.length) (hs:x.s.length≤900000) (hh:x.top.h≤x.s.length) (lv:Value) (l:List Int) (hl:Wf (Wq F w x) w lv l) (hne:0<l.length)
 (hex:∀ j,j<l.length→∃ k:Nat,l.getD j 0=(k:Int)∧k<x.f.length) (hll:∀ k,(Ww x.pl k).length≤100000) :
 Calls Tryz.prog 125 #[.pointer (some ⟨F.G,0,none⟩),lv] w (Vy F w x (Uw x.pl l)):=by
 have hg1:=h.alloc (.cells #[.int .i64 127] 3);have hi:=WH w (bR w.heap.size w) 127;have HTK:=hD (UQ hF hg1.1 h0 (by omega) _ [127] (hi.keep (.refl _ _) fun k hk=>⟨hk.2,h.new_free hk.1⟩) (by simp) hh);obtain⟨gl,ol,cl,hlv,hml,_⟩:=hl.some_ hne;have HL:=hD (hg1.2.ints hl);rw[hlv]at HL ⊢;have HG1:=hD hg1;have HF:=hD hF;have HH:=hD (⟨h0,hs,hh⟩:0<x.f.length∧x.s.length≤900000∧x.top.h≤x.s.length);have HEX:=hD hex;have HLL:=hD hll;have hxpf:x.pl.f.length=x.f.length:=by unfold Ws.pl;simp
 obtain⟨r,hr⟩:∃ r,Uw x.pl l=r:=⟨_,rfl⟩;rw[hr];have HRR:=hD hr;unfold maxLen at hml;obtain⟨n,hn⟩:∃ n,l.length=n:=⟨_,rfl⟩;have HN:=hD hn;rw[hn]at HL hml hne HEX ⊢;clear hg1 hi hF h h0 hs hh hl hlv hex hll hr hn hxpf;cases hR:Vm x.top.h x.top.dead x.s [127] with
 | false =>
  have hr:r=none:=by rw[← HRR.out];unfold Uw;rw[take_no hR];rfl
  subst hr;rw[hR]at HTK;clear hR HRR;go_enter Tryz.func125,Tryz.ntmps125;exact ZcO
 | true =>
  have HTY:=hD (U9 hR);rw[hR]at HTK;clear hR;have e1:IntKind.i64.wrap ((n:Int) - 1)=((n - 1:Nat):Int):=by rw[show((n:Int) - 1)=((n - 1:Nat):Int) by omega];exact IntWalk.i64_in _ (by omega)
  have hn1:n - 1<n:=by omega
  go_enter Tryz.func125,Tryz.ntmps125
  go_upto_region 3 with (go_at_call 129;refine HTK.out.mono ?_;rintro e w3 ⟨rfl,x3,g3,s3,hf3,hs3⟩;have HG3:=hD g3;have HS3:=hD s3;have HF3:=hD hf3;have HX3:=hD (hs3 rfl);clear g3 s3 hf3 hs3)
  have HL3:=hD (HS3.out.ints HL.out);have hx3:(⟨x.s.take (max (x.s.length - [(127:Int)].length) x.top.h),x.pl.f⟩:Pl)=x3.pl:=by
   unfold Ws.pl;rw[HF3.out,HX3.out]
  have HBR:=hD (HRR.out.symm.trans (branch_is (l:=l) (HTY.out.trans (by rw[hx3]))));have HLQ:Hid (∀ k,Ww x3.pl k=Ww x.pl k):=hD fun k=>by rw[label_is,label_is,HF3.out]
  obtain⟨kl,hkl,hkf⟩:=HEX.out (n - 1) hn1;have k2:=HL3.out.at_ (n - 1) hn1;rw[hkl]at k2;have hk2:w3.drew.cell? ⟨gl,ol+(n - 1),none⟩=some (.int .i64 (kl:Int)):=k2;have HK2:=hD hk2;have HKL:=hD hkl;rw[HN.out,hkl]at HBR;have hg4:=HG3.out.below ((bR w3.heap.size w3).drew);have HLA:=hD (label_any HF.out hg4.1 kl (by rw[HF3.out];exact hkf));have HG4:=hD hg4;have HL4:=hD (hg4.2.ints HL3.out);obtain⟨q,hq⟩:∃ q,Ww x3.pl kl=q:=⟨_,rfl⟩;have HQL:Hid (q.length≤100000):=hD (by rw[← hq,HLQ.out];exact HLL.out kl);rw[show((kl:Int).toNat)=kl from rfl,hq]at HBR;rw[hq]at HLA;clear hx3 k2 hk2 hkl hg4 hq hkf;refine wp_region_held_drew (S:=fun wz=>wz.cell? ⟨gl,ol+(n - 1),none⟩=some (.int .i64 (kl:Int))) (by kernel_rfl) HK2.out (fun hS=>?_);show wpAnyH _ _ _ _ _ 11 #[false,false,false,false,false,false,false,false,false,false,false] _ _;refine mT 0 15 rfl hS ?_;refine mT 1 16 rfl hS ?_;refine mT 2 17 rfl hS ?_;refine mT 3 18 rfl hS ?_;refine mT 4 19 rfl hS ?_;refine mT 5 20 rfl hS ?_;refine mT 6 21 rfl hS ?_;refine mT 7 22 rfl hS ?_;refine mT 8 23 rfl hS ?_;refine mR 9 24 rfl fun K hK=>?_;go_simp;go_at_call 124;refine HLA.out.mono ?_;rintro e w5 ⟨A5,c5,rfl,g5,s5,hv5⟩;go_wp2_with fail
  have hl5:=s5.ints HL4.out;have hS5:=hl5.at_ (n - 1) hn1;rw[HKL.out]at hS5;refine hK.out _ _ hS5 (fun _=>?_);clear hK K hS;try simp only[sA,List.set]
  refine mT 10 5 rfl hS5 ?_;refine wpAnyH_done (by kernel_rfl) ?_ _;have HG5:=hD g5;have HS5:=hD (((HG1.out.2.trans HS3.out).trans HG4.out.2).trans s5);have HV5:=hD hv5;have HL5:=hD hl5;have HHT:Hid (x3.top=x.top):=hD (by unfold Ws.top;rw[HF3.out]);have HSL:Hid (x3.s.length≤900000∧x3.top.h≤x3.s.length):=hD (by rw[HHT.out,HX3.out,List.length_take];have:=HH.out.2.1;have:=HH.out.2.2;omega);clear g5 s5 hv5 hS5 hl5 HL3 HL4 HK2;go_wp2_with fail
  go_loopw [27] (fun i wr=>∃ k:Nat,k≤n∧i=.int .i64 (k:Int)∧Hid (Wk F wr x3)∧Hid (Wz F w5 x3 wr x3)∧Hid (∀ j,j<k→agreesC x3.pl q (l.getD j 0)=true)) (fun i _=>n - (intOf i).toNat)
  case atStart=>exact⟨0,nZ _,rfl,HG5,hD (Wz.refl _ _ _),hD (fun j hj=>absurd hj (Nat.not_lt_zero j))⟩
  case round =>
   obtain⟨k,hk,rfl,HGR,HSR,HJ⟩:=hrel;by_cases hkn:k<n
   ·have hkk0:(0:Int)≤k:=Int.natCast_nonneg _;have hd:decide ((k:Int)<(n:Int))=true:=by simp;omega
    have hd':decide (k<n)=true:=decide_eq_true hkn;obtain⟨kk,hkk,hkf⟩:=HEX.out k hkn;have k2:=(HSR.out.ints HL5.out).at_ k hkn;rw[hkk]at k2;have HKK:=hD hkk;have HLA2:=hD (label_any HF.out HGR.out kk (by rw[HF3.out];exact hkf));obtain⟨q2,hq2⟩:∃ q2,Ww x3.pl kk=q2:=⟨_,rfl⟩;have HQ2L:Hid (q2.length≤100000):=hD (by rw[← hq2,HLQ.out];exact HLL.out kk);rw[hq2]at HLA2;have HHO:=hD (fun w6 (g6:Wk F w6 x3) v hv=>holds_any HF.out g6 (by rw[HF3.out];exact HH.out.1) (by have:=HSL.out.1;omega) v q2 hv (by have:=HQ2L.out;omega) HSL.out.2);have HAC:Hid (agreesC x3.pl q (l.getD k 0)=(q2.length==q.length && Vm x3.top.h x3.top.dead x3.s q2)):=hD (by
     unfold agreesC;rw[HKK.out,show((kk:Int).toNat)=kk from rfl,hq2,Ws.pl_top];rfl)
    have HNO:Hid (agreesC x3.pl q (l.getD k 0)=false→r=none):=hD fun hf=>by rw[HBR.out,allI_no (p:=agreesC x3.pl q) (j:=k) (by rw[HN.out];exact hkn) hf];rfl
    clear hkk hkf hq2;by_cases hle:q2.length=q.length
    ·have d1:((q2.length:Int) != (q.length:Int))=false:=by simp;omega
     have d2:(q2.length != q.length)=false:=by simpa using hle
     rw[beq_iff_eq.2 hle,Bool.true_and]at HAC;clear hle;cases hb:Vm x3.top.h x3.top.dead x3.s q2 with
     | false =>
      rw[hb]at HHO HAC;have hr:=HNO.out HAC.out;subst hr;clear hb;go_wp2_with (first|(go_at_call 124;refine HLA2.out.mono ?_;rintro e w6 ⟨A6,c6,rfl,g6,s6,hv6⟩;have HG6:=hD g6;have HS6:=hD s6;have HV6:=hD hv6;clear g6 s6 hv6)|(go_at_call 158;refine(HHO.out _ HG6.out _ HV6.out).mono ?_;rintro e w7 ⟨rfl,mm,rfl⟩))
      go_ret;have h7:=HG6.out.below (Wt (bR _ _) mm);exact⟨x3,h7.1,((HS5.out.trans HSR.out).trans HS6.out).trans h7.2,rfl,fun p hp=>(by cases hp)⟩
     | true =>
      rw[hb]at HHO HAC;clear hb;go_wp2_with (first|(go_at_call 124;refine HLA2.out.mono ?_;rintro e w6 ⟨A6,c6,rfl,g6,s6,hv6⟩;have HG6:=hD g6;have HS6:=hD s6;have HV6:=hD hv6;clear g6 s6 hv6)|(go_at_call 158;refine(HHO.out _ HG6.out _ HV6.out).mono ?_;rintro e w7 ⟨rfl,mm,rfl⟩))
      have h7:=HG6.out.below (Wt (bR _ _) mm);have HG7:=hD h7.1;have HS7:=hD ((HSR.out.trans HS6.out).trans h7.2);clear h7;go_roundw
      case rel=>exact⟨k+1,by omega,by go_num,HG7,HS7,hD (fun j hj=>by
       rcases Nat.lt_or_ge j k with h1|h1
       ·exact HJ.out j h1
       ·obtain rfl:j=k:=by omega
        exact HAC.out)⟩
      case measure=>simp[intOf];omega
    ·have d1:((q2.length:Int) != (q.length:Int))=true:=by simp;omega
     have d2:(q2.length != q.length)=true:=by simpa using hle
     rw[beq_eq_false_iff_ne.2 hle,Bool.false_and]at HAC;have hr:=HNO.out HAC.out;subst hr;clear hle;go_wp2_with (first|(go_at_call 124;refine HLA2.out.mono ?_;rintro e w6 ⟨A6,c6,rfl,g6,s6,hv6⟩;have HG6:=hD g6;have HS6:=hD s6;have HV6:=hD hv6;clear g6 s6 hv6))
     go_ret;exact⟨x3,HG6.out,(HS5.out.trans HSR.out).trans HS6.out,rfl,fun p hp=>(by cases hp)⟩
   ·have hd:decide ((k:Int)<(n:Int))=false:=by simp;omega
    have hd':decide (k<n)=false:=decide_eq_false hkn;have hr:r=Vo x3.pl q:=by rw[HBR.out,allI_yes (p:=agreesC x3.pl q) (fun j hj=>HJ.out j (by rw[HN.out]at hj;omega))];rfl
    subst hr;have HLV:=hD (leave_fol HF.out HGR.out (by rw[HF3.out];exact HH.out.1) (by have:=HSL.out.1;omega) _ q (HSR.out.ints HV5.out) (by have:=HQL.out;omega) HSL.out.2);go_wp2_with (go_at_call 123;refine HLV.out.mono ?_;rintro e w8 ⟨x8,g8,s8,rfl,hp8⟩;have HG8:=hD g8;have HS8:=hD s8;have HP8:=hD hp8;clear g8 s8 hp8)
    go_ret;exact⟨x8,HG8.out,(HS5.out.trans HSR.out).trans HS8.out,rfl,HP8.out⟩
end
section
def Ue (ops:List Int) (out:List Sp) (k:Nat):Int:=if (WR out k).2.1 = -1 then ops.getD (WR out k).1.toNat 0 else 5
def opF (p:Pl):List Int:=p.f.map Fr.op
def FI (ops:List Int) (s:MSt) (p:Pl):Prop:=∃ o,opF p=o :: s.op.map (Ue ops s.out)
theorem takeC_opF {p q:Pl} {l:List Int} (h:WI p l=some q):opF q=opF p:=by
 unfold WI at h
 split at h
 ·simp only[Option.some.injEq]at h;subst h;rfl
 ·cases h
theorem set_opF (f:List Fr) (b:Bool):(f.set (f.length - 1) { WT f with dead:=b }).map Fr.op=f.map Fr.op:=by
 rcases List.eq_nil_or_concat f with rfl|⟨g,t,rfl⟩
 ·rfl
 ·rw[List.concat_eq_append,topF_snoc];simp
theorem deadC_opF (p:Pl):opF (VP p)=opF p:=by unfold opF VP;exact set_opF p.f true
theorem leaveC_opF {p q:Pl} {l:List Int} (h:Vo p l=some q):opF q=opF p:=by
 unfold Vo at h;obtain⟨r,h1,rfl⟩:=Option.map_eq_some_iff.1 h;rw[deadC_opF,takeC_opF h1]
theorem popC_opF {p:Pl} {u:Int×Pl} (h:UD p=some u):opF u.2=opF p:=by
 unfold UD at h
 split at h
 ·split at h
  ·simp only[Option.some.injEq]at h;subst h;rfl
  ·cases h
 ·simp only[Option.some.injEq]at h;subst h;rfl
theorem finishC_opF {p:Pl} {u:Fr×Pl} (h:VT p=some u):opF u.2=(opF p).dropLast:=by
 unfold VT at h;obtain⟨r,h1,h2⟩:=Option.bind_eq_some_iff.1 h
 split at h2
 ·simp only[Option.some.injEq]at h2;subst h2;unfold opF;rw[← List.dropLast_eq_take,List.map_dropLast]
 ·cases h2
theorem followC_opF {e:U5} {p q:Pl} {x:Vl} (h:Wu e p x=some q) :
 opF q=if 2≤x.op∧x.op≤4 then opF p++[x.op] else if x.op=5 then (opF p).dropLast++[5] else if x.op=11 then (opF p).dropLast else opF p:=by
 unfold Wu at h;by_cases c0:x.op=2∨x.op=3∨x.op=4
 ·rw[if_pos c0]at h;rw[if_pos (by omega)];unfold openC at h;obtain⟨p1,h1,h2⟩:=Option.bind_eq_some_iff.1 h;obtain⟨p2,h3,rfl⟩:=Option.map_eq_some_iff.1 h2;have h4:opF p1=opF p:=by
   split at h1
   ·exact takeC_opF h1
   ·simp only[Option.some.injEq]at h1;subst h1;rfl
  rw[← h4,← takeC_opF h3];unfold opF WY;simp
 rw[if_neg c0]at h;rw[if_neg (show ¬ (2≤x.op∧x.op≤4) by omega)];by_cases c1:x.op=5
 ·rw[if_pos c1]at h;rw[if_pos c1];unfold divideC at h;obtain⟨u,h1,rfl⟩:=Option.map_eq_some_iff.1 h;rw[← finishC_opF h1];unfold opF WY;simp
 rw[if_neg c1]at h;rw[if_neg c1];by_cases c2:x.op=11
 ·rw[if_pos c2]at h;rw[if_pos c2];unfold closeC at h;obtain⟨u,h1,h2⟩:=Option.bind_eq_some_iff.1 h
  split at h2
  ·cases h2
  ·simp only[Option.some.injEq]at h2;subst h2;exact finishC_opF h1
 rw[if_neg c2]at h;rw[if_neg c2];by_cases c3:x.op=0
 ·rw[if_pos c3]at h;exact leaveC_opF h
 rw[if_neg c3]at h;by_cases c4:x.op=12
 ·rw[if_pos c4]at h;exact leaveC_opF h
 rw[if_neg c4]at h;by_cases c5:x.op=14
 ·rw[if_pos c5]at h;unfold Uw at h;obtain⟨p1,h1,h2⟩:=Option.bind_eq_some_iff.1 h
  split at h2
  ·rw[leaveC_opF h2,takeC_opF h1]
  ·cases h2
 rw[if_neg c5]at h;by_cases c6:x.op=15
 ·rw[if_pos c6]at h;exact leaveC_opF h
 rw[if_neg c6]at h;by_cases c7:x.op=18
 ·rw[if_pos c7]at h
  split at h
  ·exact leaveC_opF h
  ·cases h
 rw[if_neg c7]at h;by_cases c8:x.op=26
 ·rw[if_pos c8]at h;obtain⟨u,h1,rfl⟩:=Option.map_eq_some_iff.1 h;exact popC_opF h1
 rw[if_neg c8]at h;by_cases c9:x.op=27
 ·rw[if_pos c9]at h;unfold Uu at h;obtain⟨p1,h1,h2⟩:=Option.bind_eq_some_iff.1 h;obtain⟨u,h3,h4⟩:=Option.bind_eq_some_iff.1 h2;obtain⟨l,h5,h6⟩:=Option.bind_eq_some_iff.1 h4
  split at h6
  ·simp only[Option.some.injEq]at h6;subst h6;show opF l.2=_;rw[popC_opF h5,popC_opF h3,takeC_opF h1]
  ·cases h6
 rw[if_neg c9]at h;by_cases c10:x.op=36
 ·rw[if_pos c10]at h
  split at h
  ·exact takeC_opF h
  ·cases h
 rw[if_neg c10]at h;obtain⟨p1,h1,rfl⟩:=Option.map_eq_some_iff.1 h;show opF p1=_;exact takeC_opF h1
theorem stepC_follow {e:U5} {p:Pl} {x:Vl} (h:(Vr e p x).1=0):Wu e p x=some (Vr e p x).2:=by
 unfold Vr at h ⊢
 split at h
 ·cases h
 rename_i h1
 rw[if_neg h1]
 split at h
 ·cases h
 rename_i h2
 rw[if_neg h2]
 split at h
 ·cases h
 rename_i h3
 rw[if_neg h3];cases hf:Wu e p x with
 | none=>rw[hf]at h;cases h
 | some q=>rfl
theorem begOf_snoc {ops:List Int} {out:List Sp} {a:Sp} {l:List Nat} (h:∀ k ∈ l,k<out.length):l.map (Ue ops (out++[a]))=l.map (Ue ops out) :=
 List.map_congr_left fun k hk=>by
  unfold Ue;rw[show WR (out++[a]) k=WR out k by rw[V4,if_neg (show ¬ k=out.length by have:=h k hk;omega)]]
theorem begOf_set {ops:List Int} {out:List Sp} {a:Sp} {k0:Nat} {l:List Nat} (h0:k0<out.length) (h:∀ k ∈ l,k≠k0):l.map (Ue ops (out.set k0 a))=l.map (Ue ops out) :=
 List.map_congr_left fun k hk=>by
  unfold Ue;rw[show WR (out.set k0 a) k=WR out k by rw[VG _ _ _ _ h0,if_neg (h k hk)]]
theorem FI.step {ops:List Int} {z:Int} {i:Nat} {s t:MSt} {e:U5} {p:Pl} {x:Vl} (hI:MInv ops i s) (h:FI ops s p) (hx:ops.getD i 0=x.op) (hs:V3 ops z i s=some t) (hz:(Vr e p x).1=0):FI ops t (Vr e p x).2:=by
 obtain⟨o,ho⟩:=h;have hf:=followC_opF (stepC_follow hz);rcases mstep_cases hs with ⟨h1,rfl⟩|⟨k0,hop,hk,h4i,he,rfl⟩|⟨k0,hop,hk,rfl⟩|⟨h1,rfl⟩
 ·rw[hx]at h1;rw[if_pos h1,ho]at hf;refine⟨o,?_⟩;rw[hf];show _=o :: List.map (Ue ops (s.out++[_])) (s.op++[s.out.length]);rw[List.map_append,begOf_snoc hI.lt];have hb:Ue ops (s.out++[((i:Int),-1,z)]) s.out.length=x.op:=by
   unfold Ue;rw[V4,if_pos rfl,if_pos rfl];show ops.getD (i:Int).toNat 0=_;rw[Int.toNat_natCast];exact hx
  simp[hb]
 ·rw[hx]at hop;have hk0:k0<s.out.length:=hI.lt k0 (by rw[hk];simp);have hpw:=hI.asc;rw[hk]at hpw;have hne:∀ k ∈ s.op.dropLast,k≠k0:=fun k hk'=>by have:=top_max hpw k hk';omega
  rw[if_neg (by omega),if_pos hop,ho]at hf;have hb:Ue ops (s.out.set k0 ((WR s.out k0).1,(i:Int),(WR s.out k0).2.2)) k0=5:=by
   unfold Ue;rw[VG _ _ _ _ hk0,if_pos rfl];exact if_neg (by simp only;omega)
  refine⟨o,?_⟩;have e1:s.op.map (Ue ops s.out)=s.op.dropLast.map (Ue ops s.out)++[Ue ops s.out k0]:=by
   have:=congrArg (List.map (Ue ops s.out)) hk;rw[List.map_append]at this;exact this
  have e2:s.op.map (Ue ops (s.out.set k0 ((WR s.out k0).1,(i:Int),(WR s.out k0).2.2)))=s.op.dropLast.map (Ue ops s.out)++[5]:=by
   have:=congrArg (List.map (Ue ops (s.out.set k0 ((WR s.out k0).1,(i:Int),(WR s.out k0).2.2)))) hk;rw[List.map_append,begOf_set hk0 hne]at this;rw[this];simp[hb]
  rw[hf,e1];show _=o :: List.map (Ue ops (s.out.set k0 _)) s.op;rw[e2,← List.cons_append,List.dropLast_concat,List.cons_append]
 ·rw[hx]at hop;have hk0:k0<s.out.length:=hI.lt k0 (by rw[hk];simp);have hpw:=hI.asc;rw[hk]at hpw;have hne:∀ k ∈ s.op.dropLast,k≠k0:=fun k hk'=>by have:=top_max hpw k hk';omega
  rw[if_neg (by omega),if_neg (by omega),if_pos hop,ho]at hf;refine⟨o,?_⟩;have e1:s.op.map (Ue ops s.out)=s.op.dropLast.map (Ue ops s.out)++[Ue ops s.out k0]:=by
   have:=congrArg (List.map (Ue ops s.out)) hk;rw[List.map_append]at this;exact this
  rw[hf,e1];show _=o :: List.map (Ue ops (s.out.set k0 _)) s.op.dropLast;rw[begOf_set hk0 hne,← List.cons_append,List.dropLast_concat]
 ·rw[hx]at h1;rw[if_neg h1.1,if_neg h1.2.1,if_neg h1.2.2,ho]at hf;exact⟨o,hf⟩
theorem FI.pos {ops:List Int} {s:MSt} {p:Pl} (h:FI ops s p):0<p.f.length:=by
 obtain⟨o,ho⟩:=h;have:=congrArg List.length ho;unfold opF at this;simp at this;omega
theorem FI.place {ops:List Int} {z:Int} {i:Nat} {s t:MSt} {p:Pl} {x:Vl} (h:FI ops s p) (hx:ops.getD i 0=x.op) (hs:V3 ops z i s=some t) (hk:W9 x.op=true):Vc p x.op=true:=by
 have h0:=h.pos;unfold Vc;rw[if_neg (by omega)];by_cases c:x.op=5
 ·rw[if_pos c];obtain⟨o,ho⟩:=h;rcases mstep_cases hs with ⟨h1,_⟩|⟨k0,hop,hk',h4i,he,_⟩|⟨k0,hop,_⟩|⟨h1,_⟩
  ·omega
  ·have hb:Ue ops s.out k0=4:=by unfold Ue;rw[if_pos he];exact h4i
   rw[hk',List.map_append,← List.cons_append]at ho;simp only[List.map_cons,List.map_nil,hb]at ho;obtain⟨g,t',e⟩:=snoc_of p.f h0;unfold opF at ho;rw[e,List.map_append]at ho;have h2:=(List.append_inj' ho rfl).2;simp only[List.map_cons,List.map_nil,List.cons.injEq,and_true]at h2;rw[e,topF_snoc];exact decide_eq_true h2
  ·omega
  ·exact absurd c (by rw[← hx];exact h1.2.1)
 ·rw[if_neg c];exact hk
end
section
open Go.RowKit
set_option maxHeartbeats 4000000
set_option maxRecDepth 100000
theorem follow_14 {F:Wx} {w:World} {x:Ws} (hF:F.prg) (h:Wk F w x) (h0:0<x.f.length) (hs:x.s.length≤900000) (hh:x.top.h≤x.s.length) (a b n:Int) (l:List Int) (Al:Option Addr) (nl cl:Nat) (hl:Wf (Wq F w x) w (.slice Al nl cl) l) (hne:0<l.length)
 (hex:∀ j,j<l.length→∃ k:Nat,l.getD j 0=(k:Int)∧k<x.f.length) (hll:∀ k,(Ww x.pl k).length≤100000) :
 Calls Tryz.prog 84 #[.pointer (some ⟨F.G,0,none⟩),.agg #[.int .i64 14,.int .i64 a,.int .i64 b,.int .u64 n,.slice Al nl cl]] w (Vy F w x (Wu F.env x.pl ⟨14,a,b,n,l⟩)):=by
 rw[show Wu F.env x.pl ⟨14,a,b,n,l⟩=Uw x.pl l by unfold Wu;simp];obtain⟨W,hW⟩:∃ W,W=w.alloc (.cells #[.int .i64 14,.int .i64 a,.int .i64 b,.int .u64 n,.slice Al nl cl] 25):=⟨_,rfl⟩;have k0:W.cell? ⟨w.heap.size,0,none⟩=some (.int .i64 14):=by rw[hW,wN];rfl
 have k4:W.cell? ⟨w.heap.size,4,none⟩=some (.slice Al nl cl):=by rw[hW,wN];rfl
 have HG1:=hD (hW ▸ h.alloc (.cells #[.int .i64 14,.int .i64 a,.int .i64 b,.int .u64 n,.slice Al nl cl] 25):Wk F W x∧Wz F w x W x);have HW:=hD hW;have HT:=hD (branch_any hF HG1.out.1 h0 hs hh _ l (HG1.out.2.ints hl) hne hex hll);clear hW h hl hex hll;generalize Uw x.pl l=r at HT ⊢;go_enter Tryz.func84,Tryz.ntmps84
 go_upto_region 1 with (fail)
 rw[← HW.out];go_wp2_with (go_at_call 125;refine HT.out.mono ?_;rintro e w3 ⟨x3,g3,s3,rfl,hp3⟩;have HG3:=hD g3;have HS3:=hD s3;have HP3:=hD hp3;clear g3 s3 hp3)
 exact Zc3
end
section
open Go.RowKit
set_option maxHeartbeats 4000000
set_option maxRecDepth 100000
theorem effect_35 {F:Wx} {w:World} {x:Ws} (hF:F.prg) (h:Wk F w x) (k:Nat) (hk:k<F.m.globs.length) (b n:Int) (Al:Option Addr) (nl cl:Nat) :
 Calls Tryz.prog 130 #[.pointer (some ⟨F.G,0,none⟩),.agg #[.int .i64 35,.int .i64 (k:Int),.int .i64 b,.int .u64 n,.slice Al nl cl]] w (Uv ([],[(F.m.globs.getD k glob0).1]) w):=by
 obtain⟨W,hW⟩:∃ W,W=w.alloc (.cells #[.int .i64 35,.int .i64 (k:Int),.int .i64 b,.int .u64 n,.slice Al nl cl] 25):=⟨_,rfl⟩;have k0:W.cell? ⟨w.heap.size,0,none⟩=some (.int .i64 35):=by rw[hW,wN];rfl
 have k1:W.cell? ⟨w.heap.size,1,none⟩=some (.int .i64 (k:Int)):=by rw[hW,wN];rfl
 have hb:Below w.heap.size w W:=hW ▸ (bR _ _).alloc (nR _) _;have hg:=(h.below hb).1;have hm:=hg.reads.mod.globs;obtain⟨gl,ol,cl2,hgv,hn1,hml⟩:=Wd.some_ hm (by omega);rw[hgv]at hm;obtain⟨u,hu,hu2⟩:=Wd.at_ hm k 0 hk (by decide);have c1:W.cell? ⟨gl,ol+k * 3,none⟩=some (.int .i64 (F.m.globs.getD k glob0).1):=hu.trans (congrArg some (show u=Value.int .i64 (F.m.globs.getD k glob0).1 from hu2));have p1:=(hg.q hF).2.1;rw[hgv]at p1;generalize (F.m.globs.getD k glob0).1=t at c1 ⊢;have HK1:=hD (fun wz (hz:Below W.heap.size W wz)=>(hz.cell (wL W _ k1)).trans k1);have HLO:=hD (fun wz (hz:Below W.heap.size W wz)=>(hz.cell (wL W _ p1)).trans p1);have HCE:=hD (fun wz (hz:Below W.heap.size W wz)=>(hz.cell (wL W _ c1)).trans c1);have HW:=hD hW;have HB:=hD hb;clear hW hb hg hm hgv hu hu2 k1 p1 c1 h hF;generalize F.m.globs.length=m at *;go_enter Tryz.func130,Tryz.ntmps130
 go_upto_region 1 with (fail)
 rw[← HW.out]
 go_upto_region 15 with (fail)
 refine wp_region_held_drew (S:=fun wz=>Below W.heap.size W wz) (by kernel_rfl) ((bR _ _).drew) (fun hS=>?_);show wpAnyH _ _ _ _ _ 13 #[false,false,false,false,false,false,false,false,false,false,false,false,false] _ _;generalize W.drew=w1 at hS ⊢;refine mT 0 84 rfl hS ?_;refine mT 1 85 rfl hS ?_;refine mT 2 86 rfl hS ?_;refine mT 3 87 rfl hS ?_;refine mT 4 88 rfl hS ?_ (hy:=by intro w' hSw;have p1:=HLO.out _ hSw;go_simp;try with_reducible rfl);refine mT 5 89 rfl hS ?_;refine mT 6 90 rfl hS ?_ (hy:=by intro w' hSw;have k1:=HK1.out _ hSw;go_simp;try with_reducible rfl);refine mT 7 91 rfl hS ?_;refine mT 8 92 rfl hS ?_;refine mT 9 93 rfl hS ?_ (hy:=by intro w' hSw;have c1:=HCE.out _ hSw;go_simp;try with_reducible rfl);refine mT 11 4 rfl hS ?_;refine mR 10 94 rfl fun K hK=>?_;go_simp;refine hK.out _ _ (hS.alloc hS.size _) (fun hS'=>?_);clear hK K;try simp only[sA,List.set]
 refine mT 12 5 rfl hS' ?_;exact Zcx
end
end Go.Proofs.YtmfpnfdinoofpaaGreatDoor
