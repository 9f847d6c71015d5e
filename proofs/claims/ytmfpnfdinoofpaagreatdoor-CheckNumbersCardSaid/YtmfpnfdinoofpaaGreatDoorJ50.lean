/- A part of the proof. -/
import Derived.Test.YtmfpnfdinoofpaaGreatDoorJ49
import Derived.Test.YtmfpnfdinoofpaaGreatDoorJ35
namespace Go.Proofs.YtmfpnfdinoofpaaGreatDoor
section
open Go.RowKit
set_option maxHeartbeats 8000000
set_option maxRecDepth 100000
theorem Z1 {P:Prop}(h:P:=by
 obtain⟨r1,r2⟩:=r;have e1:IntKind.i64.wrap ((k:Int)+1)=(k:Int)+1:=IntWalk.i64_in _ (by omega);by_cases hz:r2=0
 ·subst hz;have HAZ:=hD (HAN.out rfl);clear HAT HAN;go_wp2_with (go_at_call 22;refine(HCF.out).mono ?_;rintro e w1 ⟨rv1,rfl,hb1⟩;have HB1:=hD (Wa HB.out hb1);clear hb1)
  go_roundw
  case rel=>exact⟨k+1,by omega,by go_num,HB1,HAZ⟩
  case measure=>simp[intOf];omega
 ·have hzb:(r2 != 0)=true:=by simpa using hz
  have HAZ:=hD (HAT.out hz);clear HAT HAN hz;go_wp2_with (go_at_call 22;refine(HCF.out).mono ?_;rintro e w1 ⟨rv1,rfl,hb1⟩;have HB1:=hD (Wa HB.out hb1);clear hb1)
  go_ret;exact⟨Vd (HAZ.out).symm,Wa HBW.out HB1.out⟩):P:=h
theorem dahead_types {m:Vt} {prof:Int} (h:V8 m prof=0):Ub m=true:=by
 unfold V8 at h;rw[dsigs_eq]at h;cases hc:Ub m with
 | true=>rfl
 | false=>rw[hc,if_pos rfl]at h;cases h
theorem dmodule_any (w:World) (v:Mv) (m:Vt) (h:W7 (fun k=>k<w.heap.size) w v m) (hT:TypedM m) (hw:Few m) (prof:Int) :
 Calls Tryz.prog 20 #[.agg v.cells,.int .i64 prof] w (ModlPost (VC m prof) w):=by
 have HK:=fun wz (hb:Below w.heap.size w wz)=>(h.keep (We.below hb fun _ hk=>hk) fun _ hk=>Ve hk hb.size:W7 (fun k=>k<wz.heap.size) wz v m);have HR:=hD (fun wz (hb:Below w.heap.size w wz)=>dright_any wz v m (HK wz hb) hT hw);have HMA:=hD (fun wz (hb:Below w.heap.size w wz) (hr:WU m=0)=>dmatched_any wz v m (HK wz hb) (fun f hf=>Nat.le_trans (right_funs hr f hf).2 (by decide)));have HA:=hD (fun wz (hb:Below w.heap.size w wz) (hr:WU m=0)=>dahead_any wz v m (HK wz hb) (Uy hr) hr prof);have HFS:=hD (fun (hr:WU m=0) (hm:Vp UO m.funs=0) (htc:Ub m=true) wz (hb:Below w.heap.size w wz) (f:Nat) (hf:f<m.funs.length)=>(by
  obtain⟨t,ht⟩:=fsig_some htc hf;exact dfunc_ok wz v m (HK wz hb) (Uy hr) hr f hf t ht (firstC_all hm _ (WA _ _ _ hf)) prof:Calls Tryz.prog 22 #[.agg v.cells,.int .i64 (f:Int),.int .i64 prof] wz (DFuncPost (VJ m (f:Int) prof) (drowsC (UI m f prof) (m.funs.getD f WW).code (WY ⟨[],[]⟩ 0 [] (UI m f prof).ro)) wz)))
 have HTC:=hD (dahead_types (m:=m) (prof:=prof));have HSM:=hD (fun hr:WU m=0=>(Uy hr).2.2.1);unfold RightPost AheadPost at *;clear hw hT HK;obtain⟨A0,c0,A1,c1,A2,c2,A3,c3,A4,c4,A5,c5,A6,c6,A7,c7,rfl⟩:=Wr h;simp only[Mv.cells]at HR HMA HA HFS ⊢;clear h;obtain⟨⟨n0,hn0⟩,⟨n1,hn1⟩,⟨n2,hn2⟩,⟨n3,hn3⟩,⟨n4,hn4⟩,⟨n5,hn5⟩,⟨n6,hn6⟩,⟨n7,hn7⟩⟩:=len8 m;have HN2:=hD hn2;have HN3:=hD hn3;rw[hn0,hn1,hn2,hn3,hn4,hn5,hn6,hn7]at HR HMA HA HFS ⊢;rw[hn2]at HSM;obtain⟨W,hW,hbw,HB8⟩:=Vv w (.slice A0 n0 c0) (.slice A1 n1 c1) (.slice A2 n2 c2) (.slice A3 n3 c3) (.slice A4 n4 c4) (.slice A5 n5 c5) (.slice A6 n6 c6) (.slice A7 n7 c7);have HBW:=hD hbw;have HB8:=hD HB8;have HW:=hD hW;obtain⟨b0,b1,b2,b3,b4,b5,b6,b7⟩:=HB8.out W (bR _ _);clear hbw hW hn0 hn1 hn2 hn3 hn4 hn5 hn6 hn7;obtain⟨z,hV⟩:∃ z,VC m prof=z:=⟨_,rfl⟩;have HV0:=hD hV;unfold VC at hV;rw[HN2.out]at hV;rw[HV0.out];clear HV0;by_cases hp:prof≠1∧prof≠2
 ·rw[if_pos hp]at hV;have HV:=hD hV.symm;have p1:(prof != 1)=true:=by simpa using hp.1
  have p2:(prof != 2)=true:=by simpa using hp.2
  clear hp hV HR HMA HA HFS;go_enter Tryz.func20,Tryz.ntmps20
  go_upto_region 1 with (fail)
  rw[← HW.out];go_wp2;go_ret;exact⟨Vd (by rw[HV.out]),HBW.out⟩
 rw[if_neg hp]at hV;have hpp:(prof=1∨prof=2):=by omega
 clear hp;by_cases hr:WU m=0
 case' neg =>
  rw[if_pos hr]at hV;have HV:=hD hV.symm;generalize WU m=rz at *;have r1:(rz != 0)=true:=by simpa using hr
  clear hr;rcases hpp with rfl|rfl
  all_goals
   clear hV HMA HA HFS;go_enter Tryz.func20,Tryz.ntmps20
   go_upto_region 1 with (fail)
   rw[← HW.out];go_wp2_with (go_at_call 43;refine(HR.out _ (Wa HBW.out (bR _ _))).mono ?_;rintro e wr ⟨rfl,hb⟩;have HBr:=hD (Wa (bR _ _) hb);obtain⟨b0,b1,b2,b3,b4,b5,b6,b7⟩:=HB8.out wr HBr.out;clear hb)
   go_ret;exact⟨Vd (by rw[HV.out]),Wa HBW.out HBr.out⟩
 rw[if_neg (by rw[hr];decide)]at hV;have HMA:=hD (fun wz hb=>HMA.out wz hb hr);have HA:=hD (fun wz hb=>HA.out wz hb hr);have HFS:=hD (HFS.out hr);have hn2b:=HSM.out hr;rw[hr]at HR;clear hr HSM;by_cases hm:Vp UO m.funs=0
 case' neg =>
  rw[if_pos hm]at hV;have HV:=hD hV.symm;generalize Vp UO m.funs=mz at *;have r1:(mz != 0)=true:=by simpa using hm
  clear hm;rcases hpp with rfl|rfl
  all_goals
   clear hV HA HFS hn2b;go_enter Tryz.func20,Tryz.ntmps20
   go_upto_region 1 with (fail)
   rw[← HW.out];go_wp2_with (first|(go_at_call 43;refine(HR.out _ (Wa HBW.out (bR _ _))).mono ?_;rintro e wr ⟨rfl,hb⟩;have HBr:=hD (Wa (bR _ _) hb);obtain⟨b0,b1,b2,b3,b4,b5,b6,b7⟩:=HB8.out wr HBr.out;clear hb)|(go_at_call 44;refine(HMA.out _ (Wa HBW.out HBr.out)).mono ?_;rintro e wm ⟨rfl,hb⟩;have HBm:=hD (Wa HBr.out hb);obtain⟨b0,b1,b2,b3,b4,b5,b6,b7⟩:=HB8.out wm HBm.out;clear hb))
   go_ret;exact⟨Vd (by rw[HV.out]),Wa HBW.out HBm.out⟩
 rw[if_neg (by rw[hm];decide)]at hV;have HFS:=hD (HFS.out hm);rw[hm]at HMA;clear hm;by_cases ha:V8 m prof=0
 case' neg =>
  rw[if_pos ha]at hV;have HV:=hD hV.symm;generalize V8 m prof=az at *;have r1:(az != 0)=true:=by simpa using ha
  clear ha;rcases hpp with rfl|rfl
  all_goals
   clear hV HFS hn2b;go_enter Tryz.func20,Tryz.ntmps20
   go_upto_region 1 with (fail)
   rw[← HW.out];go_wp2_with (first|(go_at_call 43;refine(HR.out _ (Wa HBW.out (bR _ _))).mono ?_;rintro e wr ⟨rfl,hb⟩;have HBr:=hD (Wa (bR _ _) hb);obtain⟨b0,b1,b2,b3,b4,b5,b6,b7⟩:=HB8.out wr HBr.out;clear hb)|(go_at_call 44;refine(HMA.out _ (Wa HBW.out HBr.out)).mono ?_;rintro e wm ⟨rfl,hb⟩;have HBm:=hD (Wa HBr.out hb);obtain⟨b0,b1,b2,b3,b4,b5,b6,b7⟩:=HB8.out wm HBm.out;clear hb)|(go_at_call 45;refine(HA.out _ (Wa HBW.out HBm.out)).mono ?_;rintro e wa ⟨rfl,hb⟩;have HBa:=hD (Wa HBm.out hb);obtain⟨b0,b1,b2,b3,b4,b5,b6,b7⟩:=HB8.out wa HBa.out;clear hb))
   go_ret;exact⟨Vd (by rw[HV.out]),Wa HBW.out HBa.out⟩
 rw[if_neg (by rw[ha];decide)]at hV;have HFS:=hD (HFS.out (HTC.out ha));rw[ha]at HA;clear ha HTC;have HV:=hD hV.symm;clear hV;have HFZ:=hD (fun wz hb f hf=>(HFS.out wz hb f hf).mono (R':=fun e w'=>∃ rv,e=Ending.returned (.tuple #[.int .i64 (VJ m (f:Int) prof).1,.int .i64 (VJ m (f:Int) prof).2,rv])∧Below wz.heap.size wz w') (fun e w' ⟨rv,he,_,hb'⟩=>(⟨rv,he,hb'⟩:∃ rv,e=Ending.returned (.tuple #[.int .i64 (VJ m (f:Int) prof).1,.int .i64 (VJ m (f:Int) prof).2,rv])∧Below wz.heap.size wz w')));clear HFS;rcases hpp with rfl|rfl
 ·skip
  go_enter Tryz.func20,Tryz.ntmps20
  go_upto_region 1 with (fail)
  rw[← HW.out];go_wp2_with (first|(go_at_call 43;refine(HR.out _ (Wa HBW.out (bR _ _))).mono ?_;rintro e wr ⟨rfl,hb⟩;have HBr:=hD (Wa (bR _ _) hb);obtain⟨b0,b1,b2,b3,b4,b5,b6,b7⟩:=HB8.out wr HBr.out;clear hb)|(go_at_call 44;refine(HMA.out _ (Wa HBW.out HBr.out)).mono ?_;rintro e wm ⟨rfl,hb⟩;have HBm:=hD (Wa HBr.out hb);obtain⟨b0,b1,b2,b3,b4,b5,b6,b7⟩:=HB8.out wm HBm.out;clear hb)|(go_at_call 45;refine(HA.out _ (Wa HBW.out HBm.out)).mono ?_;rintro e wa ⟨rfl,hb⟩;have HBa:=hD (Wa HBm.out hb);obtain⟨b0,b1,b2,b3,b4,b5,b6,b7⟩:=HB8.out wa HBa.out;clear hb))
  clear b0 b1 b2 b3 b4 b5 b6 b7;go_loopw [8] (fun i wr=>∃ k:Nat,k≤n2∧i=.int .i64 (k:Int)∧Hid (Below W.heap.size W wr)∧Hid (∀ j,j<k→(VJ m ((List.range n2).getD j 0:Nat) 1).2=0)) (fun i _=>n2 - (intOf i).toNat)
  case atStart=>exact⟨0,nZ _,rfl,HBa,hD fun j hj=>absurd hj (Nat.not_lt_zero _)⟩
  case round =>
   obtain⟨w0,rfl⟩:∃ w0,w0=wr:=⟨_,rfl⟩;obtain⟨k,hk,rfl,HB,HAL⟩:=hrel;obtain⟨b0,b1,b2,b3,b4,b5,b6,b7⟩:=HB8.out w0 HB.out;by_cases hlt:k<n2
   ·have hd:decide ((k:Int)<(n2:Int))=true:=by simp;omega
    have hd2:decide (k<n2)=true:=by simp;omega
    have HCF:=hD (HFZ.out w0 (Wa HBW.out HB.out) k hlt);have HAT:=hD (fun (hz:(VJ m (k:Int) 1).2≠0)=>(by
     have h:=firstC_at (g:=fun q:Nat=>(VJ m (q:Int) 1).2) (d:=0) (l:=List.range n2) HAL.out (by rw[List.length_range];exact hlt) (by rw[Uk n2 k 0 hlt];exact hz);rw[Uk n2 k 0 hlt]at h;rw[HV.out];exact h:z=(VJ m (k:Int) 1).2))
    have HAN:=hD (fun (hz:(VJ m (k:Int) 1).2=0) j (hj:j<k+1)=>(by
     rcases Nat.lt_or_ge j k with h1|h1
     ·exact HAL.out j h1
     ·rw[show j=k by omega,Uk n2 k 0 hlt];exact hz:(VJ m ((List.range n2).getD j 0:Nat) 1).2=0))
    generalize VJ m (k:Int) 1=r at HCF HAT HAN;exact Z1
   ·have hd:decide ((k:Int)<(n2:Int))=false:=by simp;omega
    have hd2:decide (k<n2)=false:=by simp;omega
    obtain rfl:n2=k:=by omega
    have HF:=hD (show z=0 by rw[HV.out];exact firstC_zero (g:=fun q:Nat=>(VJ m (q:Int) 1).2) (d:=0) (by rw[List.length_range];exact HAL.out));exact ZcW
 ·skip
  go_enter Tryz.func20,Tryz.ntmps20
  go_upto_region 1 with (fail)
  rw[← HW.out];go_wp2_with (first|(go_at_call 43;refine(HR.out _ (Wa HBW.out (bR _ _))).mono ?_;rintro e wr ⟨rfl,hb⟩;have HBr:=hD (Wa (bR _ _) hb);obtain⟨b0,b1,b2,b3,b4,b5,b6,b7⟩:=HB8.out wr HBr.out;clear hb)|(go_at_call 44;refine(HMA.out _ (Wa HBW.out HBr.out)).mono ?_;rintro e wm ⟨rfl,hb⟩;have HBm:=hD (Wa HBr.out hb);obtain⟨b0,b1,b2,b3,b4,b5,b6,b7⟩:=HB8.out wm HBm.out;clear hb)|(go_at_call 45;refine(HA.out _ (Wa HBW.out HBm.out)).mono ?_;rintro e wa ⟨rfl,hb⟩;have HBa:=hD (Wa HBm.out hb);obtain⟨b0,b1,b2,b3,b4,b5,b6,b7⟩:=HB8.out wa HBa.out;clear hb))
  clear b0 b1 b2 b3 b4 b5 b6 b7;go_loopw [8] (fun i wr=>∃ k:Nat,k≤n2∧i=.int .i64 (k:Int)∧Hid (Below W.heap.size W wr)∧Hid (∀ j,j<k→(VJ m ((List.range n2).getD j 0:Nat) 2).2=0)) (fun i _=>n2 - (intOf i).toNat)
  case atStart=>exact⟨0,nZ _,rfl,HBa,hD fun j hj=>absurd hj (Nat.not_lt_zero _)⟩
  case round =>
   obtain⟨w0,rfl⟩:∃ w0,w0=wr:=⟨_,rfl⟩;obtain⟨k,hk,rfl,HB,HAL⟩:=hrel;obtain⟨b0,b1,b2,b3,b4,b5,b6,b7⟩:=HB8.out w0 HB.out;by_cases hlt:k<n2
   ·have hd:decide ((k:Int)<(n2:Int))=true:=by simp;omega
    have hd2:decide (k<n2)=true:=by simp;omega
    have HCF:=hD (HFZ.out w0 (Wa HBW.out HB.out) k hlt);have HAT:=hD (fun (hz:(VJ m (k:Int) 2).2≠0)=>(by
     have h:=firstC_at (g:=fun q:Nat=>(VJ m (q:Int) 2).2) (d:=0) (l:=List.range n2) HAL.out (by rw[List.length_range];exact hlt) (by rw[Uk n2 k 0 hlt];exact hz);rw[Uk n2 k 0 hlt]at h;rw[HV.out];exact h:z=(VJ m (k:Int) 2).2))
    have HAN:=hD (fun (hz:(VJ m (k:Int) 2).2=0) j (hj:j<k+1)=>(by
     rcases Nat.lt_or_ge j k with h1|h1
     ·exact HAL.out j h1
     ·rw[show j=k by omega,Uk n2 k 0 hlt];exact hz:(VJ m ((List.range n2).getD j 0:Nat) 2).2=0))
    generalize VJ m (k:Int) 2=r at HCF HAT HAN;exact Z1
   ·have hd:decide ((k:Int)<(n2:Int))=false:=by simp;omega
    have hd2:decide (k<n2)=false:=by simp;omega
    obtain rfl:n2=k:=by omega
    have HF:=hD (show z=0 by rw[HV.out];exact firstC_zero (g:=fun q:Nat=>(VJ m (q:Int) 2).2) (d:=0) (by rw[List.length_range];exact HAL.out));exact ZcW
end
section
open Go.RowKit
set_option maxHeartbeats 4000000
set_option maxRecDepth 100000
theorem Zdc {P:Prop}(h:P:=by
 go_enter Tryz.func22,Tryz.ntmps22
 go_upto_region 1 with (fail)
 rw[← HW.out];go_wp2
 go_ret3
 exact⟨rfl,HBW.out⟩):P:=h
theorem same10_any (w:World) (ht:Tab w) (v:Mv) (m:Vt) (h:W7 (fun k=>k<w.heap.size) w v m) (hT:TypedM m) (hw:Few m) :
 Calls Tryz.prog 6 #[.agg v.cells] w (Wh true w):=by
 have HP:=hD (fun wz (hb:Below w.heap.size w wz) (prof:Int)=>module_all wz (ht.below hb) v m (h.keep (We.below hb fun _ hk=>hk) fun _ hk=>Ve hk hb.size) hw prof);have HD:=hD (fun wz (hb:Below w.heap.size w wz) (prof:Int)=>dmodule_eq m prof ▸ dmodule_any wz v m (h.keep (We.below hb fun _ hk=>hk) fun _ hk=>Ve hk hb.size) hT hw prof);clear ht hT hw;obtain⟨A0,c0,A1,c1,A2,c2,A3,c3,A4,c4,A5,c5,A6,c6,A7,c7,rfl⟩:=Wr h;simp only[Mv.cells]at HP HD ⊢;clear h;obtain⟨⟨n0,hn0⟩,⟨n1,hn1⟩,⟨n2,hn2⟩,⟨n3,hn3⟩,⟨n4,hn4⟩,⟨n5,hn5⟩,⟨n6,hn6⟩,⟨n7,hn7⟩⟩:=len8 m;have HN2:=hD hn2;have HN3:=hD hn3;rw[hn0,hn1,hn2,hn3,hn4,hn5,hn6,hn7]at HP HD ⊢;obtain⟨W,hW,hbw,HB8⟩:=Vv w (.slice A0 n0 c0) (.slice A1 n1 c1) (.slice A2 n2 c2) (.slice A3 n3 c3) (.slice A4 n4 c4) (.slice A5 n5 c5) (.slice A6 n6 c6) (.slice A7 n7 c7);have HBW:=hD hbw;have HB8:=hD HB8;have HW:=hD hW;obtain⟨b0,b1,b2,b3,b4,b5,b6,b7⟩:=HB8.out W (bR _ _);clear hbw hW hn0 hn1 hn2 hn3 hn4 hn5 hn6 hn7;unfold ModlPost at HP HD;go_enter Tryz.func6,Tryz.ntmps6
 go_upto_region 1 with (fail)
 rw[← HW.out];go_wp2_with fail
 clear b0 b1 b2 b3 b4 b5 b6 b7;go_loopw [3] (fun i wr=>∃ k:Nat,k≤4∧i=.int .i64 (k:Int)∧Hid (Below W.heap.size W wr)) (fun i _=>4 - (intOf i).toNat)
 case atStart=>exact⟨0,nZ _,rfl,hD (bR _ _)⟩
 case round =>
  obtain⟨w0,rfl⟩:∃ w0,w0=wr:=⟨_,rfl⟩;obtain⟨k,hk,rfl,HB⟩:=hrel;obtain⟨b0,b1,b2,b3,b4,b5,b6,b7⟩:=HB8.out w0 HB.out;by_cases hlt:k<4
  ·have hd:decide ((k:Int)<4)=true:=by simp;omega
   have hd2:decide (k<4)=true:=by simp;omega
   have e1:IntKind.i64.wrap ((k:Int)+1)=(k:Int)+1:=IntWalk.i64_in _ (by omega);have HPk:=hD (fun wz hb=>HP.out wz hb (k:Int));have HDk:=hD (fun wz hb=>HD.out wz hb (k:Int));generalize UW m (k:Int)=z at HPk HDk
   go_upto_region 4 with (fail)
   go_region_held3 (fun wz=>wz.cell? ⟨w.heap.size,0,none⟩=some (.slice A0 n0 c0)∧wz.cell? ⟨w.heap.size,1,none⟩=some (.slice A1 n1 c1)∧wz.cell? ⟨w.heap.size,2,none⟩=some (.slice A2 n2 c2)∧wz.cell? ⟨w.heap.size,3,none⟩=some (.slice A3 n3 c3)∧wz.cell? ⟨w.heap.size,4,none⟩=some (.slice A4 n4 c4)∧wz.cell? ⟨w.heap.size,5,none⟩=some (.slice A5 n5 c5)∧wz.cell? ⟨w.heap.size,6,none⟩=some (.slice A6 n6 c6)∧wz.cell? ⟨w.heap.size,7,none⟩=some (.slice A7 n7 c7))
    (first|go_keep|exact⟨b0,b1,b2,b3,b4,b5,b6,b7⟩|exact HX1.out|exact HX2.out)
    (first
    | (go_at_call 19;refine(HPk.out _ (Wa HBW.out (Wa HB.out ((bR _ _).drew)))).mono ?_;rintro e w1 ⟨rfl,hb1⟩;have HB1:=hD (Wa (Wa HB.out ((bR _ _).drew)) hb1);have HX1:=hD (HB8.out w1 HB1.out);clear hb1)
    | (go_at_call 20;refine(HDk.out _ (Wa HBW.out HB1.out)).mono ?_;rintro e w2 ⟨rfl,hb2⟩;have HB2:=hD (Wa HB1.out hb2);have HX2:=hD (HB8.out w2 HB2.out);clear hb2))
   go_wp2;go_roundw
   case rel=>exact⟨k+1,by omega,by go_num,HB2⟩
   case measure=>simp[intOf];omega
  ·have hd:decide ((k:Int)<4)=false:=by simp;omega
   have hd2:decide (k<4)=false:=by simp;omega
   go_wp2;go_ret;exact⟨rfl,Wa HBW.out HB.out⟩
theorem dfunc_no (w:World) (v:Mv) (m:Vt) (h:W7 (fun k=>k<w.heap.size) w v m) (f prof:Int) (hf:f = -1∨f=(m.funs.length:Int)) :
 Calls Tryz.prog 22 #[.agg v.cells,.int .i64 f,.int .i64 prof] w (fun e w'=>e=.returned (.tuple #[.int .i64 (-1),.int .i64 1,.slice none 0 0])∧Below w.heap.size w w'):=by
 obtain⟨A0,c0,A1,c1,A2,c2,A3,c3,A4,c4,A5,c5,A6,c6,A7,c7,rfl⟩:=Wr h;simp only[Mv.cells];clear h;obtain⟨⟨n0,hn0⟩,⟨n1,hn1⟩,⟨n2,hn2⟩,⟨n3,hn3⟩,⟨n4,hn4⟩,⟨n5,hn5⟩,⟨n6,hn6⟩,⟨n7,hn7⟩⟩:=len8 m;have HN2:=hD hn2;have HN3:=hD hn3;rw[hn0,hn1,hn2,hn3,hn4,hn5,hn6,hn7];rw[hn2]at hf;obtain⟨W,hW,hbw,HB8⟩:=Vv w (.slice A0 n0 c0) (.slice A1 n1 c1) (.slice A2 n2 c2) (.slice A3 n3 c3) (.slice A4 n4 c4) (.slice A5 n5 c5) (.slice A6 n6 c6) (.slice A7 n7 c7);have HBW:=hD hbw;have HB8:=hD HB8;have HW:=hD hW;obtain⟨b0,b1,b2,b3,b4,b5,b6,b7⟩:=HB8.out W (bR _ _);clear hbw hW hn0 hn1 hn2 hn3 hn4 hn5 hn6 hn7;rcases hf with rfl|rfl
 ·have hf0:decide ((-1:Int)<(0:Int))=true:=by decide
  exact Zdc
 ·have hf0:decide ((n2:Int)<(0:Int))=false:=by simp
  have hf1:decide ((n2:Int)≤(n2:Int))=true:=by simp
  have hf3:decide (n2≤n2)=true:=by simp
  exact Zdc
end
end Go.Proofs.YtmfpnfdinoofpaaGreatDoor
