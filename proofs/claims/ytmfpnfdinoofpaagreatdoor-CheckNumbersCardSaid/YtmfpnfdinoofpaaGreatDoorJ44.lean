/- A part of the proof. -/
import Derived.Test.YtmfpnfdinoofpaaGreatDoorJ36
import Derived.Test.YtmfpnfdinoofpaaGreatDoorJ38
namespace Go.Proofs.YtmfpnfdinoofpaaGreatDoor
open Go.RowKit
set_option maxHeartbeats 8000000
set_option maxRecDepth 100000
theorem right_parts {m:Vt} (h:WU m=0):fitsB m=true∧UG m=true:=by
 unfold WU at h;cases h1:fitsB m with
 | false=>rw[h1]at h;cases h
 | true =>
  cases h2:UG m with
  | false=>rw[h1,h2]at h;cases h
  | true=>exact⟨rfl,rfl⟩
theorem kindsB_len {l:List Int} {n:Nat} (h:Vs l (n:Int)=true):l.length≤n:=by
 unfold Vs at h;rw[Bool.and_eq_true]at h;have:=of_decide_eq_true h.1;omega
theorem right_types {m:Vt} (h:WU m=0):∀ t ∈ m.types,t.1.length≤8∧t.2.length≤8:=fun t ht=>by
 have h1:=(right_parts h).2;unfold UG at h1;simp only[Bool.and_eq_true]at h1;have h2:=List.all_eq_true.1 h1.1.1.1.1.1.1.1 t ht;unfold typB at h2;rw[Bool.and_eq_true]at h2;exact⟨kindsB_len h2.1,kindsB_len h2.2⟩
theorem right_funs {m:Vt} (h:WU m=0):∀ f ∈ m.funs,f.loc.length≤256∧f.code.length≤65536:=fun f hf=>by
 have h1:=(right_parts h).2;unfold UG at h1;simp only[Bool.and_eq_true]at h1;have h2:=List.all_eq_true.1 h1.1.1.1.1.1.2 f hf;unfold fncB codeB at h2;simp only[Bool.and_eq_true]at h2;exact⟨kindsB_len h2.1.2,of_decide_eq_true h2.2.1⟩
theorem Uy {m:Vt} (h:WU m=0):Vq m:=by
 have h1:=(right_parts h).1;unfold fitsB at h1;simp only[Bool.and_eq_true,decide_eq_true_eq]at h1;refine⟨by omega,by omega,by omega,fun t ht=>?_,fun f hf=>?_⟩
 ·have:=right_types h t ht;omega
 ·have:=(right_funs h f hf).1;omega
def ModlPost (z:Int) (w:World) (e:Ending) (w':World):Prop:=e=.returned (.int .i64 z)∧Below w.heap.size w w'
theorem module_ok {good:Vl→Prop} (HS:StepsOk good) (w:World) (htab:Tab w) (v:Mv) (m:Vt) (h:W7 (fun k=>k<w.heap.size) w v m) (hw:Few m) (prof:Int) (hgd:WU m=0→∀ f ∈ m.funs,∀ i ∈ f.code,good i) :
 Calls Tryz.prog 19 #[.agg v.cells,.int .i64 prof] w (ModlPost (UW m prof) w):=by
 have HR:=hD (fun wz (hb:Below w.heap.size w wz)=>right_mod wz (htab.below hb) v m (h.keep (We.below hb fun _ hk=>hk) fun _ hk=>Ve hk hb.size) hw);have HMA:=hD (fun wz (hb:Below w.heap.size w wz) (hr:WU m=0)=>matched_any wz v.m2 m.funs ((h.keep (We.below hb fun _ hk=>hk) fun _ hk=>Ve hk hb.size).funs) (fun f hf=>Nat.le_trans (right_funs hr f hf).2 (by decide)));have HT:=hD (fun wz (hb:Below w.heap.size w wz)=>ctypesExist_any wz v m (h.keep (We.below hb fun _ hk=>hk) fun _ hk=>Ve hk hb.size));have HE:=hD (fun wz (hb:Below w.heap.size w wz) (hr:WU m=0)=>cexportsExist_any wz v m (h.keep (We.below hb fun _ hk=>hk) fun _ hk=>Ve hk hb.size) (Uy hr));have HD:=hD (fun wz (hb:Below w.heap.size w wz)=>cmemsExist_any wz v m (h.keep (We.below hb fun _ hk=>hk) fun _ hk=>Ve hk hb.size));have HP:=hD (fun wz (hb:Below w.heap.size w wz) (he:m.exps.all (expIn m)=true)=>cplain_any wz v m (h.keep (We.below hb fun _ hk=>hk) fun _ hk=>Ve hk hb.size) he);have HFS:=hD (fun wz (hb:Below w.heap.size w wz) (hr:WU m=0) (htc:Ub m=true)=>funcs_ok HS wz v m (h.keep (We.below hb fun _ hk=>hk) fun _ hk=>Ve hk hb.size) (Uy hr) (right_types hr) htc prof (fun f hf=>⟨(right_funs hr f hf).2,hgd hr f hf⟩));unfold RightPost Wh at *;clear htab hw hgd;obtain⟨A0,c0,A1,c1,A2,c2,A3,c3,A4,c4,A5,c5,A6,c6,A7,c7,rfl⟩:=Wr h;simp only[Mv.cells]at HR HMA HT HE HD HP HFS ⊢;clear h;obtain⟨⟨n0,hn0⟩,⟨n1,hn1⟩,⟨n2,hn2⟩,⟨n3,hn3⟩,⟨n4,hn4⟩,⟨n5,hn5⟩,⟨n6,hn6⟩,⟨n7,hn7⟩⟩:=len8 m;have HN2:=hD hn2;have HN3:=hD hn3;rw[hn0,hn1,hn2,hn3,hn4,hn5,hn6,hn7]at HR HT HE HD HP HFS ⊢;rw[hn2]at HMA;obtain⟨W,hW,hbw,HB8⟩:=Vv w (.slice A0 n0 c0) (.slice A1 n1 c1) (.slice A2 n2 c2) (.slice A3 n3 c3) (.slice A4 n4 c4) (.slice A5 n5 c5) (.slice A6 n6 c6) (.slice A7 n7 c7);have HBW:=hD hbw;have HB8:=hD HB8;have HW:=hD hW;obtain⟨b0,b1,b2,b3,b4,b5,b6,b7⟩:=HB8.out W (bR _ _);clear hbw hW hn0 hn1 hn2 hn3 hn4 hn5 hn6 hn7;obtain⟨z,hV⟩:∃ z,UW m prof=z:=⟨_,rfl⟩;have HV0:=hD hV;unfold UW at hV;rw[HN3.out]at hV;rw[HV0.out];clear HV0;by_cases hp:prof≠1∧prof≠2
 ·rw[if_pos hp]at hV;have HV:=hD hV.symm;have p1:(prof != 1)=true:=by simpa using hp.1
  have p2:(prof != 2)=true:=by simpa using hp.2
  have p3:(prof==1)=false:=by simpa using hp.1
  have p4:(prof==2)=false:=by simpa using hp.2
  clear hp;clear hV HR HMA HT HE HD HP HFS;go_enter Tryz.func19,Tryz.ntmps19
  go_upto_region 1 with (fail)
  rw[← HW.out];go_wp2;go_ret;exact⟨Vd (by rw[HV.out]),HBW.out⟩
 rw[if_neg hp]at hV;have hpp:(prof=1∨prof=2):=by omega
 clear hp;by_cases hr:WU m=0
 case' neg =>
  rw[if_pos hr]at hV;have HV:=hD hV.symm;generalize WU m=rz at *;have r1:(rz != 0)=true:=by simpa using hr
  clear hr;rcases hpp with rfl|rfl
  all_goals
   clear hV HMA HT HE HD HP HFS;go_enter Tryz.func19,Tryz.ntmps19
   go_upto_region 1 with (fail)
   rw[← HW.out];go_wp2_with (go_at_call 36;refine(HR.out _ (Wa HBW.out (bR _ _))).mono ?_;rintro e wr ⟨rfl,hb⟩;have HBr:=hD (Wa (bR _ _) hb);obtain⟨b0,b1,b2,b3,b4,b5,b6,b7⟩:=HB8.out wr HBr.out;clear hb)
   go_ret;exact⟨Vd (by rw[HV.out]),Wa HBW.out HBr.out⟩
 rw[if_neg (by rw[hr];decide)]at hV;have HMA:=hD (fun wz hb=>HMA.out wz hb hr);have HE:=hD (fun wz hb=>HE.out wz hb hr);have HFS:=hD (fun wz hb=>HFS.out wz hb hr);rw[hr]at HR;clear hr;by_cases hm:Vp UO m.funs=0
 case' neg =>
  rw[if_pos hm]at hV;have HV:=hD hV.symm;generalize Vp UO m.funs=mz at *;have r1:(mz != 0)=true:=by simpa using hm
  clear hm;rcases hpp with rfl|rfl
  all_goals
   clear hV HT HE HD HP HFS;go_enter Tryz.func19,Tryz.ntmps19
   go_upto_region 1 with (fail)
   rw[← HW.out];go_wp2_with (first|(go_at_call 36;refine(HR.out _ (Wa HBW.out (bR _ _))).mono ?_;rintro e wr ⟨rfl,hb⟩;have HBr:=hD (Wa (bR _ _) hb);obtain⟨b0,b1,b2,b3,b4,b5,b6,b7⟩:=HB8.out wr HBr.out;clear hb)|(go_at_call 37;refine(HMA.out _ (Wa HBW.out HBr.out)).mono ?_;rintro e wm ⟨rfl,hb⟩;have HBm:=hD (Wa HBr.out hb);obtain⟨b0,b1,b2,b3,b4,b5,b6,b7⟩:=HB8.out wm HBm.out;clear hb))
   go_ret;exact⟨Vd (by rw[HV.out]),Wa HBW.out HBm.out⟩
 rw[if_neg (by rw[hm];decide)]at hV;rw[hm]at HMA;clear hm;cases ht0:Ub m with
 | false =>
  rw[if_pos (by rw[ht0,Bool.false_and,Bool.false_and])]at hV;have HV:=hD hV.symm;rw[ht0]at HT;rcases hpp with rfl|rfl
  all_goals
   clear hV HE HD HP HFS;go_enter Tryz.func19,Tryz.ntmps19
   go_upto_region 1 with (fail)
   rw[← HW.out];go_wp2_with (first|(go_at_call 36;refine(HR.out _ (Wa HBW.out (bR _ _))).mono ?_;rintro e wr ⟨rfl,hb⟩;have HBr:=hD (Wa (bR _ _) hb);obtain⟨b0,b1,b2,b3,b4,b5,b6,b7⟩:=HB8.out wr HBr.out;clear hb)|(go_at_call 37;refine(HMA.out _ (Wa HBW.out HBr.out)).mono ?_;rintro e wm ⟨rfl,hb⟩;have HBm:=hD (Wa HBr.out hb);obtain⟨b0,b1,b2,b3,b4,b5,b6,b7⟩:=HB8.out wm HBm.out;clear hb)|(go_at_call 38;refine(HT.out _ (Wa HBW.out HBm.out)).mono ?_;rintro e wt ⟨rfl,hb⟩;have HBt:=hD (Wa HBm.out hb);obtain⟨b0,b1,b2,b3,b4,b5,b6,b7⟩:=HB8.out wt HBt.out;clear hb))
   go_ret;exact⟨Vd (by rw[HV.out]),Wa HBW.out HBt.out⟩
 | true =>
  cases ht1:m.exps.all (expIn m) with
  | false =>
   rw[if_pos (by rw[ht1,Bool.and_false,Bool.false_and])]at hV;have HV:=hD hV.symm;rw[ht1]at HE;rw[ht0]at HT;rcases hpp with rfl|rfl
   all_goals
    clear hV HD HP HFS;go_enter Tryz.func19,Tryz.ntmps19
    go_upto_region 1 with (fail)
    rw[← HW.out];go_wp2_with (first|(go_at_call 36;refine(HR.out _ (Wa HBW.out (bR _ _))).mono ?_;rintro e wr ⟨rfl,hb⟩;have HBr:=hD (Wa (bR _ _) hb);obtain⟨b0,b1,b2,b3,b4,b5,b6,b7⟩:=HB8.out wr HBr.out;clear hb)|(go_at_call 37;refine(HMA.out _ (Wa HBW.out HBr.out)).mono ?_;rintro e wm ⟨rfl,hb⟩;have HBm:=hD (Wa HBr.out hb);obtain⟨b0,b1,b2,b3,b4,b5,b6,b7⟩:=HB8.out wm HBm.out;clear hb)|(go_at_call 38;refine(HT.out _ (Wa HBW.out HBm.out)).mono ?_;rintro e wt ⟨rfl,hb⟩;have HBt:=hD (Wa HBm.out hb);obtain⟨b0,b1,b2,b3,b4,b5,b6,b7⟩:=HB8.out wt HBt.out;clear hb)|(go_at_call 39;refine(HE.out _ (Wa HBW.out HBt.out)).mono ?_;rintro e we ⟨rfl,hb⟩;have HBe:=hD (Wa HBt.out hb);obtain⟨b0,b1,b2,b3,b4,b5,b6,b7⟩:=HB8.out we HBe.out;clear hb))
    go_ret;exact⟨Vd (by rw[HV.out]),Wa HBW.out HBe.out⟩
  | true =>
   cases ht2:m.datas.all (datIn n3) with
   | false =>
    rw[if_pos (by rw[ht2,Bool.and_false])]at hV;have HV:=hD hV.symm;rw[ht2]at HD;rw[ht0]at HT;rw[ht1]at HE;rcases hpp with rfl|rfl
    all_goals
     clear hV HP HFS;go_enter Tryz.func19,Tryz.ntmps19
     go_upto_region 1 with (fail)
     rw[← HW.out];go_wp2_with (first|(go_at_call 36;refine(HR.out _ (Wa HBW.out (bR _ _))).mono ?_;rintro e wr ⟨rfl,hb⟩;have HBr:=hD (Wa (bR _ _) hb);obtain⟨b0,b1,b2,b3,b4,b5,b6,b7⟩:=HB8.out wr HBr.out;clear hb)|(go_at_call 37;refine(HMA.out _ (Wa HBW.out HBr.out)).mono ?_;rintro e wm ⟨rfl,hb⟩;have HBm:=hD (Wa HBr.out hb);obtain⟨b0,b1,b2,b3,b4,b5,b6,b7⟩:=HB8.out wm HBm.out;clear hb)|(go_at_call 38;refine(HT.out _ (Wa HBW.out HBm.out)).mono ?_;rintro e wt ⟨rfl,hb⟩;have HBt:=hD (Wa HBm.out hb);obtain⟨b0,b1,b2,b3,b4,b5,b6,b7⟩:=HB8.out wt HBt.out;clear hb)|(go_at_call 39;refine(HE.out _ (Wa HBW.out HBt.out)).mono ?_;rintro e we ⟨rfl,hb⟩;have HBe:=hD (Wa HBt.out hb);obtain⟨b0,b1,b2,b3,b4,b5,b6,b7⟩:=HB8.out we HBe.out;clear hb)|(go_at_call 40;refine(HD.out _ (Wa HBW.out HBe.out)).mono ?_;rintro e wd ⟨rfl,hb⟩;have HBd:=hD (Wa HBe.out hb);obtain⟨b0,b1,b2,b3,b4,b5,b6,b7⟩:=HB8.out wd HBd.out;clear hb))
     go_ret;exact⟨Vd (by rw[HV.out]),Wa HBW.out HBd.out⟩
   | true =>
    rw[if_neg (by rw[ht0,ht1,ht2];decide)]at hV;have HP:=hD (fun wz hb=>HP.out wz hb ht1);have HFS:=hD (fun wz hb=>HFS.out wz hb ht0);rw[ht0]at HT;rw[ht1]at HE;rw[ht2]at HD;clear ht0 ht1 ht2;rcases hpp with rfl|rfl
    ·cases hpl:plainC m with
     | false =>
      rw[if_pos ⟨rfl,hpl⟩]at hV;have HV:=hD hV.symm;rw[hpl]at HP;clear hV HFS hpl;go_enter Tryz.func19,Tryz.ntmps19
      go_upto_region 1 with (fail)
      rw[← HW.out];go_wp2_with (first|(go_at_call 36;refine(HR.out _ (Wa HBW.out (bR _ _))).mono ?_;rintro e wr ⟨rfl,hb⟩;have HBr:=hD (Wa (bR _ _) hb);obtain⟨b0,b1,b2,b3,b4,b5,b6,b7⟩:=HB8.out wr HBr.out;clear hb)|(go_at_call 37;refine(HMA.out _ (Wa HBW.out HBr.out)).mono ?_;rintro e wm ⟨rfl,hb⟩;have HBm:=hD (Wa HBr.out hb);obtain⟨b0,b1,b2,b3,b4,b5,b6,b7⟩:=HB8.out wm HBm.out;clear hb)|(go_at_call 38;refine(HT.out _ (Wa HBW.out HBm.out)).mono ?_;rintro e wt ⟨rfl,hb⟩;have HBt:=hD (Wa HBm.out hb);obtain⟨b0,b1,b2,b3,b4,b5,b6,b7⟩:=HB8.out wt HBt.out;clear hb)|(go_at_call 39;refine(HE.out _ (Wa HBW.out HBt.out)).mono ?_;rintro e we ⟨rfl,hb⟩;have HBe:=hD (Wa HBt.out hb);obtain⟨b0,b1,b2,b3,b4,b5,b6,b7⟩:=HB8.out we HBe.out;clear hb)|(go_at_call 40;refine(HD.out _ (Wa HBW.out HBe.out)).mono ?_;rintro e wd ⟨rfl,hb⟩;have HBd:=hD (Wa HBe.out hb);obtain⟨b0,b1,b2,b3,b4,b5,b6,b7⟩:=HB8.out wd HBd.out;clear hb)|(go_at_call 41;refine(HP.out _ (Wa HBW.out HBd.out)).mono ?_;rintro e wp ⟨rfl,hb⟩;have HBp:=hD (Wa HBd.out hb);obtain⟨b0,b1,b2,b3,b4,b5,b6,b7⟩:=HB8.out wp HBp.out;clear hb))
      go_ret;exact⟨Vd (by rw[HV.out]),Wa HBW.out HBp.out⟩
     | true =>
      rw[if_neg (fun hx=>by rw[hpl]at hx;cases hx.2)]at hV;rw[hpl]at HP;have HV:=hD hV.symm;generalize funcsC m 1=fz at *;clear hV hpl;go_enter Tryz.func19,Tryz.ntmps19
      go_upto_region 1 with (fail)
      rw[← HW.out];go_wp2_with (first|(go_at_call 36;refine(HR.out _ (Wa HBW.out (bR _ _))).mono ?_;rintro e wr ⟨rfl,hb⟩;have HBr:=hD (Wa (bR _ _) hb);obtain⟨b0,b1,b2,b3,b4,b5,b6,b7⟩:=HB8.out wr HBr.out;clear hb)|(go_at_call 37;refine(HMA.out _ (Wa HBW.out HBr.out)).mono ?_;rintro e wm ⟨rfl,hb⟩;have HBm:=hD (Wa HBr.out hb);obtain⟨b0,b1,b2,b3,b4,b5,b6,b7⟩:=HB8.out wm HBm.out;clear hb)|(go_at_call 38;refine(HT.out _ (Wa HBW.out HBm.out)).mono ?_;rintro e wt ⟨rfl,hb⟩;have HBt:=hD (Wa HBm.out hb);obtain⟨b0,b1,b2,b3,b4,b5,b6,b7⟩:=HB8.out wt HBt.out;clear hb)|(go_at_call 39;refine(HE.out _ (Wa HBW.out HBt.out)).mono ?_;rintro e we ⟨rfl,hb⟩;have HBe:=hD (Wa HBt.out hb);obtain⟨b0,b1,b2,b3,b4,b5,b6,b7⟩:=HB8.out we HBe.out;clear hb)|(go_at_call 40;refine(HD.out _ (Wa HBW.out HBe.out)).mono ?_;rintro e wd ⟨rfl,hb⟩;have HBd:=hD (Wa HBe.out hb);obtain⟨b0,b1,b2,b3,b4,b5,b6,b7⟩:=HB8.out wd HBd.out;clear hb)|(go_at_call 41;refine(HP.out _ (Wa HBW.out HBd.out)).mono ?_;rintro e wp ⟨rfl,hb⟩;have HBp:=hD (Wa HBd.out hb);obtain⟨b0,b1,b2,b3,b4,b5,b6,b7⟩:=HB8.out wp HBp.out;clear hb)|(go_at_call 42;refine(HFS.out _ (Wa HBW.out HBp.out)).mono ?_;rintro e wf ⟨rfl,hb⟩;have HBf:=hD (Wa HBp.out hb);obtain⟨b0,b1,b2,b3,b4,b5,b6,b7⟩:=HB8.out wf HBf.out;clear hb))
      go_ret;exact⟨Vd (by rw[HV.out]),Wa HBW.out HBf.out⟩
    ·rw[if_neg (fun hx=>absurd hx.1 (by decide))]at hV;have HV:=hD hV.symm;generalize funcsC m 2=fz at *;clear hV HP;go_enter Tryz.func19,Tryz.ntmps19
     go_upto_region 1 with (fail)
     rw[← HW.out];go_wp2_with (first|(go_at_call 36;refine(HR.out _ (Wa HBW.out (bR _ _))).mono ?_;rintro e wr ⟨rfl,hb⟩;have HBr:=hD (Wa (bR _ _) hb);obtain⟨b0,b1,b2,b3,b4,b5,b6,b7⟩:=HB8.out wr HBr.out;clear hb)|(go_at_call 37;refine(HMA.out _ (Wa HBW.out HBr.out)).mono ?_;rintro e wm ⟨rfl,hb⟩;have HBm:=hD (Wa HBr.out hb);obtain⟨b0,b1,b2,b3,b4,b5,b6,b7⟩:=HB8.out wm HBm.out;clear hb)|(go_at_call 38;refine(HT.out _ (Wa HBW.out HBm.out)).mono ?_;rintro e wt ⟨rfl,hb⟩;have HBt:=hD (Wa HBm.out hb);obtain⟨b0,b1,b2,b3,b4,b5,b6,b7⟩:=HB8.out wt HBt.out;clear hb)|(go_at_call 39;refine(HE.out _ (Wa HBW.out HBt.out)).mono ?_;rintro e we ⟨rfl,hb⟩;have HBe:=hD (Wa HBt.out hb);obtain⟨b0,b1,b2,b3,b4,b5,b6,b7⟩:=HB8.out we HBe.out;clear hb)|(go_at_call 40;refine(HD.out _ (Wa HBW.out HBe.out)).mono ?_;rintro e wd ⟨rfl,hb⟩;have HBd:=hD (Wa HBe.out hb);obtain⟨b0,b1,b2,b3,b4,b5,b6,b7⟩:=HB8.out wd HBd.out;clear hb)|(go_at_call 42;refine(HFS.out _ (Wa HBW.out HBd.out)).mono ?_;rintro e wf ⟨rfl,hb⟩;have HBf:=hD (Wa HBd.out hb);obtain⟨b0,b1,b2,b3,b4,b5,b6,b7⟩:=HB8.out wf HBf.out;clear hb))
     go_ret;exact⟨Vd (by rw[HV.out]),Wa HBW.out HBf.out⟩
end Go.Proofs.YtmfpnfdinoofpaaGreatDoor
