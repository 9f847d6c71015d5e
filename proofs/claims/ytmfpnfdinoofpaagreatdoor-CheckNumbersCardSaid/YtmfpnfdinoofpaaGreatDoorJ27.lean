/- A part of the proof. -/
import Derived.Test.YtmfpnfdinoofpaaGreatDoorJ25
import Derived.Test.YtmfpnfdinoofpaaGreatDoorJ24
namespace Go.Proofs.YtmfpnfdinoofpaaGreatDoor
section
open Go.RowKit
set_option maxHeartbeats 2000000
set_option maxRecDepth 100000
theorem allI_yes {p:Int→Bool} {l:List Int} (h:∀ j,j<l.length→p (l.getD j 0)=true):l.all p=true:=by
 rw[List.all_eq_true];intro a ha;obtain⟨j,hj,rfl⟩:=List.mem_iff_getElem.1 ha;have:=h j hj
 rwa [List.getD_eq_getElem?_getD,List.getElem?_eq_getElem hj]at this
theorem allI_no {p:Int→Bool} {l:List Int} {j:Nat} (hj:j<l.length) (h:p (l.getD j 0)=false):l.all p=false:=by
 cases hc:l.all p with
 | false=>rfl
 | true =>
  rw[List.all_eq_true]at hc;have:=hc _ (List.getElem_mem hj);rw[List.getD_eq_getElem?_getD,List.getElem?_eq_getElem hj]at h;rw[show(some l[j]).getD 0=l[j] from rfl]at h;rw[h]at this;cases this
theorem labels_any {F:Wx} {w:World} {x:Ws} (hF:F.prg) (h:Wk F w x) (K:Nat→Prop) (lv:Value) (l:List Int) (hl:Wf K w lv l) :
 Calls Tryz.prog 118 #[.pointer (some ⟨F.G,0,none⟩),lv] w (Wh (l.all (fun n=>Wi n x.f.length) && decide (0<l.length)) w):=by
 obtain⟨A,c,hlv,hm,_⟩:=hl.form;obtain⟨Af,cf,hfv⟩:=Wy h.fo;have p1:=h.p1 hF;rw[hfv]at p1;have HL:=hD hl;rw[hlv]at HL ⊢;obtain⟨r,hr⟩:∃ r,(l.all (fun n=>Wi n x.f.length) && decide (0<l.length))=r:=⟨_,rfl⟩;rw[hr];have HR:=hD hr;unfold maxLen at hm;clear hl hlv h hfv hr;generalize x.f.length=m at *;obtain⟨n,hn⟩:∃ n,l.length=n:=⟨_,rfl⟩;have HN:=hD hn;rw[hn]at HL HR hm ⊢;clear hn;go_enter Tryz.func118,Tryz.ntmps118;go_wp2_with fail
 go_loopw [9] (fun i wr=>∃ k:Nat,k≤n∧i=.int .i64 (k:Int)∧wr=w∧Hid (∀ j,j<k→Wi (l.getD j 0) m=true)) (fun i _=>n - (intOf i).toNat)
 case atStart=>exact⟨0,nZ _,rfl,rfl,hD (fun j hj=>absurd hj (Nat.not_lt_zero j))⟩
 case round =>
  obtain⟨k,hk,rfl,rfl,HJ⟩:=hrel;by_cases hkn:k<n
  ·have hkk:(0:Int)≤k:=Int.natCast_nonneg _;have hd:decide ((k:Int)<(n:Int))=true:=by simp;omega
   have hd':decide (k<n)=true:=decide_eq_true hkn;obtain⟨gl,ol,c2,he,_,_⟩:=HL.out.some_ (by rw[HN.out];omega);rw[HN.out]at he;simp only[vI]at he;obtain⟨rfl,-,rfl⟩:=he;have k2:=HL.out.at_ k (by omega);obtain⟨y,hy⟩:∃ y,l.getD k 0=y:=⟨_,rfl⟩;rw[hy]at k2;have HY:=hD hy;have CW:=fun wz=>V7 y m wz;cases hw:Wi y m with
   | false =>
    rw[hw]at CW;have hr:r=false:=by rw[← HR.out,allI_no (p:=fun n=>Wi n m) (j:=k) (by rw[HN.out];exact hkn) (by rw[HY.out];exact hw)];rfl
    subst hr;clear hw hy;go_wp2_with (go_at_call 79;refine(CW _).mono ?_;rintro e w1 ⟨rfl,rfl⟩)
    go_ret;exact⟨rfl,bR _ _⟩
   | true =>
    rw[hw]at CW;have HWW:=hD hw;clear hw hy;go_wp2_with (go_at_call 79;refine(CW _).mono ?_;rintro e w1 ⟨rfl,rfl⟩)
    go_roundw
    case rel=>exact⟨k+1,by omega,by go_num,trivial,hD (fun j hj=>by
     rcases Nat.lt_or_ge j k with h1|h1
     ·exact HJ.out j h1
     ·obtain rfl:j=k:=by omega
      rw[HY.out];exact HWW.out)⟩
    case measure=>simp[intOf];omega
  ·have hd:decide ((k:Int)<(n:Int))=false:=by simp;omega
   have hd':decide (k<n)=false:=decide_eq_false hkn;have hr:r=decide (0<n):=by
    rw[← HR.out,allI_yes (p:=fun n=>Wi n m) (fun j hj=>HJ.out j (by rw[HN.out]at hj;omega)),Bool.true_and]
   subst hr;go_wp2;go_ret;exact⟨rfl,bR _ _⟩
end
section
open Go.RowKit
set_option maxHeartbeats 4000000
set_option maxRecDepth 100000
theorem ZcH {P:Prop}(h:P:=by
 clear HWN h0 hb0;go_wp2_with (go_at_call 48;refine(HED.out).mono ?_;rintro e w3 ⟨rfl,rfl⟩)
 go_ret2
 exact⟨by rw[HPE.out,HWN2.out];rfl,HBE.out _ _ HST.out⟩):P:=h
def StepsOk (good:Vl→Prop):Prop:=∀ (F:Wx) (w:World) (x:Ws) (n:Nat) (i:Vl) (Al:Option Addr) (nl cl:Nat),F.prg→Wk F w x→Vq F.m→EnvOk F.env→Ur n x.pl→n≤65536→good i→Wf (Wq F w x) w (.slice Al nl cl) i.l →
 Calls Tryz.prog 47 #[.pointer (some ⟨F.G,0,none⟩),.agg #[.int .i64 i.op,.int .i64 i.a,.int .i64 i.b,.int .u64 i.n,.slice Al nl cl]] w (StepPost F w x (Vr F.env x.pl i))
theorem drop_at {α:Type} (l:List α) (k:Nat) (d:α) (h:k<l.length):l.drop k=l.getD k d :: l.drop (k+1):=by
 rw[List.drop_eq_getElem_cons h,List.getD_eq_getElem?_getD,List.getElem?_eq_getElem h];rfl
theorem walkC_at {e:U5} {l:List Vl} {k:Nat} {p:Pl} (h:k<l.length):walkC e (l.drop k) k p=if (Vr e p (l.getD k Un)).1=0 then walkC e (l.drop (k+1)) (k+1) (Vr e p (l.getD k Un)).2 else ((k:Int),(Vr e p (l.getD k Un)).1):=by
 rw[drop_at l k Un h,walkC]
theorem walkC_end {e:U5} {l:List Vl} {p:Pl}:walkC e (l.drop l.length) l.length p=if 0<p.f.length then (-1,12) else (-1,0):=by
 rw[List.drop_eq_nil_of_le (nR _),walkC]
def FuncPost (r:Int×Int) (w:World) (e:Ending) (w':World):Prop:=e=.returned (.tuple #[.int .i64 r.1,.int .i64 r.2])∧Below w.heap.size w w'
theorem funcC_ok {m:Vt} {f:Nat} {t:List Int×List Int} (hf:f<m.funs.length) (ht:WB m ((m.imps.length:Int)+(f:Int))=some t) (prof:Int):Uq m (f:Int) prof=walkC (UI m f prof) (m.funs.getD f WW).code 0 (WY ⟨[],[]⟩ 2 [] (UI m f prof).ro):=by
 unfold Uq;rw[if_neg (by unfold Wi;simp;omega),ht,if_neg (by simp),Int.toNat_natCast]
theorem func_ok {good:Vl→Prop} (HS:StepsOk good) (w:World) (v:Mv) (m:Vt) (h:W7 (fun k=>k<w.heap.size) w v m) (hs:Vq m) (hty:∀ t ∈ m.types,t.1.length≤8∧t.2.length≤8) (f:Nat) (hf:f<m.funs.length) (t:List Int×List Int) (ht:WB m ((m.imps.length:Int)+(f:Int))=some t) (prof:Int)
 (hcl:(m.funs.getD f WW).code.length≤65536) (hgd:∀ i ∈ (m.funs.getD f WW).code,good i) :
 Calls Tryz.prog 21 #[.agg v.cells,.int .i64 (f:Int),.int .i64 prof] w (FuncPost (Uq m (f:Int) prof) w):=by
 rw[funcC_ok hf ht prof];have HBG:=hD (fun wz (hb:Below w.heap.size w wz)=>beg_any wz v m (h.keep (We.below hb fun _ hk=>hk) fun _ hk=>Ve hk hb.size) hs f hf t ht prof);have HEN:Hid (EnvOk (UI m f prof)):=hD ⟨by show((WB m _).getD ([],[])).2.length≤8;rw[ht];exact(hty t (fsigB_mem ht)).2,hty⟩;have q2:=h.funs;obtain⟨A0,c0,A1,c1,A2,c2,A3,c3,A4,c4,A5,c5,A6,c6,A7,c7,rfl⟩:=Wr h;simp only[Mv.cells]at HBG ⊢;simp only at q2;clear h;obtain⟨g,o,c',he,hq1,hq2⟩:=Wd.some_ q2 (by omega);simp only[vI]at he;obtain⟨rfl,-,rfl⟩:=he;obtain⟨u2,k2,h2⟩:=Wd.at_ q2 f 2 hf (by decide);have h2:Uc (fun k=>k<w.heap.size) w u2 (m.funs.getD f WW).code:=h2;generalize (m.funs.getD f WW).code=code at h2 hcl hgd ⊢;obtain⟨Pc,cc,rfl,_,_⟩:=Wd.form h2;have HSH:=hD hs;obtain⟨⟨n0,hn0⟩,⟨n1,hn1⟩,⟨n2,hn2⟩,⟨n3,hn3⟩,⟨n4,hn4⟩,⟨n5,hn5⟩,⟨n6,hn6⟩,⟨n7,hn7⟩⟩:=len8 m;rw[hn0,hn1,hn2,hn3,hn4,hn5,hn6,hn7]at HBG ⊢;rw[hn2]at hf hq1;unfold maxLen at hq2;obtain⟨nc,hnc⟩:∃ n,code.length=n:=⟨_,rfl⟩;have HNC:=hD hnc;have HC2:=hD h2;rw[hnc]at k2 hcl HC2;have HGD:=hD hgd;have hf0:decide ((0:Int)≤(f:Int))=true:=by simp
 have hf1:decide ((f:Int)<(n2:Int))=true:=by simp;omega
 have hf2:decide (f<n2)=true:=by simp;omega
 obtain⟨W,hW,hbw,HB8⟩:=Vv w (.slice A0 n0 c0) (.slice A1 n1 c1) (.slice (some ⟨g,o,none⟩) n2 c2) (.slice A3 n3 c3) (.slice A4 n4 c4) (.slice A5 n5 c5) (.slice A6 n6 c6) (.slice A7 n7 c7);have HBW:=hD hbw;have HB8:=hD HB8;have HK2:Hid (∀ wz,Below W.heap.size W wz→wz.cell? ⟨g,o+f * 3+2,none⟩=some (.slice Pc nc cc)):=hD fun wz hz=>((Wa hbw hz).cell (wL w _ k2)).trans k2;have HW:=hD hW;obtain⟨b0,b1,b2,b3,b4,b5,b6,b7⟩:=HB8.out W (bR _ _);clear hbw hW hn0 hn1 hn2 hn3 hn4 hn5 hn6 hn7 k2 h2 q2 hs hgd hnc hty ht;go_enter Tryz.func21,Tryz.ntmps21
 go_upto_region 1 with (fail)
 rw[← HW.out]
 go_upto_region 2 with (first|(go_at_call 46;refine(HBG.out W HBW.out).mono ?_;rintro e w1 ⟨F,x1,hF,hFv,hFm,hFe,rfl,hg1,hp1,hfr1,hb1⟩))
 clear b0 b1 b2 b3 b4 b5 b6 b7 HBG;obtain⟨b0,b1,b2,b3,b4,b5,b6,b7⟩:=HB8.out w1 hb1;have k2:=HK2.out w1 hb1;have hpe:(WY ⟨[],[]⟩ 2 [] (UI m f prof).ro)=x1.pl:=by rw[hp1];show _=WY ⟨[],[]⟩ 2 [] F.env.ro;rw[hFe,Int.toNat_natCast]
 have HPE:=hD hpe;have HFE:Hid (F.env=UI m f prof):=hD (by rw[hFe,Int.toNat_natCast]);have HIN:Hid (Ur 0 x1.pl):=hD (hpe ▸ Ur.first 2 _ HEN.out.ro);have HFM:=hD hFm;have HF:=hD hF;have HG1:=hD hg1;have HB1:=hD (Wa HBW.out hb1);have HCK:Hid (∀ wz xz,Wz F w1 x1 wz xz→Uc (Wq F wz xz) wz (.slice Pc nc cc) code):=hD fun wz xz hsz=>by
  have hsw:=HBW.out.size;exact Uc.keep HC2.out ((We.below HB1.out fun _ hk=>hk).trans (hsz.keeps.mono fun k hk=>hfr1 k (Ve hk hsw))) fun k hk=>hsz.mono k (hfr1 k (Ve hk hsw))
 have HBE:Hid (∀ wz xz,Wz F w1 x1 wz xz→Below w.heap.size w wz):=hD fun wz xz hsz=>HB1.out.trans (hsz.keeps.to_below fun k hk=>hfr1 k (Ve hk HBW.out.size));clear hb1 hpe hp1 hF hFv hFm hFe hg1 hfr1 HB8 HK2 HC2;go_wp2_with fail
 clear b0 b1 b2 b3 b4 b5 b6 b7 k2;go_loopw [30] (fun i wr=>∃ k:Nat,k≤nc∧i=.int .i64 (k:Int)∧∃ x,Hid (Wk F wr x)∧Hid (Wz F w1 x1 wr x)∧Hid (Ur k x.pl)∧Hid (walkC (UI m f prof) code 0 x1.pl=walkC (UI m f prof) (code.drop k) k x.pl)) (fun i _=>nc - (intOf i).toNat)
 case atStart=>exact⟨0,nZ _,rfl,x1,HG1,hD (Wz.refl _ _ _),HIN,hD rfl⟩
 case round =>
  obtain⟨w0,rfl⟩:∃ w0,w0=wr:=⟨_,rfl⟩;obtain⟨k,hk,rfl,x,HG,HST,HI,HWC⟩:=hrel;by_cases hlt:k<nc
  ·have hd:decide ((k:Int)<(nc:Int))=true:=by simp;omega
   have hd2:decide (k<nc)=true:=by simp;omega
   have hAT:=HCK.out w0 x HST.out;obtain⟨g1,o1,c1',he1,_,_⟩:=Wd.some_ hAT (by rw[HNC.out];omega);simp only[vI]at he1;obtain⟨rfl,-,rfl⟩:=he1;obtain⟨u0,k0,h0⟩:=Wd.at_ hAT k 0 (by rw[HNC.out];exact hlt) (by decide);obtain⟨u1,k1,h1⟩:=Wd.at_ hAT k 1 (by rw[HNC.out];exact hlt) (by decide);obtain⟨u2,k2,h2⟩:=Wd.at_ hAT k 2 (by rw[HNC.out];exact hlt) (by decide);obtain⟨u3,k3,h3⟩:=Wd.at_ hAT k 3 (by rw[HNC.out];exact hlt) (by decide);obtain⟨u4,k4,h4⟩:=Wd.at_ hAT k 4 (by rw[HNC.out];exact hlt) (by decide);have hwc:=HWC.out.trans (walkC_at (by rw[HNC.out];exact hlt));have hgi:=HGD.out _ (WA code k Un (by rw[HNC.out];exact hlt));generalize code.getD k Un=i at h0 h1 h2 h3 h4 hwc hgi;obtain⟨op,a,b,n,l⟩:=i;obtain rfl:u0=.int .i64 op:=h0;obtain rfl:u1=.int .i64 a:=h1;obtain rfl:u2=.int .i64 b:=h2;obtain⟨rfl,_⟩:u3=.int .u64 n∧wordZ n:=h3;obtain⟨h4,_⟩:Wf (Wq F w0 x) w0 u4 l∧fitN l.length:=h4;obtain⟨P4,q4,rfl,_,_⟩:=h4.form;rw[Nat.add_zero]at k0;obtain⟨W6,hW6⟩:∃ W6,W6=w0.alloc (.cells #[.int .i64 op,.int .i64 a,.int .i64 b,.int .u64 n,.slice P4 l.length q4] 25):=⟨_,rfl⟩;have hg6:=HG.out.alloc (.cells #[.int .i64 op,.int .i64 a,.int .i64 b,.int .u64 n,.slice P4 l.length q4] 25);rw[← hW6]at hg6;have y:∀ j:Nat,W6.cell? ⟨w0.heap.size,j,none⟩=(#[.int .i64 op,.int .i64 a,.int .i64 b,.int .u64 n,.slice P4 l.length q4]:Array Value)[j]?:=fun j=>by rw[hW6,wN]
   have y0:=y 0;have y1:=y 1;have y2:=y 2;have y3:=y 3;have y4:=y 4;simp only[List.getElem?_toArray,List.getElem?_cons_zero,List.getElem?_cons_succ]at y0 y1 y2 y3 y4;have hsp:=HS F W6 x k ⟨op,a,b,n,l⟩ P4 l.length q4 HF.out hg6.1 (HFM.out ▸ HSH.out) (HFE.out ▸ HEN.out) HI.out (by omega) hgi (hg6.2.ints h4);rw[HFE.out]at hsp;have hin:=fun (hz:(Vr (UI m f prof) x.pl ⟨op,a,b,n,l⟩).1=0)=>HI.out.step HEN.out hz;have HSP:=hD hsp;have HW6:=hD hW6;have HS6:=hD (HST.out.trans hg6.2);have HWN:=hD hwc;have HINN:=hD hin;clear hAT h4 hgi hsp hW6 hwc hg6 y hin;generalize Vr (UI m f prof) x.pl ⟨op,a,b,n,l⟩=r at HSP HWN HINN;obtain⟨r1,r2⟩:=r;by_cases hr:r1=0
   ·subst hr;have HWN2:=hD (HWN.out.trans (if_pos rfl));have HIN2:=hD (HINN.out rfl);clear HWN HINN
    go_upto_region 7 with (fail)
    rw[← HW6.out];go_wp2_with (go_at_call 47;refine(HSP.out).mono ?_;rintro e w3 ⟨x3,hg3,hs3,rfl,hp3⟩;have HG3:=hD hg3;have HS3:=hD (HS6.out.trans hs3);have HP3:=hD (hp3 rfl);clear hg3 hs3 hp3)
    go_roundw
    case rel=>exact⟨k+1,by omega,by go_num,x3,HG3,HS3,hD (by rw[HP3.out];exact HIN2.out),hD (by rw[HP3.out];exact HWN2.out)⟩
    case measure=>simp[intOf];omega
   ·have hr2:(r1 != 0)=true:=by simpa using hr
    have HWN2:=hD (HWN.out.trans (if_neg hr));clear HWN HINN hr
    go_upto_region 7 with (fail)
    rw[← HW6.out];go_wp2_with (go_at_call 47;refine(HSP.out).mono ?_;rintro e w3 ⟨x3,hg3,hs3,rfl,hp3⟩;have HS3:=hD (HS6.out.trans hs3);clear hg3 hs3 hp3)
    go_ret2
    exact⟨by rw[HPE.out,HWN2.out];rfl,HBE.out _ _ HS3.out⟩
  ·have hd:decide ((k:Int)<(nc:Int))=false:=by simp;omega
   have hd2:decide (k<nc)=false:=by simp;omega
   obtain rfl:nc=k:=by omega
   have hwc:=HWC.out;rw[← HNC.out]at hwc;have HWN:=hD (hwc.trans walkC_end);have HED:=hD (ended_any HF.out HG.out);clear hwc;by_cases h0:x.f.length=0
   ·have hb0:(x.f.length==0)=true:=by simpa using h0
    rw[hb0]at HED;have HWN2:=hD (HWN.out.trans (if_neg (by show ¬ 0<(x.f.map Fv.fr).length;rw[List.length_map];omega)));exact ZcH
   ·have hb0:(x.f.length==0)=false:=by simpa using h0
    rw[hb0]at HED;have HWN2:=hD (HWN.out.trans (if_pos (by show 0<(x.f.map Fv.fr).length;rw[List.length_map];omega)));exact ZcH
end
section
open Go.RowKit
set_option maxHeartbeats 4000000
set_option maxRecDepth 100000
def tabTo (p:Pl) (l:List Int) (k:Nat):Prop:=∀ j,j<k→(Ww p (l.getD j 0).toNat).length=(Ww p (l.getD (l.length - 1) 0).toNat).length∧(WC p (Ww p (l.getD j 0).toNat)).isSome=true
theorem dtable_no0 {p:Pl} {l:List Int} (h:WC p [127]=none):UJ p l=none:=by unfold UJ;rw[h];rfl
theorem dtable_no {p p1:Pl} {l:List Int} (h:WC p [127]=some p1) {k:Nat} (hk:k<l.length) (hn:(Ww p1 (l.getD k 0).toNat).length≠(Ww p1 (l.getD (l.length - 1) 0).toNat).length∨(WC p1 (Ww p1 (l.getD k 0).toNat)).isSome=false):UJ p l=none:=by
 unfold UJ;rw[h,Option.bind_some];refine if_neg fun ha=>?_;rw[List.all_eq_true]at ha;have h1:=ha _ (WA l k 0 hk);simp only[Bool.and_eq_true,beq_iff_eq]at h1;rcases hn with hn|hn
 ·exact hn h1.1
 ·rw[h1.2]at hn;cases hn
theorem dtable_yes {p p1:Pl} {l:List Int} (h:WC p [127]=some p1) (ht:tabTo p1 l l.length):UJ p l=WC p1 (Ww p1 (l.getD (l.length - 1) 0).toNat):=by
 unfold UJ;rw[h,Option.bind_some];refine if_pos ?_;refine all_yes (d:=0) fun j hj=>?_;have h1:=ht j hj;simp only[Bool.and_eq_true,beq_iff_eq];exact h1
theorem labelC_of {x y:Ws} (h:y.f=x.f) (n:Nat):Ww y.pl n=Ww x.pl n:=by unfold Ww Ws.pl;rw[h]
theorem dtable_any {F:Wx} {w:World} {x:Ws} (hF:F.ref) (h:Wk F w x) (h0:0<x.f.length) (hs:x.s.length≤900000) (hh:x.top.h≤x.s.length) (hrl:∀ n,(Ww x.pl n).length≤100000) (tv:Value) (l:List Int) (hq:Wf (Wq F w x) w tv l) (hl0:0<l.length) (hll:l.length≤100000) (hin:∀ z ∈ l,Wi z x.f.length=true) :
 Calls Tryz.prog 182 #[.pointer (some ⟨F.G,0,none⟩),tv] w (DPopsPost F w x (UJ x.pl l)):=by
 obtain⟨gl,ol,cl,htv,_,_⟩:=hq.some_ hl0;rw[htv]at hq ⊢;have HW:=hD h;have HF:=hD hF;have HQ:=hD hq;have hg1:=h.alloc (.cells #[.int .i64 127] 3);have HPP:=hD (VD hF hg1.1 h0 (by omega) hh _ [127] (h.new_ints (WH w (bR w.heap.size w) 127)) (by simp));have HG1:=hD hg1;have HX:=hD (⟨h0,hs,hh⟩:0<x.f.length∧x.s.length≤900000∧x.top.h≤x.s.length);have HIN:Hid (∀ j,j<l.length→∃ m:Nat,l.getD j 0=(m:Int)∧m<x.f.length):=hD fun j hj=>by
  have h1:=hin _ (WA l j 0 hj);unfold Wi at h1;simp only[Bool.and_eq_true,decide_eq_true_eq]at h1;exact⟨(l.getD j 0).toNat,by omega,by omega⟩
 have HRL:=hD hrl;obtain⟨R,hR⟩:∃ R,UJ x.pl l=R:=⟨_,rfl⟩;rw[hR];have HR:=hD hR;obtain⟨m,hm⟩:∃ m,l.length=m:=⟨_,rfl⟩;have HM:=hD hm;rw[hm]at HQ HIN hl0 hll ⊢;clear h hF hq htv h0 hs hh hR hm hg1 hin hrl;obtain⟨R1,hR1⟩:∃ R1,WC x.pl [127]=R1:=⟨_,rfl⟩;rw[hR1]at HPP;have HR1:=hD hR1;clear hR1;cases R1 with
 | none =>
  have hr:R=none:=HR.out.symm.trans (dtable_no0 HR1.out);subst hr;go_enter Tryz.func182,Tryz.ntmps182;go_wp2_with (go_at_call 137;refine HPP.out.mono ?_;rintro e w1 ⟨x1,g1,s1,rfl,l1,-⟩;have HG2:=hD g1;have HS2:=hD s1;have HL2:=hD l1;clear g1 s1 l1)
  go_ret;exact⟨x1,HG2.out,HG1.out.2.trans HS2.out,rfl,HL2.out,fun hx=>by cases hx⟩
 | some p1 =>
  have e1:IntKind.i64.wrap ((m:Int) - 1)=((m - 1:Nat):Int):=by rw[show((m:Int) - 1)=((m - 1:Nat):Int) by omega];exact IntWalk.i64_in _ (by omega)
  obtain⟨ml,hml,hmx⟩:=HIN.out (m - 1) (by omega);have cl1:=HQ.out.at_ (m - 1) (by omega);rw[hml]at cl1;have HCL:Hid (∀ wz xz,Wz F w x wz xz→Wf (Wq F wz xz) wz (.slice (some ⟨gl,ol,none⟩) m cl) l):=hD fun wz xz hz=>hz.ints HQ.out;have HML:=hD hml;have hm1:m - 1<m:=by omega
  obtain⟨m1,hmm⟩:∃ m1,m - 1=m1:=⟨_,rfl⟩;have HMM:=hD hmm;rw[hmm]at e1 cl1 hm1;have HC1:Hid (∀ wz xz,Wz F w x wz xz→wz.cell? ⟨gl,ol+m1,none⟩=some (.int .i64 (ml:Int))):=hD fun wz xz hz=>by
   have:=(HCL.out wz xz hz).at_ m1 (by first|exact hm1|omega);rw[← HMM.out,HML.out,HMM.out]at this;exact this
  clear hml cl1 hmm;go_enter Tryz.func182,Tryz.ntmps182
  go_upto_region 3 with (go_at_call 137;refine HPP.out.mono ?_;rintro e w1 ⟨x1,g1,s1,rfl,l1,r1⟩;have HG2:=hD g1;have HS2:=hD (HG1.out.2.trans s1);have HL2:=hD l1;have HR2:=hD (r1 rfl);clear g1 s1 l1 r1)
  have c1:=HC1.out _ _ HS2.out;have HLB:=hD (dlabel_yes HF.out HG2.out ml (by rw[HL2.out.1];exact hmx));have HPL:Hid (p1=x1.pl):=hD (Option.some.inj HR2.out)
  go_upto_region 4 with (go_at_call 133;refine HLB.out.mono ?_;rintro e w2 ⟨A2,c2,rfl,g2,s2,-⟩;have HG3:=hD g2;have HS3:=hD s2;clear g2 s2)
  have p11:=HG3.out.d11 HF.out;obtain⟨A3,c3,hsv,hs1,hs2⟩:=HG3.out.sform;rw[hsv]at p11;have HSV:=hD hsv;clear c1 hsv;obtain⟨nl,hnl⟩:∃ nl,(Ww x1.pl ml).length=nl:=⟨_,rfl⟩;rw[hnl];have HNL:=hD hnl;clear hnl;go_wp2_with fail
  go_loopw [8] (fun i wr=>∃ (k:Nat) (y:Ws),k≤m∧i=.int .i64 (k:Int)∧Hid (Wk F wr y∧Wz F w x wr y∧y.f=x1.f∧y.s.length≤x1.s.length∧x1.top.h≤y.s.length∧tabTo x1.pl l k∧(0<k→WC x1.pl (Ww x1.pl (l.getD (k - 1) 0).toNat)=some y.pl))∧Hid (UZ wr x1.sv x1.s.length (x1.s.map (Value.int .i64))∧(y=x1∨∀ g,x1.sv.ownBlock=some g→Wq F wr y g))) (fun i _=>m - (intOf i).toNat)
  case atStart=>exact⟨0,x1,nZ _,rfl,hD ⟨HG3.out,HS2.out.trans HS3.out,rfl,nR _,by rw[Ws.top_of HL2.out.1];exact HL2.out.2.2,fun j hj=>absurd hj (Nat.not_lt_zero _),fun h=>absurd h (Nat.lt_irrefl _)⟩,hD ⟨owns_news HG3.out.so,.inl rfl⟩⟩
  case round =>
   obtain⟨k,y,hkm,rfl,HY,HNW⟩:=hrel;by_cases hlt:k<m
   ·have hkn:(0:Int)≤k:=Int.natCast_nonneg _;have hd:decide ((k:Int)<(m:Int))=true:=by simp;omega
    obtain⟨mk,hmk,hmkx⟩:=HIN.out k hlt;have ck:=(HCL.out _ _ HY.out.2.1).at_ k (by first|exact hlt|omega);rw[hmk]at ck;have HMK:=hD hmk;have HLK:=hD (dlabel_yes HF.out HY.out.1 mk (by rw[HY.out.2.2.1,HL2.out.1];exact hmkx));have hlb:Ww y.pl mk=Ww x1.pl mk:=labelC_of HY.out.2.2.1 mk;rw[hlb]at HLK;obtain⟨q,hqq⟩:∃ q,Ww x1.pl mk=q:=⟨_,rfl⟩;rw[hqq]at HLK;have HQQ:=hD hqq;have HQL:Hid (q.length≤100000):=hD (by rw[← hqq,labelC_of HL2.out.1];exact HRL.out mk);obtain⟨nq,hnq⟩:∃ nq,q.length=nq:=⟨_,rfl⟩;have HNQ:=hD hnq;rw[hnq]at HLK;clear hmk hlb hqq hnq
    go_upto_region 9 with (go_at_call 133;refine HLK.out.mono ?_;rintro e w4 ⟨A4,c4,rfl,g4,s4,i4⟩;have HG4:=hD g4;have HS4:=hD s4;have HI4:=hD i4;clear g4 s4 i4)
    clear ck;have hn4:UZ w4 x1.sv x1.s.length (x1.s.map (Value.int .i64)):=by
     rcases HNW.out.2 with h1|h1
     ·have:=HG4.out.so;rw[h1]at this;exact owns_news this
     ·exact HNW.out.1.keep fun a c he j u _ hc=>by
       refine(HS4.out.keeps.cell ?_).trans hc;have:=h1 a.block (by rw[he];rfl);rw[show(a.add j).block=a.block by unfold Addr.add;split <;> rfl]
       exact this
    have HN4:Hid (∀ w',Below w4.heap.size w4 w'→UZ w' x1.sv x1.s.length (x1.s.map (Value.int .i64))):=hD fun w' hb=>hn4.keep fun a c he j u _ hc=>(hb.cell (wL _ _ hc)).trans hc;have HF4:Hid (∀ g,x1.sv.ownBlock=some g→g<w4.heap.size∧g≠F.G∧y.fv.ownBlock≠some g∧F.ex≠some g):=hD fun g hg=>by
     rcases HNW.out.2 with h1|h1
     ·have hg':y.sv.ownBlock=some g:=by rw[h1];exact hg
      exact⟨HG4.out.lts.2.1 g hg',(HG4.out.sp g hg').1,(HG4.out.sp g hg').2,fun e=>(HG4.out.ep g e).2.2.1 hg'⟩
     ·have h2:=HS4.out.mono _ (h1 g hg);exact⟨h2.1,fun e=>h2.2 (.inl e),fun e=>h2.2 (.inr (.inr (.inl e))),fun e=>h2.2 (.inr (.inr (.inr e)))⟩
    clear hn4;have HP:Hid (∀ w',Below w4.heap.size w4 w'→w'.cell? ⟨F.G,11,none⟩=some y.sv∧w'.frozen? ⟨F.G,11,none⟩=false):=hD fun w' hb=>⟨(HG4.out.below hb).1.d11 HF.out,(HG4.out.below hb).1.frozen 11⟩;have HSL:Hid ((x1.s.map (Value.int .i64)).length=x1.s.length * 1):=hD (by rw[List.length_map,Nat.mul_one]);have HOS:=hD (UR x1.s);have HS1L:Hid (x1.s.length≤900000):=hD (by have:=HL2.out.2.1;have:=HX.out.2.1;have h3:(x.s).length≤900000:=HX.out.2.1;omega);have hsl:=HS1L.out;rw[HSV.out]at HN4;have hB0:=bR w4.heap.size w4;have HB0:=hD hB0;clear hB0
    go_upto_region 10 with (at_builtin;refine WE rfl (.tmp 46) (.tmp 47) 23 3 rfl _ 1 8 Tryz.underlying23 Tryz.infoInt rfl (by decide) (by decide) (.slice (some ⟨w4.heap.size,0,none⟩) 0 0) 0 [] (by rfl) (World.ownsRow_made w4 #[] 0 (nZ _) (nZ _) rfl) _ x1.s.length (x1.s.map (Value.int .i64)) (by rfl) HSL.out (HN4.out _ (Wb HB0.out _)) HOS.out (by omega) ?_;intro v5 w5 ho5 hg5 hat5;simp only[Nat.zero_add,List.nil_append]at ho5;have HB5:=hD ((Wb HB0.out (.cells #[] 3)).grown hg5 (by rw[Wj];omega) (fun g hg=>by have hg:some w4.heap.size=some g:=hg;simp only[Option.some.injEq]at hg;omega));have HOW5:=hD ho5;have HNW5:Hid (∀ g,v5.ownBlock=some g→w4.heap.size≤g):=hD (fun g hg=>by rcases hat5 with h|h;(have h:=h.symm.trans hg;have h:some w4.heap.size=some g:=h;simp only[Option.some.injEq]at h;omega);(have h:=h.symm.trans hg;simp only[Option.some.injEq,Wj]at h;omega));obtain⟨A5,c5,rfl⟩:=Wy ho5;obtain⟨e5,f5⟩:=HP.out _ HB5.out;clear ho5 hg5 hat5)
    have hst:=HG4.out.setS (W:=w4) (w:=w5) (.below HB5.out fun k hk=>hk.1) (.slice A5 x1.s.length c5) x1.s (by exact HOW5.out) (.inr HNW5.out);rw[Wx.ref_s HF.out]at hst;have HST:=hD hst;have HNX:Hid (∀ wz,Below w5.heap.size w5 wz→True):=hD fun _ _=>trivial;have hfr:∀ g,x1.sv.ownBlock=some g→Wq F (w5.setCell ⟨F.G,11,none⟩ (.slice A5 x1.s.length c5)) { y with sv:=.slice A5 x1.s.length c5,s:=x1.s } g:=fun g hg=>by
     obtain⟨h1,h2,h3,h4⟩:=HF4.out g hg;refine⟨?_,?_⟩
     ·have hz:(w5.setCell ⟨F.G,11,none⟩ (.slice A5 x1.s.length c5)).heap.size=w5.heap.size:=by simp[World.setCell]
      rw[hz];exact Ve h1 HB5.out.size
     ·rintro(e|e|e|e)
      ·exact h2 e
      ·have:=HNW5.out g e;omega
      ·exact h3 e
      ·exact h4 e
    have hnn:UZ (w5.setCell ⟨F.G,11,none⟩ (.slice A5 x1.s.length c5)) x1.sv x1.s.length (x1.s.map (Value.int .i64)):=by
     have h1:=HN4.out _ HB5.out;rw[← HSV.out]at h1;refine h1.keep fun a c he j u _ hc=>?_;have h2:=(HF4.out a.block (by rw[he];rfl)).2.1;exact((We.setCell (K:=fun b=>b≠F.G) w5 (fun e=>e rfl) _).cell (p:=a.add j) (by rw[show(a.add j).block=a.block by unfold Addr.add;split <;> rfl];exact h2)).trans hc
    have HNN:=hD (⟨hnn,hfr⟩:_∧_);clear hst hnn hfr e5 f5;generalize w5.setCell ⟨F.G,11,none⟩ (.slice A5 x1.s.length c5)=w6 at *;have HYP:Hid (Ws.pl { y with sv:=Value.slice A5 x1.s.length c5,s:=x1.s }=x1.pl):=hD (by unfold Ws.pl;rw[HY.out.2.2.1]);by_cases hlen:nq=nl
    ·subst hlen;have hd2:((nq:Int) != (nq:Int))=false:=by simp
     have HPK:=hD (VD HF.out HST.out.1 (by show 0<y.f.length;rw[HY.out.2.2.1,HL2.out.1];exact HX.out.1) (by show x1.s.length≤_;omega) (by show _≤x1.s.length;rw[Ws.top_of (x:={ y with sv:=Value.slice A5 x1.s.length c5,s:=x1.s }) (y:=x) (HY.out.2.2.1.trans HL2.out.1)];exact HL2.out.2.2) _ q (HST.out.2.ints HI4.out) (by have:=HQL.out;omega));rw[HYP.out]at HPK;obtain⟨R2,hR2⟩:∃ R2,WC x1.pl q=R2:=⟨_,rfl⟩;rw[hR2]at HPK;have HR3:=hD hR2;clear hR2;cases R2 with
     | none =>
      have hr:R=none:=HR.out.symm.trans (dtable_no (p1:=x1.pl) (by rw[HR1.out,HPL.out]) (k:=k) (by rw[HM.out];exact hlt) (.inr (by rw[HMK.out,Int.toNat_natCast,HQQ.out,HR3.out];rfl)));subst hr;go_wp2_with (go_at_call 137;refine HPK.out.mono ?_;rintro e w7 ⟨x7,g7,s7,rfl,l7,-⟩;have HG7:=hD g7;have HS7:=hD s7;have HL7:=hD l7;clear g7 s7 l7)
      go_ret;refine⟨x7,HG7.out,((HY.out.2.1.trans HS4.out).trans HST.out.2).trans HS7.out,rfl,⟨HL7.out.1.trans (HY.out.2.2.1.trans HL2.out.1),Nat.le_trans HL7.out.2.1 HL2.out.2.1,?_⟩,fun hx=>by cases hx⟩;have:=HL7.out.2.2;rw[Ws.top_of (x:={ y with sv:=Value.slice A5 x1.s.length c5,s:=x1.s }) (y:=x) (HY.out.2.2.1.trans HL2.out.1)]at this;exact this
     | some p7 =>
      go_wp2_with (go_at_call 137;refine HPK.out.mono ?_;rintro e w7 ⟨x7,g7,s7,rfl,l7,r7⟩;have HG7:=hD g7;have HS7:=hD s7;have HL7:=hD l7;have HR7:=hD (r7 rfl);clear g7 s7 l7 r7)
      go_roundw
      case rel=>exact⟨k+1,x7,by omega,by go_num,hD ⟨HG7.out,((HY.out.2.1.trans HS4.out).trans HST.out.2).trans HS7.out,HL7.out.1.trans HY.out.2.2.1,HL7.out.2.1,by
       have:=HL7.out.2.2;rw[Ws.top_of (x:={ y with sv:=Value.slice A5 x1.s.length c5,s:=x1.s }) (y:=x1) HY.out.2.2.1]at this;exact this,fun j hj=>by
       rcases Nat.lt_or_ge j k with h1|h1
       ·exact HY.out.2.2.2.2.2.1 j h1
       ·obtain rfl:j=k:=by omega
        refine⟨?_,?_⟩
        ·rw[HMK.out,Int.toNat_natCast,HQQ.out,HNQ.out,HM.out,HML.out,Int.toNat_natCast,HNL.out]
        ·rw[HMK.out,Int.toNat_natCast,HQQ.out,HR3.out];rfl,fun _=>by
       rw[Nat.add_sub_cancel,HMK.out,Int.toNat_natCast,HQQ.out,HR3.out];exact HR7.out⟩,hD ⟨HNN.out.1.keep fun a c he j u _ hc=>(HS7.out.keeps.cell (by
       have:=HNN.out.2 a.block (by rw[he];rfl);rw[show(a.add j).block=a.block by unfold Addr.add;split <;> rfl];exact this)).trans hc,.inr fun g hg=>HS7.out.mono _ (HNN.out.2 g hg)⟩⟩
      case measure=>simp[intOf];omega
    ·have hd2:((nq:Int) != (nl:Int))=true:=by simp;omega
     have hr:R=none:=HR.out.symm.trans (dtable_no (p1:=x1.pl) (by rw[HR1.out,HPL.out]) (k:=k) (by rw[HM.out];exact hlt) (.inl (by rw[HMK.out,Int.toNat_natCast,HQQ.out,HNQ.out,HM.out,HML.out,Int.toNat_natCast,HNL.out];exact hlen)));subst hr;have HLEN:=hD hlen;clear hlen;go_wp2;go_ret;exact⟨_,HST.out.1,(HY.out.2.1.trans HS4.out).trans HST.out.2,rfl,⟨HY.out.2.2.1.trans HL2.out.1,HL2.out.2.1,HL2.out.2.2⟩,fun hx=>by cases hx⟩
   ·obtain rfl:k=m:=by omega
    have hd:decide ((k:Int)<(k:Int))=false:=by simp
    have hr:R=some y.pl:=by
     refine HR.out.symm.trans ((dtable_yes (p1:=x1.pl) (by rw[HR1.out,HPL.out]) (by rw[HM.out];exact HY.out.2.2.2.2.2.1)).trans ?_);rw[HM.out];exact HY.out.2.2.2.2.2.2 hl0
    subst hr;go_wp2;go_ret;exact⟨y,HY.out.1,HY.out.2.1,rfl,⟨HY.out.2.2.1.trans HL2.out.1,Nat.le_trans HY.out.2.2.2.1 HL2.out.2.1,by rw[← Ws.top_of HL2.out.1];exact HY.out.2.2.2.2.1⟩,fun _=>rfl⟩
end
end Go.Proofs.YtmfpnfdinoofpaaGreatDoor
