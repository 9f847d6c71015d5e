/- A part of the proof. -/
import Derived.Test.YtgmgcadlkebokaaGreatDoorJ34
namespace Go.Proofs.YtgmgcadlkebokaaGreatDoor
open Go.RowKit
set_option maxHeartbeats 3000000
set_option maxRecDepth 100000
theorem Zg {P:Prop}(h:P:=by
 have HN2:=hD (HN.out (by simp));clear HY HN;refine wp_region_held_drew (S:=fun wz=>Below W.heap.size W wz) (by kernel_rfl) ((bR _ _).drew) (fun hS=>?_);show wpAnyH _ _ _ _ _ 30 #[false,false,false,false,false,false,false,false,false,false,false,false,false,false,false,false,false,false,false,false,false,false,false,false,false,false,false,false,false,false] _ _;first|refine mT 0 19 rfl hS ?_|refine mN 0 19 rfl hS ?_
 first|refine mT 1 20 rfl hS ?_ (hy:=by intro wS hSw;obtain⟨s0,s1,s2,s3,s4,s5⟩:=HF.out wS hSw;go_simp;try with_reducible rfl)|refine mN 1 20 rfl hS ?_
 first|refine mT 2 21 rfl hS ?_|refine mN 2 21 rfl hS ?_
 first|refine mT 3 22 rfl hS ?_|refine mN 3 22 rfl hS ?_
 first|refine mT 4 23 rfl hS ?_|refine mN 4 23 rfl hS ?_
 first|refine mT 5 24 rfl hS ?_|refine mN 5 24 rfl hS ?_
 first|refine mT 6 25 rfl hS ?_ (hy:=by intro wS hSw;obtain⟨s0,s1,s2,s3,s4,s5⟩:=HF.out wS hSw;go_simp;try with_reducible rfl)|refine mN 6 25 rfl hS ?_
 first|refine mT 7 26 rfl hS ?_|refine mN 7 26 rfl hS ?_
 first|refine mT 8 27 rfl hS ?_|refine mN 8 27 rfl hS ?_
 first|refine mT 9 28 rfl hS ?_|refine mN 9 28 rfl hS ?_
 first|refine mT 10 29 rfl hS ?_ (hy:=by intro wS hSw;obtain⟨s0,s1,s2,s3,s4,s5⟩:=HF.out wS hSw;go_simp;try with_reducible rfl)|refine mN 10 29 rfl hS ?_
 first|refine mT 11 30 rfl hS ?_|refine mN 11 30 rfl hS ?_
 first|refine mT 12 31 rfl hS ?_|refine mN 12 31 rfl hS ?_
 first|refine mT 13 32 rfl hS ?_|refine mN 13 32 rfl hS ?_
 first|refine mT 14 33 rfl hS ?_|refine mN 14 33 rfl hS ?_
 first|refine mT 15 34 rfl hS ?_ (hy:=by intro wS hSw;obtain⟨s0,s1,s2,s3,s4,s5⟩:=HF.out wS hSw;go_simp;try with_reducible rfl)|refine mN 15 34 rfl hS ?_
 refine mR 16 35 rfl fun K hK=>?_;first|(go_simp;go_at_call 87;refine(C1.out _ (Wa HB0W.out hS)).mono ?_;rintro e wq ⟨rfl,hwq⟩;go_wp2_with fail;refine hK.out _ _ (Wa hS hwq) (fun hS'=>?_);clear hK K hS hwq;have hS:=hS';clear hS';try simp only[sA,List.set])|(go_simp;refine hK.out _ _ hS (fun _=>?_);clear hK K)
 first|refine mT 17 36 rfl hS ?_|refine mN 17 36 rfl hS ?_
 first|refine mT 18 37 rfl hS ?_|refine mN 18 37 rfl hS ?_
 first|refine mT 19 38 rfl hS ?_|refine mN 19 38 rfl hS ?_
 first|refine mT 20 39 rfl hS ?_|refine mN 20 39 rfl hS ?_
 first|refine mT 21 40 rfl hS ?_ (hy:=by intro wS hSw;obtain⟨s0,s1,s2,s3,s4,s5⟩:=HF.out wS hSw;go_simp;try with_reducible rfl)|refine mN 21 40 rfl hS ?_
 first|refine mT 22 41 rfl hS ?_|refine mN 22 41 rfl hS ?_
 first|refine mT 23 42 rfl hS ?_|refine mN 23 42 rfl hS ?_
 first|refine mT 24 43 rfl hS ?_|refine mN 24 43 rfl hS ?_
 first|refine mT 25 44 rfl hS ?_|refine mN 25 44 rfl hS ?_
 first|refine mT 26 45 rfl hS ?_ (hy:=by intro wS hSw;obtain⟨s0,s1,s2,s3,s4,s5⟩:=HF.out wS hSw;go_simp;try with_reducible rfl)|refine mN 26 45 rfl hS ?_
 refine mR 27 46 rfl fun K hK=>?_;first|(go_simp;go_at_call 88;refine(C2.out _ (Wa HB0W.out hS)).mono ?_;rintro e wq ⟨rfl,hwq⟩;go_wp2_with fail;refine hK.out _ _ (Wa hS hwq) (fun hS'=>?_);clear hK K hS hwq;have hS:=hS';clear hS';try simp only[sA,List.set])|(go_simp;refine hK.out _ _ hS (fun _=>?_);clear hK K)
 first|refine mT 28 47 rfl hS ?_|refine mN 28 47 rfl hS ?_
 first|refine mT 29 48 rfl hS ?_|refine mN 29 48 rfl hS ?_
 refine wpAnyH_done (by kernel_rfl) ?_ _;go_wp2;go_ret;exact⟨WA (by rw[HN2.out]),(Wa HBW.out hS)⟩):P:=h
theorem Zs {P:Prop}(h:P:=by
 have HN2:=hD (HN.out (by simp));clear HY HN;refine wp_region_held_drew (S:=fun wz=>Below W.heap.size W wz) (by kernel_rfl) ((bR _ _).drew) (fun hS=>?_);show wpAnyH _ _ _ _ _ 20 #[false,false,false,false,false,false,false,false,false,false,false,false,false,false,false,false,false,false,false,false] _ _;first|refine mT 0 19 rfl hS ?_|refine mN 0 19 rfl hS ?_
 first|refine mT 1 20 rfl hS ?_ (hy:=by intro wS hSw;obtain⟨s0,s1,s2,s3⟩:=HF.out wS hSw;go_simp;try with_reducible rfl)|refine mN 1 20 rfl hS ?_
 first|refine mT 2 21 rfl hS ?_|refine mN 2 21 rfl hS ?_
 first|refine mT 3 22 rfl hS ?_|refine mN 3 22 rfl hS ?_
 first|refine mT 4 23 rfl hS ?_|refine mN 4 23 rfl hS ?_
 first|refine mT 5 24 rfl hS ?_|refine mN 5 24 rfl hS ?_
 first|refine mT 6 25 rfl hS ?_ (hy:=by intro wS hSw;obtain⟨s0,s1,s2,s3⟩:=HF.out wS hSw;go_simp;try with_reducible rfl)|refine mN 6 25 rfl hS ?_
 refine mR 7 26 rfl fun K hK=>?_;first|(go_simp;go_at_call 87;refine(C0.out _ (Wa HB0W.out hS)).mono ?_;rintro e wq ⟨rfl,hwq⟩;go_wp2_with fail;refine hK.out _ _ (Wa hS hwq) (fun hS'=>?_);clear hK K hS hwq;have hS:=hS';clear hS';try simp only[sA,List.set])|(go_simp;refine hK.out _ _ hS (fun _=>?_);clear hK K)
 first|refine mT 8 27 rfl hS ?_|refine mN 8 27 rfl hS ?_
 first|refine mT 9 28 rfl hS ?_|refine mN 9 28 rfl hS ?_
 first|refine mT 10 29 rfl hS ?_|refine mN 10 29 rfl hS ?_
 first|refine mT 11 30 rfl hS ?_ (hy:=by intro wS hSw;obtain⟨s0,s1,s2,s3⟩:=HF.out wS hSw;go_simp;try with_reducible rfl)|refine mN 11 30 rfl hS ?_
 first|refine mT 12 31 rfl hS ?_|refine mN 12 31 rfl hS ?_
 first|refine mT 13 32 rfl hS ?_|refine mN 13 32 rfl hS ?_
 first|refine mT 14 33 rfl hS ?_|refine mN 14 33 rfl hS ?_
 first|refine mT 15 34 rfl hS ?_|refine mN 15 34 rfl hS ?_
 first|refine mT 16 35 rfl hS ?_ (hy:=by intro wS hSw;obtain⟨s0,s1,s2,s3⟩:=HF.out wS hSw;go_simp;try with_reducible rfl)|refine mN 16 35 rfl hS ?_
 refine mR 17 36 rfl fun K hK=>?_;first|(go_simp;go_at_call 87;refine(C1.out _ (Wa HB0W.out hS)).mono ?_;rintro e wq ⟨rfl,hwq⟩;go_wp2_with fail;refine hK.out _ _ (Wa hS hwq) (fun hS'=>?_);clear hK K hS hwq;have hS:=hS';clear hS';try simp only[sA,List.set])|(go_simp;refine hK.out _ _ hS (fun _=>?_);clear hK K)
 first|refine mT 18 37 rfl hS ?_|refine mN 18 37 rfl hS ?_
 first|refine mT 19 38 rfl hS ?_|refine mN 19 38 rfl hS ?_
 refine wpAnyH_done (by kernel_rfl) ?_ _;go_wp2;go_ret;exact⟨WA (by rw[HN2.out]),(Wa HBW.out hS)⟩):P:=h
theorem Zu {P:Prop}(h:P:=by
 have HN2:=hD (HN.out (by simp));clear HY HN;refine wp_region_held_drew (S:=fun wz=>Below W.heap.size W wz) (by kernel_rfl) ((bR _ _).drew) (fun hS=>?_);show wpAnyH _ _ _ _ _ 19 #[false,false,false,false,false,false,false,false,false,false,false,false,false,false,false,false,false,false,false] _ _;first|refine mT 0 19 rfl hS ?_|refine mN 0 19 rfl hS ?_
 first|refine mT 1 20 rfl hS ?_ (hy:=by intro wS hSw;obtain⟨s0,s1,s2,s3⟩:=HF.out wS hSw;go_simp;try with_reducible rfl)|refine mN 1 20 rfl hS ?_
 first|refine mT 2 21 rfl hS ?_|refine mN 2 21 rfl hS ?_
 first|refine mT 3 22 rfl hS ?_|refine mN 3 22 rfl hS ?_
 first|refine mT 4 23 rfl hS ?_|refine mN 4 23 rfl hS ?_
 first|refine mT 5 24 rfl hS ?_|refine mN 5 24 rfl hS ?_
 first|refine mT 6 25 rfl hS ?_ (hy:=by intro wS hSw;obtain⟨s0,s1,s2,s3⟩:=HF.out wS hSw;go_simp;try with_reducible rfl)|refine mN 6 25 rfl hS ?_
 first|refine mT 7 26 rfl hS ?_|refine mN 7 26 rfl hS ?_
 first|refine mT 8 27 rfl hS ?_|refine mN 8 27 rfl hS ?_
 first|refine mT 9 28 rfl hS ?_|refine mN 9 28 rfl hS ?_
 first|refine mT 10 29 rfl hS ?_ (hy:=by intro wS hSw;obtain⟨s0,s1,s2,s3⟩:=HF.out wS hSw;go_simp;try with_reducible rfl)|refine mN 10 29 rfl hS ?_
 first|refine mT 11 30 rfl hS ?_|refine mN 11 30 rfl hS ?_
 first|refine mT 12 31 rfl hS ?_|refine mN 12 31 rfl hS ?_
 first|refine mT 13 32 rfl hS ?_|refine mN 13 32 rfl hS ?_
 first|refine mT 14 33 rfl hS ?_|refine mN 14 33 rfl hS ?_
 first|refine mT 15 34 rfl hS ?_ (hy:=by intro wS hSw;obtain⟨s0,s1,s2,s3⟩:=HF.out wS hSw;go_simp;try with_reducible rfl)|refine mN 15 34 rfl hS ?_
 refine mR 16 35 rfl fun K hK=>?_;first|(go_simp;go_at_call 89;refine(C1.out _ (Wa HB0W.out hS)).mono ?_;rintro e wq ⟨rfl,hwq⟩;go_wp2_with fail;refine hK.out _ _ (Wa hS hwq) (fun hS'=>?_);clear hK K hS hwq;have hS:=hS';clear hS';try simp only[sA,List.set])|(go_simp;refine hK.out _ _ hS (fun _=>?_);clear hK K)
 first|refine mT 17 36 rfl hS ?_|refine mN 17 36 rfl hS ?_
 first|refine mT 18 37 rfl hS ?_|refine mN 18 37 rfl hS ?_
 refine wpAnyH_done (by kernel_rfl) ?_ _;go_wp2;go_ret;exact⟨WA (by rw[HN2.out]),(Wa HBW.out hS)⟩):P:=h
theorem ZP {P:Prop}(h:P:=by
 have hd:decide ((k:Int)<(n:Int))=false:=by simp;omega
 have HD:=hD (VA HQ1.out HQ2.out (show ∀ j,j<n→_ by rw[show n=k by omega];exact HE.out));go_wp2;go_ret;exact⟨WA (by rw[HD.out]),HB.out⟩):P:=h
theorem Z0 {P:Prop}(h:P:=by
 have HN2:=hD (HN.out (by simp));clear HY HN;obtain⟨s0,s1,s2,s3,s4,s5,s6,s7,s8,s9⟩:=HF.out W2 (bR _ _);go_wp2_with (first|(go_at_call 87;(with_reducible refine(C4.out _ HB0W.out).mono ?_);rintro e wq ⟨rfl,hwq⟩))
 go_ret;exact⟨WA (by rw[HN2.out]),HBW.out⟩):P:=h
theorem Zbd {P:Prop}(h:P:=by
 have HN2:=hD (HN.out (by simp));clear HY HN;obtain⟨s0,s1,s2,s3,s4,s5,s6,s7⟩:=HF.out W2 (bR _ _);go_wp2_with (first|(go_at_call 89;(with_reducible refine(C3.out _ HB0W.out).mono ?_);rintro e wq ⟨rfl,hwq⟩))
 go_ret;exact⟨WA (by rw[HN2.out]),HBW.out⟩):P:=h
theorem Zbg {P:Prop}(h:P:=by
 refine wpAnyH_done (by kernel_rfl) ?_ _;go_wp2;go_roundw
 case rel=>exact⟨k+1,by omega,by go_num,hD (Wa HBW.out hS),HY2⟩
 case measure=>simp[intOf];omega):P:=h
theorem Zcx {P:Prop}(h:P:=by
 go_roundw
 case rel=>exact⟨k+1,by omega,by go_num,hD (Wa HBW.out hwq),HY2⟩
 case measure=>simp[intOf];omega):P:=h
theorem WD.some_ {K:Nat→Prop} {w:World} {v:Value} {l:List Nat} (h:WD K w v l) (hl:0<l.length):∃ g o c:Nat,v=.slice (some ⟨g,o,none⟩) l.length c∧l.length≤maxLen:=by
 obtain⟨A,c,rfl,h1,_,_,h3,_⟩:=h;obtain⟨g,o,rfl,_,_⟩:=h3 hl;exact⟨g,o,c,rfl,h1⟩
theorem WD.at_ {K:Nat→Prop} {w:World} {g o n c:Nat} {l:List Nat} (h:WD K w (.slice (some ⟨g,o,none⟩) n c) l) (j:Nat) (hj:j<n):w.cell? ⟨g,o+j,none⟩=some (.int .u8 ((l.getD j 0:Nat):Int)):=by
 obtain⟨A,c',he,h1,_,_,h3,_⟩:=h;exact Zch
theorem WD.form {K:Nat→Prop} {w:World} {v:Value} {l:List Nat} (h:WD K w v l):∃ A c,v=.slice A l.length c∧l.length≤maxLen∧True:=by
 obtain⟨A,c,rfl,h1,_⟩:=h;exact⟨A,c,rfl,h1,trivial⟩
theorem equal_bytes (K:Nat→Prop) (w:World) (v1 v2:Value) (q1 q2:List Nat) (h1:WD K w v1 q1) (h2:WD K w v2 q2):Calls Tryz.prog 89 #[v1,v2] w (Wj (decide (q1=q2)) w):=by
 obtain⟨A1,c1,hv1,hm1,_⟩:=h1.form;obtain⟨A2,c2,hv2,_,_⟩:=h2.form;unfold maxLen at hm1;rw[hv1]at h1 ⊢;rw[hv2]at h2 ⊢;have H1:=hD h1;have H2:=hD h2;clear h1 h2 hv1 hv2;generalize hQ1:q1.length=n at *;generalize hQ2:q2.length=m at *;have HQ1:=hD hQ1;have HQ2:=hD hQ2;clear hQ1 hQ2;by_cases hnm:n=m
 ·subst hnm;go_enter Tryz.func89,Tryz.ntmps89;go_wp2_with fail
  go_loopw [13] (fun i wr=>∃ k a:Nat,k≤n∧i=.int .i64 (k:Int)∧wr=w.drewN a∧Hid (EqTo q1 q2 0 k)) (fun i _=>n - (intOf i).toNat)
  case atStart=>exact⟨0,0,nZ _,rfl,rfl,hD (EqTo.zero _ _ _)⟩
  case round =>
   obtain⟨k,a,hk,rfl,rfl,HE⟩:=hrel;by_cases hlt:k<n
   ·have hkn:(0:Int)≤k:=Int.natCast_nonneg _;have hd:decide ((k:Int)<(n:Int))=true:=by simp;omega
    obtain⟨g1,o1,c3,he,_⟩:=H1.out.some_ (by rw[HQ1.out];omega);simp only[vI]at he;obtain⟨rfl,-,-⟩:=he;obtain⟨g2,o2,c4,he,_⟩:=H2.out.some_ (by rw[HQ2.out];omega);simp only[vI]at he;obtain⟨rfl,-,-⟩:=he;have k1:=H1.out.at_ k hlt;have k2:=H2.out.at_ k hlt;have HY:=hD (fun (h:q1.getD k 0=q2.getD k 0)=>HE.out.succ h);have HN:=hD (fun (h:q1.getD k 0≠q2.getD k 0)=>ne_at h);generalize q1.getD k 0=y at k1 HY HN;generalize q2.getD k 0=z at k2 HY HN;go_wp2_with fail
    go_quiet (fail)
    by_cases hyz:y=z
    ·have HY2:=hD (HY.out hyz);clear HY HN;subst hyz;have hd2:((y:Int) != (y:Int))=false:=by simp
     go_wp2;go_roundw
     case rel=>exact⟨k+1,_,by omega,by go_num,rfl,HY2⟩
     case measure=>simp[intOf];omega
    ·have hd2:((y:Int) != (z:Int))=true:=by simp;omega
     have HN2:=hD (HN.out hyz);clear HY HN;go_wp2;go_ret;exact⟨WA (by rw[decide_eq_false HN2.out]),Wn (Wn (bR _ _) _) _⟩
   ·have hd:decide ((k:Int)<(n:Int))=false:=by simp;omega
    have HD:=hD (EqTo.done (d:=(0:Nat)) (HQ1.out.trans HQ2.out.symm) (show EqTo q1 q2 0 q1.length by rw[HQ1.out,show n=k by omega];exact HE.out));go_wp2;go_ret;exact⟨WA (by rw[decide_eq_true HD.out]),Wn (bR _ _) _⟩
 ·have hd:((n:Int) != (m:Int))=true:=by simp;omega
  have HN:Hid (q1≠q2):=hD (ne_len (by rw[HQ1.out,HQ2.out];exact hnm));go_enter Tryz.func89,Tryz.ntmps89;exact Zcd
theorem sameTypes_any (w:World) (v1 v2:Value) (q1 q2:List (List Int×List Int)) (h1:Vn (fun k=>k<w.heap.size) w v1 q1) (h2:Vn (fun k=>k<w.heap.size) w v2 q2):Calls Tryz.prog 38 #[v1,v2] w (Wj (Ww typE ([],[]) q1 q2) w):=by
 obtain⟨A1,c1,hv1,hl1,hm1⟩:=Wb.form h1;obtain⟨A2,c2,hv2,hl2,hm2⟩:=Wb.form h2;unfold maxLen at hm1 hm2;rw[hv1]at h1 ⊢;rw[hv2]at h2 ⊢;have H1:=hD (fun wz (hb:Below w.heap.size w wz)=>(Vn.keep (K':=fun k=>k<wz.heap.size) h1 (We.below hb fun _ hk=>hk) (fun _ hk=>WK hk hb.size)));have H2:=hD (fun wz (hb:Below w.heap.size w wz)=>(Vn.keep (K':=fun k=>k<wz.heap.size) h2 (We.below hb fun _ hk=>hk) (fun _ hk=>WK hk hb.size)));clear h1 h2 hv1 hv2;generalize hQ1:q1.length=n at *;generalize hQ2:q2.length=m at *;have HQ1:=hD hQ1;have HQ2:=hD hQ2;clear hQ1 hQ2;by_cases hnm:n=m
 rotate_left
 ·have hd:((n:Int) != (m:Int))=true:=by simp;omega
  have HN:=hD (WQ (e:=typE) (d:=([],[])) (a:=q1) (b:=q2) (by rw[HQ1.out,HQ2.out];exact hnm));go_enter Tryz.func38,Tryz.ntmps38;exact Zbo
 ·subst hnm;go_enter Tryz.func38,Tryz.ntmps38;go_wp2_with fail
  go_loopw [14] (fun i wr=>∃ k:Nat,k≤n∧i=.int .i64 (k:Int)∧Hid (Below w.heap.size w wr)∧Hid (UI typE ([],[]) q1 q2 k)) (fun i _=>n - (intOf i).toNat)
  case atStart=>exact⟨0,nZ _,rfl,hD (bR _ _),hD (UI.zero _ _ _ _)⟩
  case round =>
   obtain⟨w0,rfl⟩:∃ w0,w0=wr:=⟨_,rfl⟩;obtain⟨k,hk,rfl,HB,HE⟩:=hrel;by_cases hlt:k<n
   rotate_left
   ·exact ZP
   ·have hkn:(0:Int)≤(k:Int)∧(k:Int)<(n:Int):=by omega
    have hd:decide ((k:Int)<(n:Int))=true:=by simp;omega
    obtain⟨g1,o1,c3,he,_,_⟩:=Wb.some_ (H1.out w0 HB.out) (by rw[HQ1.out];omega);simp only[vI]at he;obtain⟨rfl,-,-⟩:=he;obtain⟨g2,o2,c4,he,_,_⟩:=Wb.some_ (H2.out w0 HB.out) (by rw[HQ2.out];omega);simp only[vI]at he;obtain⟨rfl,-,-⟩:=he;have hA1:=H1.out w0 HB.out;have hA2:=H2.out w0 HB.out;obtain⟨u10,k10,f10⟩:=Wb.at_ hA1 k 0 (by rw[HQ1.out];exact hlt) (by decide);obtain⟨u11,k11,f11⟩:=Wb.at_ hA1 k 1 (by rw[HQ1.out];exact hlt) (by decide);obtain⟨u20,k20,f20⟩:=Wb.at_ hA2 k 0 (by rw[HQ2.out];exact hlt) (by decide);obtain⟨u21,k21,f21⟩:=Wb.at_ hA2 k 1 (by rw[HQ2.out];exact hlt) (by decide);have HY:=hD (fun (h:typE (q1.getD k ([],[])) (q2.getD k ([],[]))=true)=>HE.out.succ h);have HN:=hD (fun (h:typE (q1.getD k ([],[])) (q2.getD k ([],[]))=false)=>W6 HQ1.out hlt h);clear hA1 hA2;generalize q1.getD k ([],[])=x at f10 f11 HY HN;obtain⟨x0,x1⟩:=x;have f10:Wh (fun k=>k<w0.heap.size) w0 u10 x0:=f10;obtain⟨P10,e10,rfl,_,_⟩:=Wh.form f10;have f11:Wh (fun k=>k<w0.heap.size) w0 u11 x1:=f11;obtain⟨P11,e11,rfl,_,_⟩:=Wh.form f11;generalize q2.getD k ([],[])=y at f20 f21 HY HN;obtain⟨y0,y1⟩:=y;have f20:Wh (fun k=>k<w0.heap.size) w0 u20 y0:=f20;obtain⟨P20,e20,rfl,_,_⟩:=Wh.form f20;have f21:Wh (fun k=>k<w0.heap.size) w0 u21 y1:=f21;obtain⟨P21,e21,rfl,_,_⟩:=Wh.form f21;rw[Nat.add_zero]at k10 k20;rw[show typE ⟨x0,x1⟩ ⟨y0,y1⟩=(Vu x0 y0 && (Vu x1 y1)) from rfl]at HY HN;have C0:=hD (fun wz (hb:Below w0.heap.size w0 wz)=>(show Calls Tryz.prog 87 #[.slice P10 x0.length e10,.slice P20 y0.length e20] wz (Wj (Vu x0 y0) wz) from equal_is (fun k=>k<wz.heap.size) wz _ _ x0 y0 (f10.keep (We.below hb fun _ hk=>hk) fun _ hk=>WK hk hb.size) (f20.keep (We.below hb fun _ hk=>hk) fun _ hk=>WK hk hb.size)));generalize Vu x0 y0=b0 at C0 HY HN;have C1:=hD (fun wz (hb:Below w0.heap.size w0 wz)=>(show Calls Tryz.prog 87 #[.slice P11 x1.length e11,.slice P21 y1.length e21] wz (Wj (Vu x1 y1) wz) from equal_is (fun k=>k<wz.heap.size) wz _ _ x1 y1 (f11.keep (We.below hb fun _ hk=>hk) fun _ hk=>WK hk hb.size) (f21.keep (We.below hb fun _ hk=>hk) fun _ hk=>WK hk hb.size)));generalize Vu x1 y1=b1 at C1 HY HN;generalize x0.length=m10 at *;generalize y0.length=m20 at *;generalize x1.length=m11 at *;generalize y1.length=m21 at *;clear f10 f20 f11 f21;obtain⟨W,hW⟩:∃ W,W=w0.alloc (.cells #[.slice P10 m10 e10,.slice P11 m11 e11] 68):=⟨_,rfl⟩;have hbw:Below w0.heap.size w0 W:=by rw[hW];exact(bR _ _).alloc (nR _) _
    have hv:∀ i,W.cell? ⟨w0.heap.size,i,none⟩=(#[.slice P10 m10 e10,.slice P11 m11 e11]:Array Value)[i]?:=fun i=>by rw[hW];exact wN w0 _ _ i
    have hv0:=hv 0;have hv1:=hv 1;simp only[List.getElem?_toArray,List.getElem?_cons_zero,List.getElem?_cons_succ]at hv0 hv1;have HF:=hD (fun wz (hb:Below W.heap.size W wz)=>(show wz.cell? ⟨w0.heap.size,0,none⟩=some (.slice P10 m10 e10)∧wz.cell? ⟨w0.heap.size,1,none⟩=some (.slice P11 m11 e11)∧wz.cell? ⟨g2,o2+k * 2,none⟩=some (.slice P20 m20 e20)∧wz.cell? ⟨g2,o2+k * 2+1,none⟩=some (.slice P21 m21 e21) from ⟨(hb.cell (p:=⟨w0.heap.size,0,none⟩) (wL _ _ hv0)).trans hv0,(hb.cell (p:=⟨w0.heap.size,1,none⟩) (wL _ _ hv1)).trans hv1,((Wa hbw hb).cell (p:=⟨g2,o2+k * 2,none⟩) (wL _ _ k20)).trans k20,((Wa hbw hb).cell (p:=⟨g2,o2+k * 2+1,none⟩) (wL _ _ k21)).trans k21⟩));have HBW:=hD (Wa HB.out hbw);have HB0W:=hD hbw;clear hv hv0 hv1 hbw
    go_upto_region 6 with (fail)
    rw[← hW];clear hW k10 k20 k11 k21;cases b0 with
    | false =>
     exact Zs
    | true =>
     rw[Bool.true_and]at HY HN;cases b1 with
     | false =>
      exact Zs
     | true =>
      have HY2:=hD (HY.out (by simp));clear HY HN;refine wp_region_held_drew (S:=fun wz=>Below W.heap.size W wz) (by kernel_rfl) ((bR _ _).drew) (fun hS=>?_);show wpAnyH _ _ _ _ _ 20 #[false,false,false,false,false,false,false,false,false,false,false,false,false,false,false,false,false,false,false,false] _ _;first|refine mT 0 19 rfl hS ?_|refine mN 0 19 rfl hS ?_
      first|refine mT 1 20 rfl hS ?_ (hy:=by intro wS hSw;obtain⟨s0,s1,s2,s3⟩:=HF.out wS hSw;go_simp;try with_reducible rfl)|refine mN 1 20 rfl hS ?_
      first|refine mT 2 21 rfl hS ?_|refine mN 2 21 rfl hS ?_
      first|refine mT 3 22 rfl hS ?_|refine mN 3 22 rfl hS ?_
      first|refine mT 4 23 rfl hS ?_|refine mN 4 23 rfl hS ?_
      first|refine mT 5 24 rfl hS ?_|refine mN 5 24 rfl hS ?_
      first|refine mT 6 25 rfl hS ?_ (hy:=by intro wS hSw;obtain⟨s0,s1,s2,s3⟩:=HF.out wS hSw;go_simp;try with_reducible rfl)|refine mN 6 25 rfl hS ?_
      refine mR 7 26 rfl fun K hK=>?_;first|(go_simp;go_at_call 87;refine(C0.out _ (Wa HB0W.out hS)).mono ?_;rintro e wq ⟨rfl,hwq⟩;go_wp2_with fail;refine hK.out _ _ (Wa hS hwq) (fun hS'=>?_);clear hK K hS hwq;have hS:=hS';clear hS';try simp only[sA,List.set])|(go_simp;refine hK.out _ _ hS (fun _=>?_);clear hK K)
      first|refine mT 8 27 rfl hS ?_|refine mN 8 27 rfl hS ?_
      first|refine mT 9 28 rfl hS ?_|refine mN 9 28 rfl hS ?_
      first|refine mT 10 29 rfl hS ?_|refine mN 10 29 rfl hS ?_
      first|refine mT 11 30 rfl hS ?_ (hy:=by intro wS hSw;obtain⟨s0,s1,s2,s3⟩:=HF.out wS hSw;go_simp;try with_reducible rfl)|refine mN 11 30 rfl hS ?_
      first|refine mT 12 31 rfl hS ?_|refine mN 12 31 rfl hS ?_
      first|refine mT 13 32 rfl hS ?_|refine mN 13 32 rfl hS ?_
      first|refine mT 14 33 rfl hS ?_|refine mN 14 33 rfl hS ?_
      first|refine mT 15 34 rfl hS ?_|refine mN 15 34 rfl hS ?_
      first|refine mT 16 35 rfl hS ?_ (hy:=by intro wS hSw;obtain⟨s0,s1,s2,s3⟩:=HF.out wS hSw;go_simp;try with_reducible rfl)|refine mN 16 35 rfl hS ?_
      refine mR 17 36 rfl fun K hK=>?_;first|(go_simp;go_at_call 87;refine(C1.out _ (Wa HB0W.out hS)).mono ?_;rintro e wq ⟨rfl,hwq⟩;go_wp2_with fail;refine hK.out _ _ (Wa hS hwq) (fun hS'=>?_);clear hK K hS hwq;have hS:=hS';clear hS';try simp only[sA,List.set])|(go_simp;refine hK.out _ _ hS (fun _=>?_);clear hK K)
      first|refine mT 18 37 rfl hS ?_|refine mN 18 37 rfl hS ?_
      first|refine mT 19 38 rfl hS ?_|refine mN 19 38 rfl hS ?_
      exact Zbg
theorem sameCode_any (w:World) (v1 v2:Value) (q1 q2:List (Ins)) (h1:WO (fun k=>k<w.heap.size) w v1 q1) (h2:WO (fun k=>k<w.heap.size) w v2 q2):Calls Tryz.prog 88 #[v1,v2] w (Wj (Ww insE VX q1 q2) w):=by
 obtain⟨A1,c1,hv1,hl1,hm1⟩:=Wb.form h1;obtain⟨A2,c2,hv2,hl2,hm2⟩:=Wb.form h2;unfold maxLen at hm1 hm2;rw[hv1]at h1 ⊢;rw[hv2]at h2 ⊢;have H1:=hD (fun wz (hb:Below w.heap.size w wz)=>(WO.keep (K':=fun k=>k<wz.heap.size) h1 (We.below hb fun _ hk=>hk) (fun _ hk=>WK hk hb.size)));have H2:=hD (fun wz (hb:Below w.heap.size w wz)=>(WO.keep (K':=fun k=>k<wz.heap.size) h2 (We.below hb fun _ hk=>hk) (fun _ hk=>WK hk hb.size)));clear h1 h2 hv1 hv2;generalize hQ1:q1.length=n at *;generalize hQ2:q2.length=m at *;have HQ1:=hD hQ1;have HQ2:=hD hQ2;clear hQ1 hQ2;by_cases hnm:n=m
 rotate_left
 ·have hd:((n:Int) != (m:Int))=true:=by simp;omega
  have HN:=hD (WQ (e:=insE) (d:=VX) (a:=q1) (b:=q2) (by rw[HQ1.out,HQ2.out];exact hnm));go_enter Tryz.func88,Tryz.ntmps88;exact Zbo
 ·subst hnm;go_enter Tryz.func88,Tryz.ntmps88;go_wp2_with fail
  go_loopw [15] (fun i wr=>∃ k:Nat,k≤n∧i=.int .i64 (k:Int)∧Hid (Below w.heap.size w wr)∧Hid (UI insE VX q1 q2 k)) (fun i _=>n - (intOf i).toNat)
  case atStart=>exact⟨0,nZ _,rfl,hD (bR _ _),hD (UI.zero _ _ _ _)⟩
  case round =>
   obtain⟨w0,rfl⟩:∃ w0,w0=wr:=⟨_,rfl⟩;obtain⟨k,hk,rfl,HB,HE⟩:=hrel;by_cases hlt:k<n
   rotate_left
   ·exact ZP
   ·have hkn:(0:Int)≤(k:Int)∧(k:Int)<(n:Int):=by omega
    have hd:decide ((k:Int)<(n:Int))=true:=by simp;omega
    obtain⟨g1,o1,c3,he,_,_⟩:=Wb.some_ (H1.out w0 HB.out) (by rw[HQ1.out];omega);simp only[vI]at he;obtain⟨rfl,-,-⟩:=he;obtain⟨g2,o2,c4,he,_,_⟩:=Wb.some_ (H2.out w0 HB.out) (by rw[HQ2.out];omega);simp only[vI]at he;obtain⟨rfl,-,-⟩:=he;have hA1:=H1.out w0 HB.out;have hA2:=H2.out w0 HB.out;obtain⟨u10,k10,f10⟩:=Wb.at_ hA1 k 0 (by rw[HQ1.out];exact hlt) (by decide);obtain⟨u11,k11,f11⟩:=Wb.at_ hA1 k 1 (by rw[HQ1.out];exact hlt) (by decide);obtain⟨u12,k12,f12⟩:=Wb.at_ hA1 k 2 (by rw[HQ1.out];exact hlt) (by decide);obtain⟨u13,k13,f13⟩:=Wb.at_ hA1 k 3 (by rw[HQ1.out];exact hlt) (by decide);obtain⟨u14,k14,f14⟩:=Wb.at_ hA1 k 4 (by rw[HQ1.out];exact hlt) (by decide);obtain⟨u20,k20,f20⟩:=Wb.at_ hA2 k 0 (by rw[HQ2.out];exact hlt) (by decide);obtain⟨u21,k21,f21⟩:=Wb.at_ hA2 k 1 (by rw[HQ2.out];exact hlt) (by decide);obtain⟨u22,k22,f22⟩:=Wb.at_ hA2 k 2 (by rw[HQ2.out];exact hlt) (by decide);obtain⟨u23,k23,f23⟩:=Wb.at_ hA2 k 3 (by rw[HQ2.out];exact hlt) (by decide);obtain⟨u24,k24,f24⟩:=Wb.at_ hA2 k 4 (by rw[HQ2.out];exact hlt) (by decide);have HY:=hD (fun (h:insE (q1.getD k VX) (q2.getD k VX)=true)=>HE.out.succ h);have HN:=hD (fun (h:insE (q1.getD k VX) (q2.getD k VX)=false)=>W6 HQ1.out hlt h);clear hA1 hA2;generalize q1.getD k VX=x at f10 f11 f12 f13 f14 HY HN;obtain⟨x0,x1,x2,x3,x4⟩:=x;obtain rfl:u10=.int .i64 x0:=f10;obtain rfl:u11=.int .i64 x1:=f11;obtain rfl:u12=.int .i64 x2:=f12;obtain rfl:u13=.int .u64 x3:=f13.1;have f14:Wh (fun k=>k<w0.heap.size) w0 u14 x4:=f14.1;obtain⟨P14,e14,rfl,_,_⟩:=Wh.form f14;generalize q2.getD k VX=y at f20 f21 f22 f23 f24 HY HN;obtain⟨y0,y1,y2,y3,y4⟩:=y;obtain rfl:u20=.int .i64 y0:=f20;obtain rfl:u21=.int .i64 y1:=f21;obtain rfl:u22=.int .i64 y2:=f22;obtain rfl:u23=.int .u64 y3:=f23.1;have f24:Wh (fun k=>k<w0.heap.size) w0 u24 y4:=f24.1;obtain⟨P24,e24,rfl,_,_⟩:=Wh.form f24;rw[Nat.add_zero]at k10 k20;rw[show insE ⟨x0,x1,x2,x3,x4⟩ ⟨y0,y1,y2,y3,y4⟩=(x0==y0 && (x1==y1 && (x2==y2 && (x3==y3 && (Vu x4 y4))))) from rfl]at HY HN;have C4:=hD (fun wz (hb:Below w0.heap.size w0 wz)=>(show Calls Tryz.prog 87 #[.slice P14 x4.length e14,.slice P24 y4.length e24] wz (Wj (Vu x4 y4) wz) from equal_is (fun k=>k<wz.heap.size) wz _ _ x4 y4 (f14.keep (We.below hb fun _ hk=>hk) fun _ hk=>WK hk hb.size) (f24.keep (We.below hb fun _ hk=>hk) fun _ hk=>WK hk hb.size)));generalize Vu x4 y4=b4 at C4 HY HN;generalize x4.length=m14 at *;generalize y4.length=m24 at *;clear f14 f24;obtain⟨W,hW⟩:∃ W,W=w0.alloc (.cells #[.int .i64 x0,.int .i64 x1,.int .i64 x2,.int .u64 x3,.slice P14 m14 e14] 26):=⟨_,rfl⟩;have hbw:Below w0.heap.size w0 W:=by rw[hW];exact(bR _ _).alloc (nR _) _
    have hv:∀ i,W.cell? ⟨w0.heap.size,i,none⟩=(#[.int .i64 x0,.int .i64 x1,.int .i64 x2,.int .u64 x3,.slice P14 m14 e14]:Array Value)[i]?:=fun i=>by rw[hW];exact wN w0 _ _ i
    have hv0:=hv 0;have hv1:=hv 1;have hv2:=hv 2;have hv3:=hv 3;have hv4:=hv 4;simp only[List.getElem?_toArray,List.getElem?_cons_zero,List.getElem?_cons_succ]at hv0 hv1 hv2 hv3 hv4;obtain⟨W2,hW2⟩:∃ W2,W2=W.alloc (.cells #[.int .i64 y0,.int .i64 y1,.int .i64 y2,.int .u64 y3,.slice P24 m24 e24] 26):=⟨_,rfl⟩;have hbw2:Below W.heap.size W W2:=by rw[hW2];exact(bR _ _).alloc (nR _) _
    have hy:∀ i,W2.cell? ⟨W.heap.size,i,none⟩=(#[.int .i64 y0,.int .i64 y1,.int .i64 y2,.int .u64 y3,.slice P24 m24 e24]:Array Value)[i]?:=fun i=>by rw[hW2];exact wN W _ _ i
    have hy0:=hy 0;have hy1:=hy 1;have hy2:=hy 2;have hy3:=hy 3;have hy4:=hy 4;simp only[List.getElem?_toArray,List.getElem?_cons_zero,List.getElem?_cons_succ]at hy0 hy1 hy2 hy3 hy4;have HF:=hD (fun wz (hb:Below W2.heap.size W2 wz)=>(show wz.cell? ⟨w0.heap.size,0,none⟩=some (.int .i64 x0)∧wz.cell? ⟨w0.heap.size,1,none⟩=some (.int .i64 x1)∧wz.cell? ⟨w0.heap.size,2,none⟩=some (.int .i64 x2)∧wz.cell? ⟨w0.heap.size,3,none⟩=some (.int .u64 x3)∧wz.cell? ⟨w0.heap.size,4,none⟩=some (.slice P14 m14 e14)∧wz.cell? ⟨W.heap.size,0,none⟩=some (.int .i64 y0)∧wz.cell? ⟨W.heap.size,1,none⟩=some (.int .i64 y1)∧wz.cell? ⟨W.heap.size,2,none⟩=some (.int .i64 y2)∧wz.cell? ⟨W.heap.size,3,none⟩=some (.int .u64 y3)∧wz.cell? ⟨W.heap.size,4,none⟩=some (.slice P24 m24 e24) from ⟨((Wa hbw2 hb).cell (p:=⟨w0.heap.size,0,none⟩) (wL _ _ hv0)).trans hv0,((Wa hbw2 hb).cell (p:=⟨w0.heap.size,1,none⟩) (wL _ _ hv1)).trans hv1,((Wa hbw2 hb).cell (p:=⟨w0.heap.size,2,none⟩) (wL _ _ hv2)).trans hv2,((Wa hbw2 hb).cell (p:=⟨w0.heap.size,3,none⟩) (wL _ _ hv3)).trans hv3,((Wa hbw2 hb).cell (p:=⟨w0.heap.size,4,none⟩) (wL _ _ hv4)).trans hv4,(hb.cell (p:=⟨W.heap.size,0,none⟩) (wL _ _ hy0)).trans hy0,(hb.cell (p:=⟨W.heap.size,1,none⟩) (wL _ _ hy1)).trans hy1,(hb.cell (p:=⟨W.heap.size,2,none⟩) (wL _ _ hy2)).trans hy2,(hb.cell (p:=⟨W.heap.size,3,none⟩) (wL _ _ hy3)).trans hy3,(hb.cell (p:=⟨W.heap.size,4,none⟩) (wL _ _ hy4)).trans hy4⟩));have z20:=(hbw.cell (p:=⟨g2,o2+k * 5,none⟩) (wL _ _ k20)).trans k20;have z21:=(hbw.cell (p:=⟨g2,o2+k * 5+1,none⟩) (wL _ _ k21)).trans k21;have z22:=(hbw.cell (p:=⟨g2,o2+k * 5+2,none⟩) (wL _ _ k22)).trans k22;have z23:=(hbw.cell (p:=⟨g2,o2+k * 5+3,none⟩) (wL _ _ k23)).trans k23;have z24:=(hbw.cell (p:=⟨g2,o2+k * 5+4,none⟩) (wL _ _ k24)).trans k24;have HBW:=hD (Wa HB.out (Wa hbw hbw2));have HB0W:=hD (Wa hbw hbw2);clear hv hv0 hv1 hv2 hv3 hv4 hbw hy hy0 hy1 hy2 hy3 hy4 hbw2
    go_upto_region 6 with (fail)
    rw[← hW];clear hW k10 k20 k11 k21 k12 k22 k13 k23 k14 k24
    go_upto_region 7 with (fail)
    rw[← hW2];clear hW2 z20 z21 z22 z23 z24;by_cases hc0:x0=y0
    rotate_left
    ·have hn0:(x0==y0)=false:=by simpa using hc0
     have hm0:(x0 != y0)=true:=by simpa using hc0
     rw[hn0]at HN;exact Z0
    ·subst hc0;have hm0:(x0 != x0)=false:=by simp
     rw[show(x0==x0)=true by simp,Bool.true_and]at HY HN;by_cases hc1:x1=y1
     rotate_left
     ·have hn1:(x1==y1)=false:=by simpa using hc1
      have hm1:(x1 != y1)=true:=by simpa using hc1
      rw[hn1]at HN;exact Z0
     ·subst hc1;have hm1:(x1 != x1)=false:=by simp
      rw[show(x1==x1)=true by simp,Bool.true_and]at HY HN;by_cases hc2:x2=y2
      rotate_left
      ·have hn2:(x2==y2)=false:=by simpa using hc2
       have hm2:(x2 != y2)=true:=by simpa using hc2
       rw[hn2]at HN;exact Z0
      ·subst hc2;have hm2:(x2 != x2)=false:=by simp
       rw[show(x2==x2)=true by simp,Bool.true_and]at HY HN;by_cases hc3:x3=y3
       rotate_left
       ·have hn3:(x3==y3)=false:=by simpa using hc3
        have hm3:(x3 != y3)=true:=by simpa using hc3
        rw[hn3]at HN;exact Z0
       ·subst hc3;have hm3:(x3 != x3)=false:=by simp
        rw[show(x3==x3)=true by simp,Bool.true_and]at HY HN;cases b4 with
        | false =>
         have HN2:=hD (HN.out (by simp));clear HY HN;obtain⟨s0,s1,s2,s3,s4,s5,s6,s7,s8,s9⟩:=HF.out W2 (bR _ _);go_wp2_with (first|(go_at_call 87;(with_reducible refine(C4.out _ HB0W.out).mono ?_);rintro e wq ⟨rfl,hwq⟩))
         go_ret;exact⟨WA (by rw[HN2.out]),(Wa HBW.out hwq)⟩
        | true =>
         have HY2:=hD (HY.out (by simp));clear HY HN;obtain⟨s0,s1,s2,s3,s4,s5,s6,s7,s8,s9⟩:=HF.out W2 (bR _ _);go_wp2_with (first|(go_at_call 87;(with_reducible refine(C4.out _ HB0W.out).mono ?_);rintro e wq ⟨rfl,hwq⟩))
         exact Zcx
theorem sameFuncs_any (w:World) (v1 v2:Value) (q1 q2:List (Fnc)) (h1:FunsK (fun k=>k<w.heap.size) w v1 q1) (h2:FunsK (fun k=>k<w.heap.size) w v2 q2):Calls Tryz.prog 40 #[v1,v2] w (Wj (Ww fncE WW q1 q2) w):=by
 obtain⟨A1,c1,hv1,hl1,hm1⟩:=Wb.form h1;obtain⟨A2,c2,hv2,hl2,hm2⟩:=Wb.form h2;unfold maxLen at hm1 hm2;rw[hv1]at h1 ⊢;rw[hv2]at h2 ⊢;have H1:=hD (fun wz (hb:Below w.heap.size w wz)=>(FunsK.keep (K':=fun k=>k<wz.heap.size) h1 (We.below hb fun _ hk=>hk) (fun _ hk=>WK hk hb.size)));have H2:=hD (fun wz (hb:Below w.heap.size w wz)=>(FunsK.keep (K':=fun k=>k<wz.heap.size) h2 (We.below hb fun _ hk=>hk) (fun _ hk=>WK hk hb.size)));clear h1 h2 hv1 hv2;generalize hQ1:q1.length=n at *;generalize hQ2:q2.length=m at *;have HQ1:=hD hQ1;have HQ2:=hD hQ2;clear hQ1 hQ2;by_cases hnm:n=m
 rotate_left
 ·have hd:((n:Int) != (m:Int))=true:=by simp;omega
  have HN:=hD (WQ (e:=fncE) (d:=WW) (a:=q1) (b:=q2) (by rw[HQ1.out,HQ2.out];exact hnm));go_enter Tryz.func40,Tryz.ntmps40;exact Zbo
 ·subst hnm;go_enter Tryz.func40,Tryz.ntmps40;go_wp2_with fail
  go_loopw [14] (fun i wr=>∃ k:Nat,k≤n∧i=.int .i64 (k:Int)∧Hid (Below w.heap.size w wr)∧Hid (UI fncE WW q1 q2 k)) (fun i _=>n - (intOf i).toNat)
  case atStart=>exact⟨0,nZ _,rfl,hD (bR _ _),hD (UI.zero _ _ _ _)⟩
  case round =>
   obtain⟨w0,rfl⟩:∃ w0,w0=wr:=⟨_,rfl⟩;obtain⟨k,hk,rfl,HB,HE⟩:=hrel;by_cases hlt:k<n
   rotate_left
   ·exact ZP
   ·have hkn:(0:Int)≤(k:Int)∧(k:Int)<(n:Int):=by omega
    have hd:decide ((k:Int)<(n:Int))=true:=by simp;omega
    obtain⟨g1,o1,c3,he,_,_⟩:=Wb.some_ (H1.out w0 HB.out) (by rw[HQ1.out];omega);simp only[vI]at he;obtain⟨rfl,-,-⟩:=he;obtain⟨g2,o2,c4,he,_,_⟩:=Wb.some_ (H2.out w0 HB.out) (by rw[HQ2.out];omega);simp only[vI]at he;obtain⟨rfl,-,-⟩:=he;have hA1:=H1.out w0 HB.out;have hA2:=H2.out w0 HB.out;obtain⟨u10,k10,f10⟩:=Wb.at_ hA1 k 0 (by rw[HQ1.out];exact hlt) (by decide);obtain⟨u11,k11,f11⟩:=Wb.at_ hA1 k 1 (by rw[HQ1.out];exact hlt) (by decide);obtain⟨u12,k12,f12⟩:=Wb.at_ hA1 k 2 (by rw[HQ1.out];exact hlt) (by decide);obtain⟨u20,k20,f20⟩:=Wb.at_ hA2 k 0 (by rw[HQ2.out];exact hlt) (by decide);obtain⟨u21,k21,f21⟩:=Wb.at_ hA2 k 1 (by rw[HQ2.out];exact hlt) (by decide);obtain⟨u22,k22,f22⟩:=Wb.at_ hA2 k 2 (by rw[HQ2.out];exact hlt) (by decide);have HY:=hD (fun (h:fncE (q1.getD k WW) (q2.getD k WW)=true)=>HE.out.succ h);have HN:=hD (fun (h:fncE (q1.getD k WW) (q2.getD k WW)=false)=>W6 HQ1.out hlt h);clear hA1 hA2;generalize q1.getD k WW=x at f10 f11 f12 HY HN;obtain⟨x0,x1,x2⟩:=x;obtain rfl:u10=.int .i64 x0:=f10;have f11:Wh (fun k=>k<w0.heap.size) w0 u11 x1:=f11;obtain⟨P11,e11,rfl,_,_⟩:=Wh.form f11;have f12:WO (fun k=>k<w0.heap.size) w0 u12 x2:=f12;obtain⟨P12,e12,rfl,_,_⟩:=Wb.form f12;generalize q2.getD k WW=y at f20 f21 f22 HY HN;obtain⟨y0,y1,y2⟩:=y;obtain rfl:u20=.int .i64 y0:=f20;have f21:Wh (fun k=>k<w0.heap.size) w0 u21 y1:=f21;obtain⟨P21,e21,rfl,_,_⟩:=Wh.form f21;have f22:WO (fun k=>k<w0.heap.size) w0 u22 y2:=f22;obtain⟨P22,e22,rfl,_,_⟩:=Wb.form f22;rw[Nat.add_zero]at k10 k20;rw[show fncE ⟨x0,x1,x2⟩ ⟨y0,y1,y2⟩=(x0==y0 && (Vu x1 y1 && (codeE x2 y2))) from rfl]at HY HN;have C1:=hD (fun wz (hb:Below w0.heap.size w0 wz)=>(show Calls Tryz.prog 87 #[.slice P11 x1.length e11,.slice P21 y1.length e21] wz (Wj (Vu x1 y1) wz) from equal_is (fun k=>k<wz.heap.size) wz _ _ x1 y1 (f11.keep (We.below hb fun _ hk=>hk) fun _ hk=>WK hk hb.size) (f21.keep (We.below hb fun _ hk=>hk) fun _ hk=>WK hk hb.size)));generalize Vu x1 y1=b1 at C1 HY HN;have C2:=hD (fun wz (hb:Below w0.heap.size w0 wz)=>(show Calls Tryz.prog 88 #[.slice P12 x2.length e12,.slice P22 y2.length e22] wz (Wj (codeE x2 y2) wz) from sameCode_any wz _ _ x2 y2 (WO.keep f12 (We.below hb fun _ hk=>hk) fun _ hk=>WK hk hb.size) (WO.keep f22 (We.below hb fun _ hk=>hk) fun _ hk=>WK hk hb.size)));generalize codeE x2 y2=b2 at C2 HY HN;generalize x1.length=m11 at *;generalize y1.length=m21 at *;generalize x2.length=m12 at *;generalize y2.length=m22 at *;clear f11 f21 f12 f22;obtain⟨W,hW⟩:∃ W,W=w0.alloc (.cells #[.int .i64 x0,.slice P11 m11 e11,.slice P12 m12 e12] 64):=⟨_,rfl⟩;have hbw:Below w0.heap.size w0 W:=by rw[hW];exact(bR _ _).alloc (nR _) _
    have hv:∀ i,W.cell? ⟨w0.heap.size,i,none⟩=(#[.int .i64 x0,.slice P11 m11 e11,.slice P12 m12 e12]:Array Value)[i]?:=fun i=>by rw[hW];exact wN w0 _ _ i
    have hv0:=hv 0;have hv1:=hv 1;have hv2:=hv 2;simp only[List.getElem?_toArray,List.getElem?_cons_zero,List.getElem?_cons_succ]at hv0 hv1 hv2;have HF:=hD (fun wz (hb:Below W.heap.size W wz)=>(show wz.cell? ⟨w0.heap.size,0,none⟩=some (.int .i64 x0)∧wz.cell? ⟨w0.heap.size,1,none⟩=some (.slice P11 m11 e11)∧wz.cell? ⟨w0.heap.size,2,none⟩=some (.slice P12 m12 e12)∧wz.cell? ⟨g2,o2+k * 3,none⟩=some (.int .i64 y0)∧wz.cell? ⟨g2,o2+k * 3+1,none⟩=some (.slice P21 m21 e21)∧wz.cell? ⟨g2,o2+k * 3+2,none⟩=some (.slice P22 m22 e22) from ⟨(hb.cell (p:=⟨w0.heap.size,0,none⟩) (wL _ _ hv0)).trans hv0,(hb.cell (p:=⟨w0.heap.size,1,none⟩) (wL _ _ hv1)).trans hv1,(hb.cell (p:=⟨w0.heap.size,2,none⟩) (wL _ _ hv2)).trans hv2,((Wa hbw hb).cell (p:=⟨g2,o2+k * 3,none⟩) (wL _ _ k20)).trans k20,((Wa hbw hb).cell (p:=⟨g2,o2+k * 3+1,none⟩) (wL _ _ k21)).trans k21,((Wa hbw hb).cell (p:=⟨g2,o2+k * 3+2,none⟩) (wL _ _ k22)).trans k22⟩));have HBW:=hD (Wa HB.out hbw);have HB0W:=hD hbw;clear hv hv0 hv1 hv2 hbw
    go_upto_region 6 with (fail)
    rw[← hW];clear hW k10 k20 k11 k21 k12 k22;by_cases hc0:x0=y0
    rotate_left
    ·have hn0:(x0==y0)=false:=by simpa using hc0
     have hm0:(x0 != y0)=true:=by simpa using hc0
     rw[hn0]at HN;exact Zg
    ·subst hc0;have hm0:(x0 != x0)=false:=by simp
     rw[show(x0==x0)=true by simp,Bool.true_and]at HY HN;cases b1 with
     | false =>
      exact Zg
     | true =>
      rw[Bool.true_and]at HY HN;cases b2 with
      | false =>
       exact Zg
      | true =>
       have HY2:=hD (HY.out (by simp));clear HY HN;refine wp_region_held_drew (S:=fun wz=>Below W.heap.size W wz) (by kernel_rfl) ((bR _ _).drew) (fun hS=>?_);show wpAnyH _ _ _ _ _ 30 #[false,false,false,false,false,false,false,false,false,false,false,false,false,false,false,false,false,false,false,false,false,false,false,false,false,false,false,false,false,false] _ _;first|refine mT 0 19 rfl hS ?_|refine mN 0 19 rfl hS ?_
       first|refine mT 1 20 rfl hS ?_ (hy:=by intro wS hSw;obtain⟨s0,s1,s2,s3,s4,s5⟩:=HF.out wS hSw;go_simp;try with_reducible rfl)|refine mN 1 20 rfl hS ?_
       first|refine mT 2 21 rfl hS ?_|refine mN 2 21 rfl hS ?_
       first|refine mT 3 22 rfl hS ?_|refine mN 3 22 rfl hS ?_
       first|refine mT 4 23 rfl hS ?_|refine mN 4 23 rfl hS ?_
       first|refine mT 5 24 rfl hS ?_|refine mN 5 24 rfl hS ?_
       first|refine mT 6 25 rfl hS ?_ (hy:=by intro wS hSw;obtain⟨s0,s1,s2,s3,s4,s5⟩:=HF.out wS hSw;go_simp;try with_reducible rfl)|refine mN 6 25 rfl hS ?_
       first|refine mT 7 26 rfl hS ?_|refine mN 7 26 rfl hS ?_
       first|refine mT 8 27 rfl hS ?_|refine mN 8 27 rfl hS ?_
       first|refine mT 9 28 rfl hS ?_|refine mN 9 28 rfl hS ?_
       first|refine mT 10 29 rfl hS ?_ (hy:=by intro wS hSw;obtain⟨s0,s1,s2,s3,s4,s5⟩:=HF.out wS hSw;go_simp;try with_reducible rfl)|refine mN 10 29 rfl hS ?_
       first|refine mT 11 30 rfl hS ?_|refine mN 11 30 rfl hS ?_
       first|refine mT 12 31 rfl hS ?_|refine mN 12 31 rfl hS ?_
       first|refine mT 13 32 rfl hS ?_|refine mN 13 32 rfl hS ?_
       first|refine mT 14 33 rfl hS ?_|refine mN 14 33 rfl hS ?_
       first|refine mT 15 34 rfl hS ?_ (hy:=by intro wS hSw;obtain⟨s0,s1,s2,s3,s4,s5⟩:=HF.out wS hSw;go_simp;try with_reducible rfl)|refine mN 15 34 rfl hS ?_
       refine mR 16 35 rfl fun K hK=>?_;first|(go_simp;go_at_call 87;refine(C1.out _ (Wa HB0W.out hS)).mono ?_;rintro e wq ⟨rfl,hwq⟩;go_wp2_with fail;refine hK.out _ _ (Wa hS hwq) (fun hS'=>?_);clear hK K hS hwq;have hS:=hS';clear hS';try simp only[sA,List.set])|(go_simp;refine hK.out _ _ hS (fun _=>?_);clear hK K)
       first|refine mT 17 36 rfl hS ?_|refine mN 17 36 rfl hS ?_
       first|refine mT 18 37 rfl hS ?_|refine mN 18 37 rfl hS ?_
       first|refine mT 19 38 rfl hS ?_|refine mN 19 38 rfl hS ?_
       first|refine mT 20 39 rfl hS ?_|refine mN 20 39 rfl hS ?_
       first|refine mT 21 40 rfl hS ?_ (hy:=by intro wS hSw;obtain⟨s0,s1,s2,s3,s4,s5⟩:=HF.out wS hSw;go_simp;try with_reducible rfl)|refine mN 21 40 rfl hS ?_
       first|refine mT 22 41 rfl hS ?_|refine mN 22 41 rfl hS ?_
       first|refine mT 23 42 rfl hS ?_|refine mN 23 42 rfl hS ?_
       first|refine mT 24 43 rfl hS ?_|refine mN 24 43 rfl hS ?_
       first|refine mT 25 44 rfl hS ?_|refine mN 25 44 rfl hS ?_
       first|refine mT 26 45 rfl hS ?_ (hy:=by intro wS hSw;obtain⟨s0,s1,s2,s3,s4,s5⟩:=HF.out wS hSw;go_simp;try with_reducible rfl)|refine mN 26 45 rfl hS ?_
       refine mR 27 46 rfl fun K hK=>?_;first|(go_simp;go_at_call 88;refine(C2.out _ (Wa HB0W.out hS)).mono ?_;rintro e wq ⟨rfl,hwq⟩;go_wp2_with fail;refine hK.out _ _ (Wa hS hwq) (fun hS'=>?_);clear hK K hS hwq;have hS:=hS';clear hS';try simp only[sA,List.set])|(go_simp;refine hK.out _ _ hS (fun _=>?_);clear hK K)
       first|refine mT 28 47 rfl hS ?_|refine mN 28 47 rfl hS ?_
       first|refine mT 29 48 rfl hS ?_|refine mN 29 48 rfl hS ?_
       exact Zbg
theorem sameDatas_any (w:World) (v1 v2:Value) (q1 q2:List (Dat)) (h1:VD (fun k=>k<w.heap.size) w v1 q1) (h2:VD (fun k=>k<w.heap.size) w v2 q2):Calls Tryz.prog 44 #[v1,v2] w (Wj (Ww UB VC q1 q2) w):=by
 obtain⟨A1,c1,hv1,hl1,hm1⟩:=Wb.form h1;obtain⟨A2,c2,hv2,hl2,hm2⟩:=Wb.form h2;unfold maxLen at hm1 hm2;rw[hv1]at h1 ⊢;rw[hv2]at h2 ⊢;have H1:=hD (fun wz (hb:Below w.heap.size w wz)=>(VD.keep (K':=fun k=>k<wz.heap.size) h1 (We.below hb fun _ hk=>hk) (fun _ hk=>WK hk hb.size)));have H2:=hD (fun wz (hb:Below w.heap.size w wz)=>(VD.keep (K':=fun k=>k<wz.heap.size) h2 (We.below hb fun _ hk=>hk) (fun _ hk=>WK hk hb.size)));clear h1 h2 hv1 hv2;generalize hQ1:q1.length=n at *;generalize hQ2:q2.length=m at *;have HQ1:=hD hQ1;have HQ2:=hD hQ2;clear hQ1 hQ2;by_cases hnm:n=m
 rotate_left
 ·have hd:((n:Int) != (m:Int))=true:=by simp;omega
  have HN:=hD (WQ (e:=UB) (d:=VC) (a:=q1) (b:=q2) (by rw[HQ1.out,HQ2.out];exact hnm));go_enter Tryz.func44,Tryz.ntmps44;exact Zbo
 ·subst hnm;go_enter Tryz.func44,Tryz.ntmps44;go_wp2_with fail
  go_loopw [15] (fun i wr=>∃ k:Nat,k≤n∧i=.int .i64 (k:Int)∧Hid (Below w.heap.size w wr)∧Hid (UI UB VC q1 q2 k)) (fun i _=>n - (intOf i).toNat)
  case atStart=>exact⟨0,nZ _,rfl,hD (bR _ _),hD (UI.zero _ _ _ _)⟩
  case round =>
   obtain⟨w0,rfl⟩:∃ w0,w0=wr:=⟨_,rfl⟩;obtain⟨k,hk,rfl,HB,HE⟩:=hrel;by_cases hlt:k<n
   rotate_left
   ·exact ZP
   ·have hkn:(0:Int)≤(k:Int)∧(k:Int)<(n:Int):=by omega
    have hd:decide ((k:Int)<(n:Int))=true:=by simp;omega
    obtain⟨g1,o1,c3,he,_,_⟩:=Wb.some_ (H1.out w0 HB.out) (by rw[HQ1.out];omega);simp only[vI]at he;obtain⟨rfl,-,-⟩:=he;obtain⟨g2,o2,c4,he,_,_⟩:=Wb.some_ (H2.out w0 HB.out) (by rw[HQ2.out];omega);simp only[vI]at he;obtain⟨rfl,-,-⟩:=he;have hA1:=H1.out w0 HB.out;have hA2:=H2.out w0 HB.out;obtain⟨u10,k10,f10⟩:=Wb.at_ hA1 k 0 (by rw[HQ1.out];exact hlt) (by decide);obtain⟨u11,k11,f11⟩:=Wb.at_ hA1 k 1 (by rw[HQ1.out];exact hlt) (by decide);obtain⟨u12,k12,f12⟩:=Wb.at_ hA1 k 2 (by rw[HQ1.out];exact hlt) (by decide);obtain⟨u13,k13,f13⟩:=Wb.at_ hA1 k 3 (by rw[HQ1.out];exact hlt) (by decide);obtain⟨u20,k20,f20⟩:=Wb.at_ hA2 k 0 (by rw[HQ2.out];exact hlt) (by decide);obtain⟨u21,k21,f21⟩:=Wb.at_ hA2 k 1 (by rw[HQ2.out];exact hlt) (by decide);obtain⟨u22,k22,f22⟩:=Wb.at_ hA2 k 2 (by rw[HQ2.out];exact hlt) (by decide);obtain⟨u23,k23,f23⟩:=Wb.at_ hA2 k 3 (by rw[HQ2.out];exact hlt) (by decide);have HY:=hD (fun (h:UB (q1.getD k VC) (q2.getD k VC)=true)=>HE.out.succ h);have HN:=hD (fun (h:UB (q1.getD k VC) (q2.getD k VC)=false)=>W6 HQ1.out hlt h);clear hA1 hA2;generalize q1.getD k VC=x at f10 f11 f12 f13 HY HN;obtain⟨x0,x1,x2,x3⟩:=x;obtain rfl:u10=.bool x0:=f10;obtain rfl:u11=.int .i64 x1:=f11;obtain rfl:u12=.int .i64 x2:=f12;have f13:WD (fun k=>k<w0.heap.size) w0 u13 x3:=f13;obtain⟨P13,e13,rfl,_,_⟩:=WD.form f13;generalize q2.getD k VC=y at f20 f21 f22 f23 HY HN;obtain⟨y0,y1,y2,y3⟩:=y;obtain rfl:u20=.bool y0:=f20;obtain rfl:u21=.int .i64 y1:=f21;obtain rfl:u22=.int .i64 y2:=f22;have f23:WD (fun k=>k<w0.heap.size) w0 u23 y3:=f23;obtain⟨P23,e23,rfl,_,_⟩:=WD.form f23;rw[Nat.add_zero]at k10 k20;rw[show UB ⟨x0,x1,x2,x3⟩ ⟨y0,y1,y2,y3⟩=(x0==y0 && (x1==y1 && (x2==y2 && (Un x3 y3)))) from rfl]at HY HN;have C3:=hD (fun wz (hb:Below w0.heap.size w0 wz)=>(show Calls Tryz.prog 89 #[.slice P13 x3.length e13,.slice P23 y3.length e23] wz (Wj (Un x3 y3) wz) from equal_bytes (fun k=>k<wz.heap.size) wz _ _ x3 y3 (f13.keep (We.below hb fun _ hk=>hk) fun _ hk=>WK hk hb.size) (f23.keep (We.below hb fun _ hk=>hk) fun _ hk=>WK hk hb.size)));generalize Un x3 y3=b3 at C3 HY HN;generalize x3.length=m13 at *;generalize y3.length=m23 at *;clear f13 f23;obtain⟨W,hW⟩:∃ W,W=w0.alloc (.cells #[.bool x0,.int .i64 x1,.int .i64 x2,.slice P13 m13 e13] 59):=⟨_,rfl⟩;have hbw:Below w0.heap.size w0 W:=by rw[hW];exact(bR _ _).alloc (nR _) _
    have hv:∀ i,W.cell? ⟨w0.heap.size,i,none⟩=(#[.bool x0,.int .i64 x1,.int .i64 x2,.slice P13 m13 e13]:Array Value)[i]?:=fun i=>by rw[hW];exact wN w0 _ _ i
    have hv0:=hv 0;have hv1:=hv 1;have hv2:=hv 2;have hv3:=hv 3;simp only[List.getElem?_toArray,List.getElem?_cons_zero,List.getElem?_cons_succ]at hv0 hv1 hv2 hv3;obtain⟨W2,hW2⟩:∃ W2,W2=W.alloc (.cells #[.bool y0,.int .i64 y1,.int .i64 y2,.slice P23 m23 e23] 59):=⟨_,rfl⟩;have hbw2:Below W.heap.size W W2:=by rw[hW2];exact(bR _ _).alloc (nR _) _
    have hy:∀ i,W2.cell? ⟨W.heap.size,i,none⟩=(#[.bool y0,.int .i64 y1,.int .i64 y2,.slice P23 m23 e23]:Array Value)[i]?:=fun i=>by rw[hW2];exact wN W _ _ i
    have hy0:=hy 0;have hy1:=hy 1;have hy2:=hy 2;have hy3:=hy 3;simp only[List.getElem?_toArray,List.getElem?_cons_zero,List.getElem?_cons_succ]at hy0 hy1 hy2 hy3;have HF:=hD (fun wz (hb:Below W2.heap.size W2 wz)=>(show wz.cell? ⟨w0.heap.size,0,none⟩=some (.bool x0)∧wz.cell? ⟨w0.heap.size,1,none⟩=some (.int .i64 x1)∧wz.cell? ⟨w0.heap.size,2,none⟩=some (.int .i64 x2)∧wz.cell? ⟨w0.heap.size,3,none⟩=some (.slice P13 m13 e13)∧wz.cell? ⟨W.heap.size,0,none⟩=some (.bool y0)∧wz.cell? ⟨W.heap.size,1,none⟩=some (.int .i64 y1)∧wz.cell? ⟨W.heap.size,2,none⟩=some (.int .i64 y2)∧wz.cell? ⟨W.heap.size,3,none⟩=some (.slice P23 m23 e23) from ⟨((Wa hbw2 hb).cell (p:=⟨w0.heap.size,0,none⟩) (wL _ _ hv0)).trans hv0,((Wa hbw2 hb).cell (p:=⟨w0.heap.size,1,none⟩) (wL _ _ hv1)).trans hv1,((Wa hbw2 hb).cell (p:=⟨w0.heap.size,2,none⟩) (wL _ _ hv2)).trans hv2,((Wa hbw2 hb).cell (p:=⟨w0.heap.size,3,none⟩) (wL _ _ hv3)).trans hv3,(hb.cell (p:=⟨W.heap.size,0,none⟩) (wL _ _ hy0)).trans hy0,(hb.cell (p:=⟨W.heap.size,1,none⟩) (wL _ _ hy1)).trans hy1,(hb.cell (p:=⟨W.heap.size,2,none⟩) (wL _ _ hy2)).trans hy2,(hb.cell (p:=⟨W.heap.size,3,none⟩) (wL _ _ hy3)).trans hy3⟩));have z20:=(hbw.cell (p:=⟨g2,o2+k * 4,none⟩) (wL _ _ k20)).trans k20;have z21:=(hbw.cell (p:=⟨g2,o2+k * 4+1,none⟩) (wL _ _ k21)).trans k21;have z22:=(hbw.cell (p:=⟨g2,o2+k * 4+2,none⟩) (wL _ _ k22)).trans k22;have z23:=(hbw.cell (p:=⟨g2,o2+k * 4+3,none⟩) (wL _ _ k23)).trans k23;have HBW:=hD (Wa HB.out (Wa hbw hbw2));have HB0W:=hD (Wa hbw hbw2);clear hv hv0 hv1 hv2 hv3 hbw hy hy0 hy1 hy2 hy3 hbw2
    go_upto_region 6 with (fail)
    rw[← hW];clear hW k10 k20 k11 k21 k12 k22 k13 k23
    go_upto_region 7 with (fail)
    rw[← hW2];clear hW2 z20 z21 z22 z23;by_cases hc0:x0=y0
    rotate_left
    ·have hn0:(x0==y0)=false:=by simpa using hc0
     have hm0:(x0 != y0)=true:=by simpa using hc0
     rw[hn0]at HN;exact Zbd
    ·subst hc0;have hm0:(x0 != x0)=false:=by simp
     rw[show(x0==x0)=true by simp,Bool.true_and]at HY HN;by_cases hc1:x1=y1
     rotate_left
     ·have hn1:(x1==y1)=false:=by simpa using hc1
      have hm1:(x1 != y1)=true:=by simpa using hc1
      rw[hn1]at HN;exact Zbd
     ·subst hc1;have hm1:(x1 != x1)=false:=by simp
      rw[show(x1==x1)=true by simp,Bool.true_and]at HY HN;by_cases hc2:x2=y2
      rotate_left
      ·have hn2:(x2==y2)=false:=by simpa using hc2
       have hm2:(x2 != y2)=true:=by simpa using hc2
       rw[hn2]at HN;exact Zbd
      ·subst hc2;have hm2:(x2 != x2)=false:=by simp
       rw[show(x2==x2)=true by simp,Bool.true_and]at HY HN;cases b3 with
       | false =>
        have HN2:=hD (HN.out (by simp));clear HY HN;obtain⟨s0,s1,s2,s3,s4,s5,s6,s7⟩:=HF.out W2 (bR _ _);go_wp2_with (first|(go_at_call 89;(with_reducible refine(C3.out _ HB0W.out).mono ?_);rintro e wq ⟨rfl,hwq⟩))
        go_ret;exact⟨WA (by rw[HN2.out]),(Wa HBW.out hwq)⟩
       | true =>
        have HY2:=hD (HY.out (by simp));clear HY HN;obtain⟨s0,s1,s2,s3,s4,s5,s6,s7⟩:=HF.out W2 (bR _ _);go_wp2_with (first|(go_at_call 89;(with_reducible refine(C3.out _ HB0W.out).mono ?_);rintro e wq ⟨rfl,hwq⟩))
        exact Zcx
theorem sameCustoms_any (w:World) (v1 v2:Value) (q1 q2:List (ByteArray×List Nat)) (h1:CusK (fun k=>k<w.heap.size) w v1 q1) (h2:CusK (fun k=>k<w.heap.size) w v2 q2):Calls Tryz.prog 45 #[v1,v2] w (Wj (Ww UE (ByteArray.empty,[]) q1 q2) w):=by
 obtain⟨A1,c1,hv1,hl1,hm1⟩:=Wb.form h1;obtain⟨A2,c2,hv2,hl2,hm2⟩:=Wb.form h2;unfold maxLen at hm1 hm2;rw[hv1]at h1 ⊢;rw[hv2]at h2 ⊢;have H1:=hD (fun wz (hb:Below w.heap.size w wz)=>(CusK.keep (K':=fun k=>k<wz.heap.size) h1 (We.below hb fun _ hk=>hk) (fun _ hk=>WK hk hb.size)));have H2:=hD (fun wz (hb:Below w.heap.size w wz)=>(CusK.keep (K':=fun k=>k<wz.heap.size) h2 (We.below hb fun _ hk=>hk) (fun _ hk=>WK hk hb.size)));clear h1 h2 hv1 hv2;generalize hQ1:q1.length=n at *;generalize hQ2:q2.length=m at *;have HQ1:=hD hQ1;have HQ2:=hD hQ2;clear hQ1 hQ2;by_cases hnm:n=m
 rotate_left
 ·have hd:((n:Int) != (m:Int))=true:=by simp;omega
  have HN:=hD (WQ (e:=UE) (d:=(ByteArray.empty,[])) (a:=q1) (b:=q2) (by rw[HQ1.out,HQ2.out];exact hnm));go_enter Tryz.func45,Tryz.ntmps45;exact Zbo
 ·subst hnm;go_enter Tryz.func45,Tryz.ntmps45;go_wp2_with fail
  go_loopw [14] (fun i wr=>∃ k:Nat,k≤n∧i=.int .i64 (k:Int)∧Hid (Below w.heap.size w wr)∧Hid (UI UE (ByteArray.empty,[]) q1 q2 k)) (fun i _=>n - (intOf i).toNat)
  case atStart=>exact⟨0,nZ _,rfl,hD (bR _ _),hD (UI.zero _ _ _ _)⟩
  case round =>
   obtain⟨w0,rfl⟩:∃ w0,w0=wr:=⟨_,rfl⟩;obtain⟨k,hk,rfl,HB,HE⟩:=hrel;by_cases hlt:k<n
   rotate_left
   ·exact ZP
   ·have hkn:(0:Int)≤(k:Int)∧(k:Int)<(n:Int):=by omega
    have hd:decide ((k:Int)<(n:Int))=true:=by simp;omega
    obtain⟨g1,o1,c3,he,_,_⟩:=Wb.some_ (H1.out w0 HB.out) (by rw[HQ1.out];omega);simp only[vI]at he;obtain⟨rfl,-,-⟩:=he;obtain⟨g2,o2,c4,he,_,_⟩:=Wb.some_ (H2.out w0 HB.out) (by rw[HQ2.out];omega);simp only[vI]at he;obtain⟨rfl,-,-⟩:=he;have hA1:=H1.out w0 HB.out;have hA2:=H2.out w0 HB.out;obtain⟨u10,k10,f10⟩:=Wb.at_ hA1 k 0 (by rw[HQ1.out];exact hlt) (by decide);obtain⟨u11,k11,f11⟩:=Wb.at_ hA1 k 1 (by rw[HQ1.out];exact hlt) (by decide);obtain⟨u20,k20,f20⟩:=Wb.at_ hA2 k 0 (by rw[HQ2.out];exact hlt) (by decide);obtain⟨u21,k21,f21⟩:=Wb.at_ hA2 k 1 (by rw[HQ2.out];exact hlt) (by decide);have HY:=hD (fun (h:UE (q1.getD k (ByteArray.empty,[])) (q2.getD k (ByteArray.empty,[]))=true)=>HE.out.succ h);have HN:=hD (fun (h:UE (q1.getD k (ByteArray.empty,[])) (q2.getD k (ByteArray.empty,[]))=false)=>W6 HQ1.out hlt h);clear hA1 hA2;generalize q1.getD k (ByteArray.empty,[])=x at f10 f11 HY HN;obtain⟨x0,x1⟩:=x;obtain rfl:u10=.string x0:=f10;have f11:WD (fun k=>k<w0.heap.size) w0 u11 x1:=f11;obtain⟨P11,e11,rfl,_,_⟩:=WD.form f11;generalize q2.getD k (ByteArray.empty,[])=y at f20 f21 HY HN;obtain⟨y0,y1⟩:=y;obtain rfl:u20=.string y0:=f20;have f21:WD (fun k=>k<w0.heap.size) w0 u21 y1:=f21;obtain⟨P21,e21,rfl,_,_⟩:=WD.form f21;rw[Nat.add_zero]at k10 k20;rw[show UE ⟨x0,x1⟩ ⟨y0,y1⟩=(V4 x0 y0 && (Un x1 y1)) from rfl]at HY HN;have C1:=hD (fun wz (hb:Below w0.heap.size w0 wz)=>(show Calls Tryz.prog 89 #[.slice P11 x1.length e11,.slice P21 y1.length e21] wz (Wj (Un x1 y1) wz) from equal_bytes (fun k=>k<wz.heap.size) wz _ _ x1 y1 (f11.keep (We.below hb fun _ hk=>hk) fun _ hk=>WK hk hb.size) (f21.keep (We.below hb fun _ hk=>hk) fun _ hk=>WK hk hb.size)));generalize Un x1 y1=b1 at C1 HY HN;generalize x1.length=m11 at *;generalize y1.length=m21 at *;clear f11 f21;obtain⟨W,hW⟩:∃ W,W=w0.alloc (.cells #[.string x0,.slice P11 m11 e11] 115):=⟨_,rfl⟩;have hbw:Below w0.heap.size w0 W:=by rw[hW];exact(bR _ _).alloc (nR _) _
    have hv:∀ i,W.cell? ⟨w0.heap.size,i,none⟩=(#[.string x0,.slice P11 m11 e11]:Array Value)[i]?:=fun i=>by rw[hW];exact wN w0 _ _ i
    have hv0:=hv 0;have hv1:=hv 1;simp only[List.getElem?_toArray,List.getElem?_cons_zero,List.getElem?_cons_succ]at hv0 hv1;have HF:=hD (fun wz (hb:Below W.heap.size W wz)=>(show wz.cell? ⟨w0.heap.size,0,none⟩=some (.string x0)∧wz.cell? ⟨w0.heap.size,1,none⟩=some (.slice P11 m11 e11)∧wz.cell? ⟨g2,o2+k * 2,none⟩=some (.string y0)∧wz.cell? ⟨g2,o2+k * 2+1,none⟩=some (.slice P21 m21 e21) from ⟨(hb.cell (p:=⟨w0.heap.size,0,none⟩) (wL _ _ hv0)).trans hv0,(hb.cell (p:=⟨w0.heap.size,1,none⟩) (wL _ _ hv1)).trans hv1,((Wa hbw hb).cell (p:=⟨g2,o2+k * 2,none⟩) (wL _ _ k20)).trans k20,((Wa hbw hb).cell (p:=⟨g2,o2+k * 2+1,none⟩) (wL _ _ k21)).trans k21⟩));have HBW:=hD (Wa HB.out hbw);have HB0W:=hD hbw;clear hv hv0 hv1 hbw
    go_upto_region 6 with (fail)
    rw[← hW];clear hW k10 k20 k11 k21;have ds0:=strE_list x0 y0;generalize V4 x0 y0=b0 at ds0 HY HN;cases b0 with
    | false =>
     exact Zu
    | true =>
     rw[Bool.true_and]at HY HN;cases b1 with
     | false =>
      exact Zu
     | true =>
      have HY2:=hD (HY.out (by simp));clear HY HN;refine wp_region_held_drew (S:=fun wz=>Below W.heap.size W wz) (by kernel_rfl) ((bR _ _).drew) (fun hS=>?_);show wpAnyH _ _ _ _ _ 19 #[false,false,false,false,false,false,false,false,false,false,false,false,false,false,false,false,false,false,false] _ _;first|refine mT 0 19 rfl hS ?_|refine mN 0 19 rfl hS ?_
      first|refine mT 1 20 rfl hS ?_ (hy:=by intro wS hSw;obtain⟨s0,s1,s2,s3⟩:=HF.out wS hSw;go_simp;try with_reducible rfl)|refine mN 1 20 rfl hS ?_
      first|refine mT 2 21 rfl hS ?_|refine mN 2 21 rfl hS ?_
      first|refine mT 3 22 rfl hS ?_|refine mN 3 22 rfl hS ?_
      first|refine mT 4 23 rfl hS ?_|refine mN 4 23 rfl hS ?_
      first|refine mT 5 24 rfl hS ?_|refine mN 5 24 rfl hS ?_
      first|refine mT 6 25 rfl hS ?_ (hy:=by intro wS hSw;obtain⟨s0,s1,s2,s3⟩:=HF.out wS hSw;go_simp;try with_reducible rfl)|refine mN 6 25 rfl hS ?_
      first|refine mT 7 26 rfl hS ?_|refine mN 7 26 rfl hS ?_
      first|refine mT 8 27 rfl hS ?_|refine mN 8 27 rfl hS ?_
      first|refine mT 9 28 rfl hS ?_|refine mN 9 28 rfl hS ?_
      first|refine mT 10 29 rfl hS ?_ (hy:=by intro wS hSw;obtain⟨s0,s1,s2,s3⟩:=HF.out wS hSw;go_simp;try with_reducible rfl)|refine mN 10 29 rfl hS ?_
      first|refine mT 11 30 rfl hS ?_|refine mN 11 30 rfl hS ?_
      first|refine mT 12 31 rfl hS ?_|refine mN 12 31 rfl hS ?_
      first|refine mT 13 32 rfl hS ?_|refine mN 13 32 rfl hS ?_
      first|refine mT 14 33 rfl hS ?_|refine mN 14 33 rfl hS ?_
      first|refine mT 15 34 rfl hS ?_ (hy:=by intro wS hSw;obtain⟨s0,s1,s2,s3⟩:=HF.out wS hSw;go_simp;try with_reducible rfl)|refine mN 15 34 rfl hS ?_
      refine mR 16 35 rfl fun K hK=>?_;first|(go_simp;go_at_call 89;refine(C1.out _ (Wa HB0W.out hS)).mono ?_;rintro e wq ⟨rfl,hwq⟩;go_wp2_with fail;refine hK.out _ _ (Wa hS hwq) (fun hS'=>?_);clear hK K hS hwq;have hS:=hS';clear hS';try simp only[sA,List.set])|(go_simp;refine hK.out _ _ hS (fun _=>?_);clear hK K)
      first|refine mT 17 36 rfl hS ?_|refine mN 17 36 rfl hS ?_
      first|refine mT 18 37 rfl hS ?_|refine mN 18 37 rfl hS ?_
      exact Zbg
end Go.Proofs.YtgmgcadlkebokaaGreatDoor
