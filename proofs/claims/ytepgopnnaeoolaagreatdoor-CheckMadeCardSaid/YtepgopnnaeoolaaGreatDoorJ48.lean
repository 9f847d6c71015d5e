/- A part of the proof. -/
import Derived.Test.YtepgopnnaeoolaaGreatDoorJ41
import Derived.Test.YtepgopnnaeoolaaGreatDoorJ35
namespace Go.Proofs.YtepgopnnaeoolaaGreatDoor
section
open Go.RowKit
set_option maxHeartbeats 4000000
set_option maxRecDepth 100000
theorem range_getD (n j d:Nat) (h:j<n):(List.range n).getD j d=j:=by
 rw[List.getD_eq_getElem?_getD,List.getElem?_range h];rfl
theorem fsig_some {m:W8} (h:UG m=true) {f:Nat} (hf:f<m.funs.length):∃ t,WT m ((m.imps.length:Int)+(f:Int))=some t:=by
 unfold UG at h;rw[Bool.and_eq_true]at h;have h1:Wm (m.funs.getD f VF).ty m.types.length=true:=List.all_eq_true.1 h.2 _ (Ve m.funs f VF hf);unfold Wm at h1;rw[Bool.and_eq_true]at h1;have h2:=of_decide_eq_true h1.1;have h3:=of_decide_eq_true h1.2;have h4:=fsigB_fun (m:=m) hf;rw[Int.natCast_add]at h4;rw[h4];unfold typeB;rw[if_pos (by omega)];exact⟨_,rfl⟩
theorem funcs_ok {good:VV→Prop} (HS:StepsOk good) (w:World) (v:Mv) (m:W8) (h:WQ (fun k=>k<w.heap.size) w v m) (hs:VI m) (hty:∀ t ∈ m.types,t.1.length≤8∧t.2.length≤8) (htc:UG m=true) (prof:Int) (hcl:∀ f ∈ m.funs,f.code.length≤65536∧∀ i ∈ f.code,good i) :
 Calls Tryz.prog 22 #[.agg v.cells,.int .i64 prof] w (fun e w'=>e=.returned (.int .i64 (funcsC m prof))∧Below w.heap.size w w'):=by
 have HFN:=hD (fun wz (hb:Below w.heap.size w wz) (f:Nat) (hf:f<m.funs.length)=>(by
  obtain⟨t,ht⟩:=fsig_some htc hf;have hm:=Ve m.funs f VF hf;exact func_ok HS wz v m (h.keep (Wf.below hb fun _ hk=>hk) fun _ hk=>WW hk hb.size) hs hty f hf t ht prof (hcl _ hm).1 (hcl _ hm).2:Calls Tryz.prog 23 #[.agg v.cells,.int .i64 (f:Int),.int .i64 prof] wz (FuncPost (Um m (f:Int) prof) wz)))
 have hs2:=hs.2.2.1;clear hs hty htc hcl;obtain⟨A0,c0,A1,c1,A2,c2,A3,c3,A4,c4,A5,c5,A6,c6,A7,c7,rfl⟩:=WC h;simp only[Mv.cells]at HFN ⊢;clear h;obtain⟨n0,hn0⟩:∃ n,m.types.length=n:=⟨_,rfl⟩;obtain⟨n1,hn1⟩:∃ n,m.imps.length=n:=⟨_,rfl⟩;obtain⟨n2,hn2⟩:∃ n,m.funs.length=n:=⟨_,rfl⟩;obtain⟨n3,hn3⟩:∃ n,m.mems.length=n:=⟨_,rfl⟩;obtain⟨n4,hn4⟩:∃ n,m.globs.length=n:=⟨_,rfl⟩;obtain⟨n5,hn5⟩:∃ n,m.exps.length=n:=⟨_,rfl⟩;obtain⟨n6,hn6⟩:∃ n,m.datas.length=n:=⟨_,rfl⟩;obtain⟨n7,hn7⟩:∃ n,m.cus.length=n:=⟨_,rfl⟩;have HN2:=hD hn2;have HN3:=hD hn3;rw[hn0,hn1,hn2,hn3,hn4,hn5,hn6,hn7]at HFN ⊢;obtain⟨W,hW⟩:∃ W,W=w.alloc (.cells #[.slice A0 n0 c0,.slice A1 n1 c1,.slice A2 n2 c2,.slice A3 n3 c3,.slice A4 n4 c4,.slice A5 n5 c5,.slice A6 n6 c6,.slice A7 n7 c7] 33):=⟨_,rfl⟩;have hbw:Below w.heap.size w W:=hW ▸ (bR _ _).alloc (nR _) _;have HBW:=hD hbw;have HB8:Hid (∀ wz,Below W.heap.size W wz→V4 wz w.heap.size (.slice A0 n0 c0) (.slice A1 n1 c1) (.slice A2 n2 c2) (.slice A3 n3 c3) (.slice A4 n4 c4) (.slice A5 n5 c5) (.slice A6 n6 c6) (.slice A7 n7 c7)):=hD fun wz hz=>by rw[hW]at hz;exact Vq w _ _ _ _ _ _ _ _ hz
 have HW:=hD hW;obtain⟨b0,b1,b2,b3,b4,b5,b6,b7⟩:=HB8.out W (bR _ _);clear hbw hW hn0 hn1 hn2 hn3 hn4 hn5 hn6 hn7;rw[HN2.out]at hs2;go_enter Tryz.func22,Tryz.ntmps22
 go_upto_region 1 with (fail)
 rw[← HW.out];go_wp2_with fail
 clear b0 b1 b2 b3 b4 b5 b6 b7;go_loopw [11] (fun i wr=>∃ k:Nat,k≤n2∧i=.int .i64 (k:Int)∧Hid (Below W.heap.size W wr)∧Hid (∀ j,j<k→(Um m ((List.range n2).getD j 0:Nat) prof).2=0)) (fun i _=>n2 - (intOf i).toNat)
 case atStart=>exact⟨0,nZ _,rfl,hD (bR _ _),hD fun j hj=>absurd hj (Nat.not_lt_zero _)⟩
 case round =>
  obtain⟨w0,rfl⟩:∃ w0,w0=wr:=⟨_,rfl⟩;obtain⟨k,hk,rfl,HB,HA⟩:=hrel;by_cases hlt:k<n2
  ·have hd:decide ((k:Int)<(n2:Int))=true:=by simp;omega
   have hd2:decide (k<n2)=true:=by simp;omega
   obtain⟨b0,b1,b2,b3,b4,b5,b6,b7⟩:=HB8.out w0 HB.out;have HCF:=hD (HFN.out w0 (Wa HBW.out HB.out) k hlt);have HAT:=hD (fun (hz:(Um m (k:Int) prof).2≠0)=>(by
    have h:=firstC_at (g:=fun q:Nat=>(Um m (q:Int) prof).2) (d:=0) (l:=List.range n2) HA.out (by rw[List.length_range];exact hlt) (by rw[range_getD n2 k 0 hlt];exact hz);rw[range_getD n2 k 0 hlt]at h;unfold funcsC;rw[HN2.out];exact h:funcsC m prof=(Um m (k:Int) prof).2))
   have HAN:=hD (fun (hz:(Um m (k:Int) prof).2=0) j (hj:j<k+1)=>(by
    rcases Nat.lt_or_ge j k with h1|h1
    ·exact HA.out j h1
    ·rw[show j=k by omega,range_getD n2 k 0 hlt];exact hz:(Um m ((List.range n2).getD j 0:Nat) prof).2=0))
   generalize Um m (k:Int) prof=r at HCF HAT HAN;obtain⟨r1,r2⟩:=r;by_cases hz:r2=0
   ·subst hz;have HAZ:=hD (HAN.out rfl);clear HAT HAN;go_wp2_with (go_at_call 23;refine(HCF.out).mono ?_;rintro e w1 ⟨rfl,hb1⟩;have HB1:=hD (Wa HB.out hb1);clear hb1)
    go_roundw
    case rel=>exact⟨k+1,by omega,by go_num,HB1,HAZ⟩
    case measure=>simp[intOf];omega
   ·have hzb:(r2 != 0)=true:=by simpa using hz
    have HAZ:=hD (HAT.out hz);clear HAT HAN hz;go_wp2_with (go_at_call 23;refine(HCF.out).mono ?_;rintro e w1 ⟨rfl,hb1⟩;have HB1:=hD (Wa HB.out hb1);clear hb1)
    go_ret;exact⟨VE (HAZ.out).symm,Wa HBW.out HB1.out⟩
  ·have hd:decide ((k:Int)<(n2:Int))=false:=by simp;omega
   have hd2:decide (k<n2)=false:=by simp;omega
   obtain rfl:n2=k:=by omega
   have HF:=hD (show funcsC m prof=0 by unfold funcsC;rw[HN2.out];exact firstC_zero (g:=fun q:Nat=>(Um m (q:Int) prof).2) (d:=0) (by rw[List.length_range];exact HA.out));go_wp2;go_ret;exact⟨VE (HF.out).symm,Wa HBW.out HB.out⟩
end
section
open Go.RowKit
set_option maxHeartbeats 4000000
set_option maxRecDepth 100000
theorem matched_any (w:World) (v:Value) (l:List Fnc) (h:FunsK (fun k=>k<w.heap.size) w v l) (hl:∀ f ∈ l,f.code.length≤950000):Calls Tryz.prog 17 #[v] w (fun e w'=>e=.returned (.int .i64 (VN matC l))∧Below w.heap.size w w'):=by
 obtain⟨A,c,hv,hnc,hcm⟩:=Wd.form h;have H:=hD h;have HL:=hD hl;rw[hv]at H ⊢;clear h hv hl;unfold maxLen at hcm;obtain⟨n,hn⟩:∃ n,l.length=n:=⟨_,rfl⟩;have HN:=hD hn;rw[hn]at H hnc ⊢;clear hn;go_enter Tryz.func17,Tryz.ntmps17;go_wp2_with fail
 go_loopw [9] (fun i wr=>∃ k:Nat,k≤n∧i=.int .i64 (k:Int)∧Hid (Below w.heap.size w wr)∧Hid (∀ j,j<k→matC (l.getD j VF)=0)) (fun i _=>n - (intOf i).toNat)
 case atStart=>exact⟨0,nZ _,rfl,hD (bR _ _),hD fun j hj=>absurd hj (Nat.not_lt_zero _)⟩
 case round =>
  obtain⟨w0,rfl⟩:∃ w0,w0=wr:=⟨_,rfl⟩;obtain⟨k,hk,rfl,HB,HA⟩:=hrel;by_cases hlt:k<n
  ·have hd:decide ((k:Int)<(n:Int))=true:=by simp;omega
   have hd2:decide (k<n)=true:=by simp;omega
   obtain⟨g,o,c',he,_,_⟩:=Wd.some_ H.out (by rw[HN.out];omega);simp only[vI]at he;obtain⟨rfl,-,rfl⟩:=he;have hAT:=FunsK.keep (K':=fun k=>k<w0.heap.size) H.out (Wf.below HB.out fun _ hk=>hk) fun _ hk=>WW hk HB.out.size;obtain⟨u0,k0,h0⟩:=Wd.at_ hAT k 0 (by rw[HN.out];exact hlt) (by decide);obtain⟨u1,k1,h1⟩:=Wd.at_ hAT k 1 (by rw[HN.out];exact hlt) (by decide);obtain⟨u2,k2,h2⟩:=Wd.at_ hAT k 2 (by rw[HN.out];exact hlt) (by decide);have hlen:=HL.out _ (Ve l k VF (by rw[HN.out];exact hlt));have HAT:=hD (fun (hz:matC (l.getD k VF)≠0)=>firstC_at (d:=VF) HA.out (by rw[HN.out];exact hlt) hz);have HAN:=hD (fun (hz:matC (l.getD k VF)=0) j (hj:j<k+1)=>(by rcases Nat.lt_or_ge j k with h1|h1;exact HA.out j h1;rw[show j=k by omega];exact hz:matC (l.getD j VF)=0));clear hAT;generalize l.getD k VF=x at h0 h1 h2 hlen HAT HAN;obtain⟨x1,x2,x3⟩:=x;obtain rfl:u0=.int .i64 x1:=h0;have h1:Wg (fun g=>g<w0.heap.size) w0 u1 x2:=h1;have h2:Vh (fun g=>g<w0.heap.size) w0 u2 x3:=h2;obtain⟨P1,p1,rfl,_,_⟩:=h1.form;obtain⟨P2,p2,rfl,hp2,hca⟩:=h2.code;generalize x2.length=m1 at *;rw[Nat.add_zero]at k0;have hbx:∀ wz,Below w0.heap.size w0 wz→Calls Tryz.prog 39 #[.slice P2 x3.length p2] wz (OfPost (x3.map VV.op) wz):=fun wz hz=>of_any wz P2 x3.length p2 (x3.map VV.op) (hca.below hz) (by rw[List.length_map]) hlen hp2;generalize x3.length=m2 at *;obtain⟨W6,hW6⟩:∃ W6,W6=w0.alloc (.cells #[.int .i64 x1,.slice P1 m1 p1,.slice P2 m2 p2] 62):=⟨_,rfl⟩;have hb6:Below w0.heap.size w0 W6:=hW6 ▸ Wi (bR _ _) _;have y2:W6.cell? ⟨w0.heap.size,2,none⟩=some (.slice P2 m2 p2):=by rw[hW6,wN];rfl
   have HOF:=hD (hbx W6 hb6);have HW6:=hD hW6;have HB6:=hD (Wa HB.out hb6);obtain⟨mc,hmc⟩:∃ z,matC ⟨x1,x2,x3⟩=z:=⟨_,rfl⟩;rw[hmc]at HAT HAN;have hmc:(matchP (x3.map VV.op)).2=mc:=hmc;unfold OfPost at HOF;rw[hmc]at HOF;clear h1 h2 hca hbx hlen hW6 hmc hb6;by_cases hz:mc=0
   ·subst hz;have HAZ:=hD (HAN.out rfl);clear HAT HAN
    go_upto_region 4 with (fail)
    rw[← HW6.out];go_wp2_with (go_at_call 39;refine(HOF.out).mono ?_;rintro e w1 ⟨sv,rfl,_,hb1⟩;have HB1:=hD (Wa HB6.out hb1);clear hb1)
    go_roundw
    case rel=>exact⟨k+1,by omega,by go_num,HB1,HAZ⟩
    case measure=>simp[intOf];omega
   ·have hzb:(mc != 0)=true:=by simpa using hz
    have HAZ:=hD (HAT.out hz);clear HAT HAN hz
    go_upto_region 4 with (fail)
    rw[← HW6.out];go_wp2_with (go_at_call 39;refine(HOF.out).mono ?_;rintro e w1 ⟨sv,rfl,_,hb1⟩;have HB1:=hD (Wa HB6.out hb1);clear hb1)
    go_ret;exact⟨VE (HAZ.out).symm,HB1.out⟩
  ·have hd:decide ((k:Int)<(n:Int))=false:=by simp;omega
   have hd2:decide (k<n)=false:=by simp;omega
   obtain rfl:n=k:=by omega
   have HF:=hD (firstC_zero (d:=VF) (by rw[HN.out];exact HA.out));go_wp2;go_ret;exact⟨VE (HF.out).symm,HB.out⟩
end
section
open Go.RowKit
set_option maxHeartbeats 4000000
set_option maxRecDepth 100000
theorem Zbk {P:Prop}(h:P:=by
 clear hbw hW q0 q1 q2 q3 q4 q5 q6 q7 hn0 hn1 hn2 hn3 hn4 hn5 hn6 hn7;go_enter Tryz.func41,Tryz.ntmps41
 go_upto_region 1 with (fail)
 rw[← HW.out];obtain⟨b0,b1,b2,b3,b4,b5,b6,b7⟩:=HB8.out W (bR _ _);go_wp2;go_ret;exact⟨rfl,HBW.out⟩):P:=h
theorem chkin_any (n:Int) (l:Nat) (w:World):Calls Tryz.prog 40 #[.int .i64 n,.int .i64 (l:Int)] w fun e w'=>e=.returned (.bool (Wm n l))∧w=w':=by
 unfold Wm;by_cases h1:0≤n
 ·have d1:decide ((0:Int)≤n)=true:=decide_eq_true h1;cases h2:decide (n<(l:Int)) <;>
  ·rw[d1];go_enter Tryz.func40,Tryz.ntmps40;go_wp2;go_ret;exact⟨rfl,rfl⟩
 ·have d1:decide ((0:Int)≤n)=false:=decide_eq_false h1;rw[d1];go_enter Tryz.func40,Tryz.ntmps40;go_wp2;go_ret;exact⟨rfl,rfl⟩
theorem ccount_any (w:World) (v:Mv) (m:W8) (kind:Int) (h:WQ (fun k=>k<w.heap.size) w v m) (hs:VI m):Calls Tryz.prog 41 #[.agg v.cells,.int .i64 kind] w (fun e w'=>e=.returned (.int .i64 (countC m kind:Int))∧Below w.heap.size w w'):=by
 have q0:=h.types;have q1:=h.imps;have q2:=h.funs;have q3:=h.mems;have q4:=h.globs;have q5:=h.exps;have q6:=h.datas;have q7:=h.cus;obtain⟨A0,c0,A1,c1,A2,c2,A3,c3,A4,c4,A5,c5,A6,c6,A7,c7,rfl⟩:=WC h;simp only[Mv.cells]at ⊢;simp only at q0 q1 q2 q3 q4 q5 q6 q7;clear h;obtain⟨n0,hn0⟩:∃ n,m.types.length=n:=⟨_,rfl⟩;obtain⟨n1,hn1⟩:∃ n,m.imps.length=n:=⟨_,rfl⟩;obtain⟨n2,hn2⟩:∃ n,m.funs.length=n:=⟨_,rfl⟩;obtain⟨n3,hn3⟩:∃ n,m.mems.length=n:=⟨_,rfl⟩;obtain⟨n4,hn4⟩:∃ n,m.globs.length=n:=⟨_,rfl⟩;obtain⟨n5,hn5⟩:∃ n,m.exps.length=n:=⟨_,rfl⟩;obtain⟨n6,hn6⟩:∃ n,m.datas.length=n:=⟨_,rfl⟩;obtain⟨n7,hn7⟩:∃ n,m.cus.length=n:=⟨_,rfl⟩;have HN0:=hD hn0;have HN1:=hD hn1;have HN2:=hD hn2;have HN3:=hD hn3;have HN4:=hD hn4;have HN5:=hD hn5;have HN6:=hD hn6;have HN7:=hD hn7;have hs1:=hs.2.1;have hs2:=hs.2.2.1;clear hs;rw[hn1]at hs1;rw[hn2]at hs2;rw[hn0]at q0 ⊢;rw[hn1]at q1 ⊢;rw[hn2]at q2 ⊢;rw[hn3]at q3 ⊢;rw[hn4]at q4 ⊢;rw[hn5]at q5 ⊢;rw[hn6]at q6 ⊢;rw[hn7]at q7 ⊢;obtain⟨W,hW⟩:∃ W,W=w.alloc (.cells #[.slice A0 n0 c0,.slice A1 n1 c1,.slice A2 n2 c2,.slice A3 n3 c3,.slice A4 n4 c4,.slice A5 n5 c5,.slice A6 n6 c6,.slice A7 n7 c7] 33):=⟨_,rfl⟩;have hbw:Below w.heap.size w W:=hW ▸ (bR _ _).alloc (nR _) _;have HBW:=hD hbw;have HB8:Hid (∀ wz,Below W.heap.size W wz→V4 wz w.heap.size (.slice A0 n0 c0) (.slice A1 n1 c1) (.slice A2 n2 c2) (.slice A3 n3 c3) (.slice A4 n4 c4) (.slice A5 n5 c5) (.slice A6 n6 c6) (.slice A7 n7 c7)):=hD fun wz hz=>by rw[hW]at hz;exact Vq w _ _ _ _ _ _ _ _ hz
 have HW:=hD hW;have HKC:Hid (countC m kind=if kind=0 then n1+n2 else if kind=2 then n3 else n4):=hD (by unfold countC;rw[HN1.out,HN2.out,HN3.out,HN4.out]);rw[HKC.out];clear HKC;have e1:IntKind.i64.wrap ((n1:Int)+(n2:Int))=(n1:Int)+(n2:Int):=IntWalk.i64_in _ (by omega);by_cases k0:kind=0
 ·subst k0;rw[if_pos rfl];clear hs1 hs2;clear hbw hW q0 q1 q2 q3 q4 q5 q6 q7 hn0 hn1 hn2 hn3 hn4 hn5 hn6 hn7;go_enter Tryz.func41,Tryz.ntmps41
  go_upto_region 1 with (fail)
  rw[← HW.out];obtain⟨b0,b1,b2,b3,b4,b5,b6,b7⟩:=HB8.out W (bR _ _);go_wp2;go_ret;exact⟨VE (by omega),HBW.out⟩
 by_cases k2:kind=2
 ·subst k2;rw[if_neg (by decide),if_pos rfl];clear hs1 hs2 e1;exact Zbk
 have d0:(kind==0)=false:=by simpa using k0
 have d2:(kind==2)=false:=by simpa using k2
 rw[if_neg k0,if_neg k2];clear hs1 hs2 e1 k0 k2;exact Zbk
end
section
open Go.RowKit
set_option maxHeartbeats 4000000
set_option maxRecDepth 100000
theorem ZbC {P:Prop}(h:P:=by
 have HY:=hD (HYE.out hb0);have HBZ:=hD hb0;clear HNO HYE;go_wp2_with (go_at_call 40;refine(chkin_any _ _ _).mono ?_;rintro e w1 ⟨rfl,rfl⟩;try rw[HBZ.out])
 exact ZB):P:=h
theorem ctypesExist_any (w:World) (v:Mv) (m:W8) (h:WQ (fun k=>k<w.heap.size) w v m):Calls Tryz.prog 18 #[.agg v.cells] w (Wo (UG m) w):=by
 have q0:=h.types;have q1:=h.imps;have q2:=h.funs;have q3:=h.mems;have q4:=h.globs;have q5:=h.exps;have q6:=h.datas;have q7:=h.cus;obtain⟨A0,c0,A1,c1,A2,c2,A3,c3,A4,c4,A5,c5,A6,c6,A7,c7,rfl⟩:=WC h;simp only[Mv.cells]at ⊢;simp only at q0 q1 q2 q3 q4 q5 q6 q7;clear h;obtain⟨n0,hn0⟩:∃ n,m.types.length=n:=⟨_,rfl⟩;obtain⟨n1,hn1⟩:∃ n,m.imps.length=n:=⟨_,rfl⟩;obtain⟨n2,hn2⟩:∃ n,m.funs.length=n:=⟨_,rfl⟩;obtain⟨n3,hn3⟩:∃ n,m.mems.length=n:=⟨_,rfl⟩;obtain⟨n4,hn4⟩:∃ n,m.globs.length=n:=⟨_,rfl⟩;obtain⟨n5,hn5⟩:∃ n,m.exps.length=n:=⟨_,rfl⟩;obtain⟨n6,hn6⟩:∃ n,m.datas.length=n:=⟨_,rfl⟩;obtain⟨n7,hn7⟩:∃ n,m.cus.length=n:=⟨_,rfl⟩;have HN0:=hD hn0;have HN1:=hD hn1;have HN2:=hD hn2;have HN3:=hD hn3;have HN4:=hD hn4;have HN5:=hD hn5;have HN6:=hD hn6;have HN7:=hD hn7;rw[hn0]at q0 ⊢;rw[hn1]at q1 ⊢;rw[hn2]at q2 ⊢;rw[hn3]at q3 ⊢;rw[hn4]at q4 ⊢;rw[hn5]at q5 ⊢;rw[hn6]at q6 ⊢;rw[hn7]at q7 ⊢;obtain⟨W,hW⟩:∃ W,W=w.alloc (.cells #[.slice A0 n0 c0,.slice A1 n1 c1,.slice A2 n2 c2,.slice A3 n3 c3,.slice A4 n4 c4,.slice A5 n5 c5,.slice A6 n6 c6,.slice A7 n7 c7] 33):=⟨_,rfl⟩;have hbw:Below w.heap.size w W:=hW ▸ (bR _ _).alloc (nR _) _;have HBW:=hD hbw;have HB8:Hid (∀ wz,Below W.heap.size W wz→V4 wz w.heap.size (.slice A0 n0 c0) (.slice A1 n1 c1) (.slice A2 n2 c2) (.slice A3 n3 c3) (.slice A4 n4 c4) (.slice A5 n5 c5) (.slice A6 n6 c6) (.slice A7 n7 c7)):=hD fun wz hz=>by rw[hW]at hz;exact Vq w _ _ _ _ _ _ _ _ hz
 have HW:=hD hW;have Q1:=hD (Wd.keep (K':=fun k=>k<W.heap.size) q1 (Wf.below hbw fun _ hk=>hk) (fun _ hk=>WW hk hbw.size) (fun _ _ _ h=>h));have Q2:=hD (FunsK.keep (K':=fun k=>k<W.heap.size) q2 (Wf.below hbw fun _ hk=>hk) (fun _ hk=>WW hk hbw.size));clear hbw hW q0 q1 q2 q3 q4 q5 q6 q7 hn0 hn1 hn2 hn3 hn4 hn5 hn6 hn7;go_enter Tryz.func18,Tryz.ntmps18
 go_upto_region 1 with (fail)
 rw[← HW.out];obtain⟨b0,b1,b2,b3,b4,b5,b6,b7⟩:=HB8.out W (bR _ _);go_wp2_with fail
 clear b0 b1 b2 b3 b4 b5 b6 b7;go_loopw [10] (fun i wr=>∃ k:Nat,k≤n1∧i=.int .i64 (k:Int)∧Hid (Below W.heap.size W wr)∧Hid (Va (impIn n0) m.imps (ByteArray.empty,ByteArray.empty,0) k)) (fun i _=>n1 - (intOf i).toNat)
 case atStart=>exact⟨0,nZ _,rfl,hD (bR _ _),hD (Va.zero _ _ _)⟩
 case round =>
  obtain⟨w0,rfl⟩:∃ w0,w0=wr:=⟨_,rfl⟩;obtain⟨k,hk,rfl,HB,HA⟩:=hrel;by_cases hlt:k<n1
  ·have hd:decide ((k:Int)<(n1:Int))=true:=by simp;omega
   have hd2:decide (k<n1)=true:=by simp;omega
   obtain⟨g,o,c',he,hq1,hq2⟩:=Wd.some_ Q1.out (by rw[HN1.out];omega);rw[HN1.out]at hq1;unfold maxLen at hq2;simp only[vI]at he;obtain⟨rfl,-,rfl⟩:=he;have hAT:=Wd.keep (K':=fun k=>k<w0.heap.size) Q1.out (Wf.below HB.out fun _ hk=>hk) (fun _ hk=>WW hk HB.out.size) (fun _ _ _ h=>h);obtain⟨u0,k0,h0⟩:=Wd.at_ hAT k 0 (by rw[HN1.out];exact hlt) (by decide);obtain⟨u1,k1,h1⟩:=Wd.at_ hAT k 1 (by rw[HN1.out];exact hlt) (by decide);obtain⟨u2,k2,h2⟩:=Wd.at_ hAT k 2 (by rw[HN1.out];exact hlt) (by decide);have HMEM:=hD (Ve m.imps k (ByteArray.empty,ByteArray.empty,0) (by rw[HN1.out];exact hlt));have HNO:=hD (fun (h:(impIn n0) (m.imps.getD k (ByteArray.empty,ByteArray.empty,0))=false)=>Uc (p:=impIn n0) (by rw[HN1.out];exact hlt) h);have HYE:=hD (fun (h:(impIn n0) (m.imps.getD k (ByteArray.empty,ByteArray.empty,0))=true)=>HA.out.succ h);clear hAT;generalize m.imps.getD k (ByteArray.empty,ByteArray.empty,0)=x at h0 h1 h2 HNO HYE HMEM;obtain⟨x1,x2,x3⟩:=x;obtain rfl:u0=.string x1:=h0;obtain rfl:u1=.string x2:=h1;obtain rfl:u2=.int .i64 x3:=h2;rw[Nat.add_zero]at k0;have hnx:=Wi (bR w0.heap.size w0) (.cells #[.string x1,.string x2,.int .i64 x3] 52);have HC:Hid (∀ wz,Below (w0.alloc (.cells #[.string x1,.string x2,.int .i64 x3] 52)).heap.size (w0.alloc (.cells #[.string x1,.string x2,.int .i64 x3] 52)) wz→(wz.cell? ⟨w0.heap.size,0,none⟩=some (.string x1)∧wz.cell? ⟨w0.heap.size,1,none⟩=some (.string x2)∧wz.cell? ⟨w0.heap.size,2,none⟩=some (.int .i64 x3))∧V4 wz w.heap.size (.slice A0 n0 c0) (.slice (some ⟨g,o,none⟩) n1 c1) (.slice A2 n2 c2) (.slice A3 n3 c3) (.slice A4 n4 c4) (.slice A5 n5 c5) (.slice A6 n6 c6) (.slice A7 n7 c7)):=hD fun wz hb=>by
    have h9:∀ i,wz.cell? ⟨w0.heap.size,i,none⟩=(#[.string x1,.string x2,.int .i64 x3]:Array Value)[i]?:=fun i=>(hb.cell (p:=⟨w0.heap.size,i,none⟩) (by simp)).trans (wN w0 _ _ i);exact⟨⟨h9 0,h9 1,h9 2⟩,HB8.out wz (Wa HB.out (Wa hnx hb))⟩
   obtain⟨-,b0,b1,b2,b3,b4,b5,b6,b7⟩:=HC.out _ (bR _ _);cases hb0:(Wm x3 n0) with
   | false =>
    have HF:=hD (HNO.out hb0);have HBZ:=hD hb0;clear HNO HYE;go_wp2_with (go_at_call 40;refine(chkin_any _ _ _).mono ?_;rintro e w1 ⟨rfl,rfl⟩;try rw[HBZ.out])
    go_ret;exact⟨WM (by unfold UG;rw[← HN0.out]at HF;rw[HF.out,Bool.false_and]),Wa HBW.out (Wa HB.out hnx)⟩
   | true =>
    exact ZbC
  ·have hd:decide ((k:Int)<(n1:Int))=false:=by simp;omega
   have hd2:decide (k<n1)=false:=by simp;omega
   obtain rfl:n1=k:=by omega
   have HF1:=hD (show m.imps.all (impIn n0)=true by have h:=HA.out;rw[← HN1.out]at h;exact h.done);obtain⟨b0,b1,b2,b3,b4,b5,b6,b7⟩:=HB8.out _ HB.out;go_wp2_with fail
   clear b0 b1 b2 b3 b4 b5 b6 b7;go_loopw [25] (fun i wr=>∃ k:Nat,k≤n2∧i=.int .i64 (k:Int)∧Hid (Below W.heap.size W wr)∧Hid (Va (funIn n0) m.funs VF k)) (fun i _=>n2 - (intOf i).toNat)
   case atStart=>exact⟨0,nZ _,rfl,HB,hD (Va.zero _ _ _)⟩
   case round =>
    obtain⟨w0,rfl⟩:∃ w0,w0=wr:=⟨_,rfl⟩;obtain⟨k,hk,rfl,HB,HA⟩:=hrel;by_cases hlt:k<n2
    ·have hd:decide ((k:Int)<(n2:Int))=true:=by simp;omega
     have hd2:decide (k<n2)=true:=by simp;omega
     obtain⟨g,o,c',he,hq1,hq2⟩:=Wd.some_ Q2.out (by rw[HN2.out];omega);rw[HN2.out]at hq1;unfold maxLen at hq2;simp only[vI]at he;obtain⟨rfl,-,rfl⟩:=he;have hAT:=FunsK.keep (K':=fun k=>k<w0.heap.size) Q2.out (Wf.below HB.out fun _ hk=>hk) (fun _ hk=>WW hk HB.out.size);obtain⟨u0,k0,h0⟩:=Wd.at_ hAT k 0 (by rw[HN2.out];exact hlt) (by decide);obtain⟨u1,k1,h1⟩:=Wd.at_ hAT k 1 (by rw[HN2.out];exact hlt) (by decide);obtain⟨u2,k2,h2⟩:=Wd.at_ hAT k 2 (by rw[HN2.out];exact hlt) (by decide);have HMEM:=hD (Ve m.funs k VF (by rw[HN2.out];exact hlt));have HNO:=hD (fun (h:(funIn n0) (m.funs.getD k VF)=false)=>Uc (p:=funIn n0) (by rw[HN2.out];exact hlt) h);have HYE:=hD (fun (h:(funIn n0) (m.funs.getD k VF)=true)=>HA.out.succ h);clear hAT;generalize m.funs.getD k VF=x at h0 h1 h2 HNO HYE HMEM;obtain⟨x1,x2,x3⟩:=x;obtain rfl:u0=.int .i64 x1:=h0;have h1:Wg (fun g=>g<w0.heap.size) w0 u1 x2:=h1;have h2:Vh (fun g=>g<w0.heap.size) w0 u2 x3:=h2;obtain⟨P1,p1,rfl,_,_⟩:=h1.form;obtain⟨P2,p2,rfl,_,_⟩:=Wd.form h2;generalize hm1:x2.length=m1 at *;generalize hm2:x3.length=m2 at *;clear hm1 hm2 h1 h2;rw[Nat.add_zero]at k0;have hnx:=Wi (bR w0.heap.size w0) (.cells #[.int .i64 x1,.slice P1 m1 p1,.slice P2 m2 p2] 62);have HC:Hid (∀ wz,Below (w0.alloc (.cells #[.int .i64 x1,.slice P1 m1 p1,.slice P2 m2 p2] 62)).heap.size (w0.alloc (.cells #[.int .i64 x1,.slice P1 m1 p1,.slice P2 m2 p2] 62)) wz→(wz.cell? ⟨w0.heap.size,0,none⟩=some (.int .i64 x1)∧wz.cell? ⟨w0.heap.size,1,none⟩=some (.slice P1 m1 p1)∧wz.cell? ⟨w0.heap.size,2,none⟩=some (.slice P2 m2 p2))∧V4 wz w.heap.size (.slice A0 n0 c0) (.slice A1 n1 c1) (.slice (some ⟨g,o,none⟩) n2 c2) (.slice A3 n3 c3) (.slice A4 n4 c4) (.slice A5 n5 c5) (.slice A6 n6 c6) (.slice A7 n7 c7)):=hD fun wz hb=>by
      have h9:∀ i,wz.cell? ⟨w0.heap.size,i,none⟩=(#[.int .i64 x1,.slice P1 m1 p1,.slice P2 m2 p2]:Array Value)[i]?:=fun i=>(hb.cell (p:=⟨w0.heap.size,i,none⟩) (by simp)).trans (wN w0 _ _ i);exact⟨⟨h9 0,h9 1,h9 2⟩,HB8.out wz (Wa HB.out (Wa hnx hb))⟩
     obtain⟨-,b0,b1,b2,b3,b4,b5,b6,b7⟩:=HC.out _ (bR _ _);cases hb0:(Wm x1 n0) with
     | false =>
      have HF:=hD (HNO.out hb0);have HBZ:=hD hb0;clear HNO HYE;go_wp2_with (go_at_call 40;refine(chkin_any _ _ _).mono ?_;rintro e w1 ⟨rfl,rfl⟩;try rw[HBZ.out])
      go_ret;exact⟨WM (by unfold UG;rw[← HN0.out]at HF;rw[HF.out,Bool.and_false]),Wa HBW.out (Wa HB.out hnx)⟩
     | true =>
      exact ZbC
    ·have hd:decide ((k:Int)<(n2:Int))=false:=by simp;omega
     have hd2:decide (k<n2)=false:=by simp;omega
     obtain rfl:n2=k:=by omega
     have HF2:=hD (show m.funs.all (funIn n0)=true by have h:=HA.out;rw[← HN2.out]at h;exact h.done);obtain⟨b0,b1,b2,b3,b4,b5,b6,b7⟩:=HB8.out _ HB.out;go_wp2;go_ret;exact⟨WM (by unfold UG;rw[← HN0.out]at HF1 HF2;rw[HF1.out,HF2.out];rfl),Wa HBW.out HB.out⟩
end
section
open Go.RowKit
set_option maxHeartbeats 4000000
set_option maxRecDepth 100000
theorem cexportsExist_any (w:World) (v:Mv) (m:W8) (h:WQ (fun k=>k<w.heap.size) w v m) (hs:VI m):Calls Tryz.prog 19 #[.agg v.cells] w (Wo (m.exps.all (expIn m)) w):=by
 have q0:=h.types;have q1:=h.imps;have q2:=h.funs;have q3:=h.mems;have q4:=h.globs;have q5:=h.exps;have q6:=h.datas;have q7:=h.cus;obtain⟨A0,c0,A1,c1,A2,c2,A3,c3,A4,c4,A5,c5,A6,c6,A7,c7,rfl⟩:=WC h;simp only[Mv.cells]at ⊢;simp only at q0 q1 q2 q3 q4 q5 q6 q7;obtain⟨n0,hn0⟩:∃ n,m.types.length=n:=⟨_,rfl⟩;obtain⟨n1,hn1⟩:∃ n,m.imps.length=n:=⟨_,rfl⟩;obtain⟨n2,hn2⟩:∃ n,m.funs.length=n:=⟨_,rfl⟩;obtain⟨n3,hn3⟩:∃ n,m.mems.length=n:=⟨_,rfl⟩;obtain⟨n4,hn4⟩:∃ n,m.globs.length=n:=⟨_,rfl⟩;obtain⟨n5,hn5⟩:∃ n,m.exps.length=n:=⟨_,rfl⟩;obtain⟨n6,hn6⟩:∃ n,m.datas.length=n:=⟨_,rfl⟩;obtain⟨n7,hn7⟩:∃ n,m.cus.length=n:=⟨_,rfl⟩;have HN0:=hD hn0;have HN1:=hD hn1;have HN2:=hD hn2;have HN3:=hD hn3;have HN4:=hD hn4;have HN5:=hD hn5;have HN6:=hD hn6;have HN7:=hD hn7;have HCT:=hD (fun wz (hb:Below w.heap.size w wz) kind=>ccount_any wz _ m kind (h.keep (Wf.below hb fun _ hk=>hk) fun _ hk=>WW hk hb.size) hs);simp only[Mv.cells]at HCT;clear hs h;rw[hn0]at q0 HCT ⊢;rw[hn1]at q1 HCT ⊢;rw[hn2]at q2 HCT ⊢;rw[hn3]at q3 HCT ⊢;rw[hn4]at q4 HCT ⊢;rw[hn5]at q5 HCT ⊢;rw[hn6]at q6 HCT ⊢;rw[hn7]at q7 HCT ⊢;obtain⟨W,hW⟩:∃ W,W=w.alloc (.cells #[.slice A0 n0 c0,.slice A1 n1 c1,.slice A2 n2 c2,.slice A3 n3 c3,.slice A4 n4 c4,.slice A5 n5 c5,.slice A6 n6 c6,.slice A7 n7 c7] 33):=⟨_,rfl⟩;have hbw:Below w.heap.size w W:=hW ▸ (bR _ _).alloc (nR _) _;have HBW:=hD hbw;have HB8:Hid (∀ wz,Below W.heap.size W wz→V4 wz w.heap.size (.slice A0 n0 c0) (.slice A1 n1 c1) (.slice A2 n2 c2) (.slice A3 n3 c3) (.slice A4 n4 c4) (.slice A5 n5 c5) (.slice A6 n6 c6) (.slice A7 n7 c7)):=hD fun wz hz=>by rw[hW]at hz;exact Vq w _ _ _ _ _ _ _ _ hz
 have HW:=hD hW;have Q5:=hD (Wd.keep (K':=fun k=>k<W.heap.size) q5 (Wf.below hbw fun _ hk=>hk) (fun _ hk=>WW hk hbw.size) (fun _ _ _ h=>h));clear hbw hW q0 q1 q2 q3 q4 q5 q6 q7 hn0 hn1 hn2 hn3 hn4 hn5 hn6 hn7;go_enter Tryz.func19,Tryz.ntmps19
 go_upto_region 1 with (fail)
 rw[← HW.out];obtain⟨b0,b1,b2,b3,b4,b5,b6,b7⟩:=HB8.out W (bR _ _);go_wp2_with fail
 clear b0 b1 b2 b3 b4 b5 b6 b7;go_loopw [8] (fun i wr=>∃ k:Nat,k≤n5∧i=.int .i64 (k:Int)∧Hid (Below W.heap.size W wr)∧Hid (Va (expIn m) m.exps (ByteArray.empty,0,0) k)) (fun i _=>n5 - (intOf i).toNat)
 case atStart=>exact⟨0,nZ _,rfl,hD (bR _ _),hD (Va.zero _ _ _)⟩
 case round =>
  obtain⟨w0,rfl⟩:∃ w0,w0=wr:=⟨_,rfl⟩;obtain⟨k,hk,rfl,HB,HA⟩:=hrel;by_cases hlt:k<n5
  ·have hd:decide ((k:Int)<(n5:Int))=true:=by simp;omega
   have hd2:decide (k<n5)=true:=by simp;omega
   obtain⟨g,o,c',he,hq1,hq2⟩:=Wd.some_ Q5.out (by rw[HN5.out];omega);rw[HN5.out]at hq1;unfold maxLen at hq2;simp only[vI]at he;obtain⟨rfl,-,rfl⟩:=he;have hAT:=Wd.keep (K':=fun k=>k<w0.heap.size) Q5.out (Wf.below HB.out fun _ hk=>hk) (fun _ hk=>WW hk HB.out.size) (fun _ _ _ h=>h);obtain⟨u0,k0,h0⟩:=Wd.at_ hAT k 0 (by rw[HN5.out];exact hlt) (by decide);obtain⟨u1,k1,h1⟩:=Wd.at_ hAT k 1 (by rw[HN5.out];exact hlt) (by decide);obtain⟨u2,k2,h2⟩:=Wd.at_ hAT k 2 (by rw[HN5.out];exact hlt) (by decide);have HMEM:=hD (Ve m.exps k (ByteArray.empty,0,0) (by rw[HN5.out];exact hlt));have HNO:=hD (fun (h:(expIn m) (m.exps.getD k (ByteArray.empty,0,0))=false)=>Uc (p:=expIn m) (by rw[HN5.out];exact hlt) h);have HYE:=hD (fun (h:(expIn m) (m.exps.getD k (ByteArray.empty,0,0))=true)=>HA.out.succ h);clear hAT;generalize m.exps.getD k (ByteArray.empty,0,0)=x at h0 h1 h2 HNO HYE HMEM;obtain⟨x1,x2,x3⟩:=x;obtain rfl:u0=.string x1:=h0;obtain rfl:u1=.int .i64 x2:=h1;obtain rfl:u2=.int .i64 x3:=h2;rw[Nat.add_zero]at k0;have hnx:=Wi (bR w0.heap.size w0) (.cells #[.string x1,.int .i64 x2,.int .i64 x3] 59);have HC:Hid (∀ wz,Below (w0.alloc (.cells #[.string x1,.int .i64 x2,.int .i64 x3] 59)).heap.size (w0.alloc (.cells #[.string x1,.int .i64 x2,.int .i64 x3] 59)) wz→(wz.cell? ⟨w0.heap.size,0,none⟩=some (.string x1)∧wz.cell? ⟨w0.heap.size,1,none⟩=some (.int .i64 x2)∧wz.cell? ⟨w0.heap.size,2,none⟩=some (.int .i64 x3))∧V4 wz w.heap.size (.slice A0 n0 c0) (.slice A1 n1 c1) (.slice A2 n2 c2) (.slice A3 n3 c3) (.slice A4 n4 c4) (.slice (some ⟨g,o,none⟩) n5 c5) (.slice A6 n6 c6) (.slice A7 n7 c7)):=hD fun wz hb=>by
    have h9:∀ i,wz.cell? ⟨w0.heap.size,i,none⟩=(#[.string x1,.int .i64 x2,.int .i64 x3]:Array Value)[i]?:=fun i=>(hb.cell (p:=⟨w0.heap.size,i,none⟩) (by simp)).trans (wN w0 _ _ i);exact⟨⟨h9 0,h9 1,h9 2⟩,HB8.out wz (Wa HB.out (Wa hnx hb))⟩
   obtain⟨-,b0,b1,b2,b3,b4,b5,b6,b7⟩:=HC.out _ (bR _ _);cases hb0:(Wm x3 (countC m x2)) with
   | false =>
    have HF:=hD (HNO.out hb0);have HBZ:=hD hb0;clear HNO HYE
    go_upto_region 4 with (fail)
    obtain⟨⟨-,z1,z2⟩,-⟩:=HC.out _ (bR _ _);generalize hw1:w0.alloc (.cells #[.string x1,.int .i64 x2,.int .i64 x3] 59)=w1 at *;have HBX:=hD (Wa HBW.out (Wa HB.out hnx))
    go_region_held3 (fun wz=>wz.cell? ⟨w0.heap.size,1,none⟩=some (.int .i64 x2)∧wz.cell? ⟨w0.heap.size,2,none⟩=some (.int .i64 x3)∧wz.cell? ⟨w.heap.size,0,none⟩=some (.slice A0 n0 c0)∧wz.cell? ⟨w.heap.size,1,none⟩=some (.slice A1 n1 c1)∧wz.cell? ⟨w.heap.size,2,none⟩=some (.slice A2 n2 c2)∧wz.cell? ⟨w.heap.size,3,none⟩=some (.slice A3 n3 c3)∧wz.cell? ⟨w.heap.size,4,none⟩=some (.slice A4 n4 c4)∧wz.cell? ⟨w.heap.size,5,none⟩=some (.slice (some ⟨g,o,none⟩) n5 c5)∧wz.cell? ⟨w.heap.size,6,none⟩=some (.slice A6 n6 c6)∧wz.cell? ⟨w.heap.size,7,none⟩=some (.slice A7 n7 c7))
     (first|go_keep|exact⟨z1,z2,b0,b1,b2,b3,b4,b5,b6,b7⟩|exact HX2.out)
     ((first|(go_at_call 41;refine(HCT.out _ (Wa HBX.out ((bR _ _).drew)) x2).mono ?_;rintro e w2 ⟨rfl,hb2⟩;have HB2:=hD (Wa ((bR w1.heap.size w1).drew) hb2);have HX2:=hD (by obtain⟨⟨-,y1,y2⟩,y⟩:=HC.out _ HB2.out;exact⟨y1,y2,y⟩:w2.cell? ⟨w0.heap.size,1,none⟩=some (.int .i64 x2)∧w2.cell? ⟨w0.heap.size,2,none⟩=some (.int .i64 x3)∧w2.cell? ⟨w.heap.size,0,none⟩=some (.slice A0 n0 c0)∧w2.cell? ⟨w.heap.size,1,none⟩=some (.slice A1 n1 c1)∧w2.cell? ⟨w.heap.size,2,none⟩=some (.slice A2 n2 c2)∧w2.cell? ⟨w.heap.size,3,none⟩=some (.slice A3 n3 c3)∧w2.cell? ⟨w.heap.size,4,none⟩=some (.slice A4 n4 c4)∧w2.cell? ⟨w.heap.size,5,none⟩=some (.slice (some ⟨g,o,none⟩) n5 c5)∧w2.cell? ⟨w.heap.size,6,none⟩=some (.slice A6 n6 c6)∧w2.cell? ⟨w.heap.size,7,none⟩=some (.slice A7 n7 c7));clear hb2)|(go_at_call 40;refine(chkin_any _ _ _).mono ?_;rintro e w3 ⟨rfl,rfl⟩;try rw[HBZ.out])))
    go_wp2;go_ret;exact⟨WM (by rw[HF.out]),Wa HBW.out (Wa HB.out (Wa hnx HB2.out))⟩
   | true =>
    have HY:=hD (HYE.out hb0);have HBZ:=hD hb0;clear HNO HYE
    go_upto_region 4 with (fail)
    obtain⟨⟨-,z1,z2⟩,-⟩:=HC.out _ (bR _ _);generalize hw1:w0.alloc (.cells #[.string x1,.int .i64 x2,.int .i64 x3] 59)=w1 at *;have HBX:=hD (Wa HBW.out (Wa HB.out hnx))
    go_region_held3 (fun wz=>wz.cell? ⟨w0.heap.size,1,none⟩=some (.int .i64 x2)∧wz.cell? ⟨w0.heap.size,2,none⟩=some (.int .i64 x3)∧wz.cell? ⟨w.heap.size,0,none⟩=some (.slice A0 n0 c0)∧wz.cell? ⟨w.heap.size,1,none⟩=some (.slice A1 n1 c1)∧wz.cell? ⟨w.heap.size,2,none⟩=some (.slice A2 n2 c2)∧wz.cell? ⟨w.heap.size,3,none⟩=some (.slice A3 n3 c3)∧wz.cell? ⟨w.heap.size,4,none⟩=some (.slice A4 n4 c4)∧wz.cell? ⟨w.heap.size,5,none⟩=some (.slice (some ⟨g,o,none⟩) n5 c5)∧wz.cell? ⟨w.heap.size,6,none⟩=some (.slice A6 n6 c6)∧wz.cell? ⟨w.heap.size,7,none⟩=some (.slice A7 n7 c7))
     (first|go_keep|exact⟨z1,z2,b0,b1,b2,b3,b4,b5,b6,b7⟩|exact HX2.out)
     ((first|(go_at_call 41;refine(HCT.out _ (Wa HBX.out ((bR _ _).drew)) x2).mono ?_;rintro e w2 ⟨rfl,hb2⟩;have HB2:=hD (Wa ((bR w1.heap.size w1).drew) hb2);have HX2:=hD (by obtain⟨⟨-,y1,y2⟩,y⟩:=HC.out _ HB2.out;exact⟨y1,y2,y⟩:w2.cell? ⟨w0.heap.size,1,none⟩=some (.int .i64 x2)∧w2.cell? ⟨w0.heap.size,2,none⟩=some (.int .i64 x3)∧w2.cell? ⟨w.heap.size,0,none⟩=some (.slice A0 n0 c0)∧w2.cell? ⟨w.heap.size,1,none⟩=some (.slice A1 n1 c1)∧w2.cell? ⟨w.heap.size,2,none⟩=some (.slice A2 n2 c2)∧w2.cell? ⟨w.heap.size,3,none⟩=some (.slice A3 n3 c3)∧w2.cell? ⟨w.heap.size,4,none⟩=some (.slice A4 n4 c4)∧w2.cell? ⟨w.heap.size,5,none⟩=some (.slice (some ⟨g,o,none⟩) n5 c5)∧w2.cell? ⟨w.heap.size,6,none⟩=some (.slice A6 n6 c6)∧w2.cell? ⟨w.heap.size,7,none⟩=some (.slice A7 n7 c7));clear hb2)|(go_at_call 40;refine(chkin_any _ _ _).mono ?_;rintro e w3 ⟨rfl,rfl⟩;try rw[HBZ.out])))
    go_wp2;go_roundw
    case rel=>exact⟨k+1,by omega,by go_num,hD (Wa HB.out (Wa hnx HB2.out)),HY⟩
    case measure=>simp[intOf];omega
  ·have hd:decide ((k:Int)<(n5:Int))=false:=by simp;omega
   have hd2:decide (k<n5)=false:=by simp;omega
   obtain rfl:n5=k:=by omega
   have HF5:=hD (show m.exps.all (expIn m)=true by have h:=HA.out;rw[← HN5.out]at h;exact h.done);obtain⟨b0,b1,b2,b3,b4,b5,b6,b7⟩:=HB8.out _ HB.out;go_wp2;go_ret;exact⟨WM (by rw[HF5.out]),Wa HBW.out HB.out⟩
end
end Go.Proofs.YtepgopnnaeoolaaGreatDoor
