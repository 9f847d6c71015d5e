/- A part of the proof. -/
import Derived.Test.YtgmgcadlkebokaaGreatDoorJ9
namespace Go.Proofs.YtgmgcadlkebokaaGreatDoor
section
open Go.RowKit
set_option maxHeartbeats 1000000
set_option maxRecDepth 100000
theorem ZbR {P:Prop}(h:P:=by
 go_enter Tryz.func17,Tryz.ntmps17;go_wp2;exact bodyPost_ret (v:=.tuple #[.agg #[.slice Ap np cp,.slice Ar nr cr],.bool true]) (by simp[results,Tryz.results17,go_sem]) rfl ⟨_,_,rfl,HP.out,HR.out,((bR _ _).alloc (nR _) _).alloc (by simp) _⟩):P:=h
theorem Zcw {P:Prop}(h:P:=by
 have h:=wN ((w.alloc a).alloc b) cs t j;have e:((w.alloc a).alloc b).heap.size=w.heap.size+2:=by simp
 rw[e]at h;exact h):P:=h
def SigPost (K:Nat→Prop) (t:List Int×List Int) (w:World) (e:Ending) (w':World):Prop :=
 ∃ p r:Value,e=.returned (.tuple #[.agg #[p,r],.bool true])∧Wh K w p t.1∧Wh K w r t.2∧Below w.heap.size w w'
theorem Vn.at_ {K:Nat→Prop} {w:World} {g o m c:Nat} {ts:List (List Int×List Int)} (h:Vn K w (.slice (some ⟨g,o,none⟩) m c) ts) (j:Nat) (hj:j<ts.length) :
 ∃ p r,w.cell? ⟨g,o+j * 2,none⟩=some p∧w.cell? ⟨g,o+j * 2+1,none⟩=some r∧Wh K w p (ts.getD j ([],[])).1∧Wh K w r (ts.getD j ([],[])).2:=by
 obtain⟨p,h1,h2⟩:=Wb.at_ h j 0 hj (by omega);obtain⟨r,h3,h4⟩:=Wb.at_ h j 1 hj (by omega);exact⟨p,r,h1,h3,h2,h4⟩
theorem V2 {w:World} {p:Addr} {u:Value} (h:w.cell? p=some u) (a b:Obj):((w.alloc a).alloc b).cell? p=some u:=by
 have hp:=wL w p h;rw[World.cell?_alloc_lt _ _ _ (by simp;omega),World.cell?_alloc_lt _ _ _ hp,h]
theorem rsig_yes (K:Nat→Prop) (w:World) (m0 m1 m2 m3 m4 m5 m6 m7:Value) (ts:List (List Int×List Int)) (is fs:List Int) (h0:Vn K w m0 ts) (h1:VE K w m1 3 2 is) (h2:VE K w m2 3 0 fs) (hn:ts.length+is.length+fs.length≤1000000)
 (f t:Nat) (hf:(f<is.length∧is.getD f 0=(t:Int))∨(is.length≤f∧f<is.length+fs.length∧fs.getD (f - is.length) 0=(t:Int))) (ht:t<ts.length) :
 Calls Tryz.prog 17 #[.agg #[m0,m1,m2,m3,m4,m5,m6,m7],.int .i64 (f:Int)] w (SigPost K (ts.getD t ([],[])) w):=by
 obtain⟨g0,o0,c0,rfl,_,_⟩:=Wb.some_ h0 (by omega);obtain⟨p,r,hp,hr,hip,hir⟩:=h0.at_ t ht;obtain⟨Ap,cp,rfl,_,_⟩:=hip.form;obtain⟨Ar,cr,rfl,_,_⟩:=hir.form;have kp:=V2 hp;have kr:=V2 hr;have HP:=hD hip;have HR:=hD hir;generalize ts.getD t ([],[])=tt at *;generalize hP:tt.1.length=np at kp HP;generalize hR:tt.2.length=nr at kr HR;clear hP hR;generalize hT:ts.length=nt at *;clear hT hp hr hip hir h0;have d0:decide ((t:Int)<0)=false:=by simp
 have d1:decide ((nt:Int)≤(t:Int))=false:=by simp;omega
 have d2:decide ((0:Int)≤(f:Int))=true:=by simp
 rcases hf with ⟨hlt,hft⟩|⟨hge,hlt,hft⟩
 ·obtain⟨g1,o1,c1,rfl,_,_⟩:=Wb.some_ h1 (by omega);have k1:=V2 (h1.at_ f hlt (by omega));rw[hft]at k1;generalize hI:is.length=ni at *;clear hI hft h1 h2;have d3:decide ((f:Int)<(ni:Int))=true:=by simp;omega
  exact ZbR
 ·obtain⟨g2,o2,c2,rfl,_,_⟩:=Wb.some_ h2 (by omega);obtain⟨A1,c1,rfl,_,_⟩:=Wb.form h1;have k1:=V2 (h2.at_ (f - is.length) (by omega) (by omega));rw[hft]at k1;obtain⟨d,hd⟩:∃ d:Nat,f=is.length+d:=⟨f - is.length,by omega⟩;rw[show f - is.length=d by omega]at k1;simp only[Nat.add_zero]at k1;generalize hI:is.length=ni at *;generalize hF:fs.length=nf at *;clear hI hF hft h1 h2;have d3:decide ((f:Int)<(ni:Int))=false:=by simp;omega
  have e1:IntKind.i64.wrap ((ni:Int)+(nf:Int))=(ni:Int)+(nf:Int):=IntWalk.i64_in _ (by omega);have d4:decide ((f:Int)<(ni:Int)+(nf:Int))=true:=by simp;omega
  have e2:IntKind.i64.wrap ((f:Int) - (ni:Int))=(d:Int):=by rw[show(f:Int) - (ni:Int)=(d:Int) by omega];exact IntWalk.i64_in _ (by omega)
  have d5:d<nf:=by omega
  clear hd;exact ZbR
theorem cell_third (w:World) (a b:Obj) (cs:Array Value) (t:TypeId) (j:Nat):(((w.alloc a).alloc b).alloc (.cells cs t)).cell? ⟨w.heap.size+2,j,none⟩=cs[j]?:=by
 exact Zcw
def BlockPost (K:Nat→Prop) (w:World) (e:Ending) (w':World):Prop :=
 ∃ (p r:Value) (l1 l2:List Int),e=.returned (.tuple #[.agg #[p,r],.bool true])∧l1.length≤3∧l2.length≤3∧Wh (fun k=>K k∨(w.heap.size≤k∧k<w'.heap.size)) w' p l1∧Wh (fun k=>K k∨(w.heap.size≤k∧k<w'.heap.size)) w' r l2∧Below w.heap.size w w'
theorem rblock_yes (K:Nat→Prop) (w:World) (m0 m1 m2 m3 m4 m5 m6 m7:Value) (ts:List (List Int×List Int)) (h0:Vn K w m0 ts) (hn:ts.length≤1000000) (h3:∀ t ∈ ts,t.1.length≤3∧t.2.length≤3) (hK:∀ k,K k→k<w.heap.size)
 (a:Int) (ha : -4≤a) (hb:a<ts.length) :
 Calls Tryz.prog 23 #[.agg #[m0,m1,m2,m3,m4,m5,m6,m7],.int .i64 a] w (BlockPost K w):=by
 rcases(show a = -1∨a = -2∨a = -3∨a = -4∨0≤a by omega) with rfl|rfl|rfl|rfl|h
 ·go_enter Tryz.func23,Tryz.ntmps23;go_wp2;exact bodyPost_ret (v:=.tuple #[.agg #[.slice none 0 0,.slice none 0 0],.bool true]) (by simp[results,Tryz.results23,go_sem]) rfl
   ⟨_,_,[],[],rfl,by simp,by simp,Wh.nil _ _,Wh.nil _ _,((bR _ _).alloc (nR _) _).alloc (by simp) _⟩
 ·go_enter Tryz.func23,Tryz.ntmps23;go_wp2;exact bodyPost_ret (v:=.tuple #[.agg #[.slice none 0 0,.slice (some ⟨w.heap.size+2,0,none⟩) 1 1],.bool true]) (by simp[results,Tryz.results23,go_sem]) rfl
   ⟨_,_,[],[127],rfl,by simp,by simp,Wh.nil _ _,⟨_,_,rfl,by unfold maxLen;simp,(fun h=>by cases h),fun _=>⟨w.heap.size+2,0,rfl,.inr ⟨by omega,by simp⟩,fun j hj=>by
    obtain rfl:j=0:=by simp at hj;omega
    exact cell_third w _ _ _ _ 0⟩⟩,(((bR _ _).alloc (nR _) _).alloc (by simp) _).alloc (by simp;omega) _⟩
 ·go_enter Tryz.func23,Tryz.ntmps23;go_wp2;exact bodyPost_ret (v:=.tuple #[.agg #[.slice none 0 0,.slice (some ⟨w.heap.size+2,0,none⟩) 1 1],.bool true]) (by simp[results,Tryz.results23,go_sem]) rfl
   ⟨_,_,[],[126],rfl,by simp,by simp,Wh.nil _ _,⟨_,_,rfl,by unfold maxLen;simp,(fun h=>by cases h),fun _=>⟨w.heap.size+2,0,rfl,.inr ⟨by omega,by simp⟩,fun j hj=>by
    obtain rfl:j=0:=by simp at hj;omega
    exact cell_third w _ _ _ _ 0⟩⟩,(((bR _ _).alloc (nR _) _).alloc (by simp) _).alloc (by simp;omega) _⟩
 ·go_enter Tryz.func23,Tryz.ntmps23;go_wp2;exact bodyPost_ret (v:=.tuple #[.agg #[.slice none 0 0,.slice (some ⟨w.heap.size+2,0,none⟩) 1 1],.bool true]) (by simp[results,Tryz.results23,go_sem]) rfl
   ⟨_,_,[],[124],rfl,by simp,by simp,Wh.nil _ _,⟨_,_,rfl,by unfold maxLen;simp,(fun h=>by cases h),fun _=>⟨w.heap.size+2,0,rfl,.inr ⟨by omega,by simp⟩,fun j hj=>by
    obtain rfl:j=0:=by simp at hj;omega
    exact cell_third w _ _ _ _ 0⟩⟩,(((bR _ _).alloc (nR _) _).alloc (by simp) _).alloc (by simp;omega) _⟩
 ·obtain⟨t,rfl⟩:∃ t:Nat,a=t:=⟨a.toNat,by omega⟩;have ht:t<ts.length:=by omega
  obtain⟨g0,o0,c0,rfl,_,_⟩:=Wb.some_ h0 (by omega);obtain⟨p,r,hp,hr,hip,hir⟩:=h0.at_ t ht;have hm:ts.getD t ([],[]) ∈ ts:=by simp[ht]
  obtain⟨hm1,hm2⟩:=h3 _ hm;obtain⟨Ap,cp,rfl,_,_⟩:=hip.form;obtain⟨Ar,cr,rfl,_,_⟩:=hir.form;have kp:=V2 hp;have kr:=V2 hr;have HP:=hD hip;have HR:=hD hir;have HK:=hD hK;generalize ts.getD t ([],[])=tt at *;generalize hP:tt.1.length=np at kp HP;generalize hR:tt.2.length=nr at kr HR;clear hP hR hm h3 hK;generalize hT:ts.length=nt at *;clear hT hp hr hip hir h0;have d1:decide ((t:Int)<(nt:Int))=true:=by simp;omega
  have d2:decide ((0:Int)≤(t:Int))=true:=by simp
  go_enter Tryz.func23,Tryz.ntmps23;go_wp2;refine bodyPost_ret (v:=.tuple #[.agg #[.slice Ap np cp,.slice Ar nr cr],.bool true]) (by simp[results,Tryz.results23,go_sem]) rfl
   ⟨_,_,tt.1,tt.2,rfl,hm1,hm2,HP.out.keep (.below ?_ HK.out) (fun k hk=>.inl hk),HR.out.keep (.below ?_ HK.out) (fun k hk=>.inl hk),?_⟩
  all_goals exact((bR _ _).alloc (nR _) _).alloc (by simp) _
end
section
open Go.RowKit
set_option maxHeartbeats 2000000
set_option maxRecDepth 100000
theorem WJ.sig {F:Fx} {w:World} {x:St} (h:WJ F w x) (f:Nat) (hf:f<2+F.fs.length) :
 ∃ tt:List Int×List Int,tt.1.length≤3∧tt.2.length≤3∧Calls Tryz.prog 17 #[.agg #[F.m0,F.m1,F.m2,F.m3,F.m4,F.m5,F.m6,F.m7],.int .i64 (f:Int)] w (SigPost (Vh F w x) tt w):=by
 obtain⟨h0,hts,h3⟩:=h.reads.types;obtain⟨h1,his,hi9⟩:=h.reads.imps;obtain⟨h2,hfs,hf9⟩:=h.reads.funs;have key:∀ t:Nat,t<9→((f<F.is.length∧F.is.getD f 0=(t:Int))∨(F.is.length≤f∧f<F.is.length+F.fs.length∧F.fs.getD (f - F.is.length) 0=(t:Int)))→∃ tt:List Int×List Int,tt.1.length≤3∧tt.2.length≤3∧Calls Tryz.prog 17 #[.agg #[F.m0,F.m1,F.m2,F.m3,F.m4,F.m5,F.m6,F.m7],.int .i64 (f:Int)] w (SigPost (Vh F w x) tt w):=fun t ht hor=>by
  have hm:F.ts.getD t ([],[]) ∈ F.ts:=by
   have:t<F.ts.length:=by omega
   simp[this]
  exact⟨_,(h3 _ hm).1,(h3 _ hm).2,rsig_yes (Vh F w x) w _ _ _ F.m3 F.m4 F.m5 F.m6 F.m7 F.ts F.is F.fs h0 h1 h2 (by omega) f t hor (by omega)⟩
 by_cases hlt:f<F.is.length
 ·have hm:F.is.getD f 0 ∈ F.is:=by simp[hlt]
  obtain⟨a1,a2⟩:=hi9 _ hm;exact key (F.is.getD f 0).toNat (by omega) (.inl ⟨hlt,by omega⟩)
 ·have hlt2:f - F.is.length<F.fs.length:=by omega
  have hm:F.fs.getD (f - F.is.length) 0 ∈ F.fs:=by simp[hlt2]
  obtain⟨a1,a2⟩:=hf9 _ hm;exact key (F.fs.getD (f - F.is.length) 0).toNat (by omega) (.inr ⟨by omega,by omega,by omega⟩)
theorem call_any {F:Fx} {w:World} {x:St} (h:WJ F w x) (ht:Nat) (hh:ht≤x.s.length) (hm:VF x 860000) :
 Calls Tryz.prog 105 #[.pointer (some ⟨F.G,0,none⟩),.int .i64 (ht:Int)] w (GPost F w x (.tuple #[]) (fun x'=>V9 x x' ht 20)):=by
 obtain⟨A1,c1,hm1,_,_⟩:=Wb.form h.reads.imps.1;obtain⟨A2,c2,hm2,_,_⟩:=Wb.form h.reads.funs.1;rw[h.reads.imps.2.1]at hm1;have hf4:=h.reads.funs.2.1;have k0:=h.c0;have k2:=h.c2;have k3:=h.c3;rw[hm1]at k2;rw[hm2]at k3;have H:=hD h;have HH:=hD hh;have HSIG:=hD (fun (wy:World) (y:St) (hy:WJ F wy y) (f:Nat) (hf:f<2+F.fs.length)=>hy.sig f hf);generalize F.fs.length=nf at *;clear h hh hm1 hm2;have e1:IntKind.i64.wrap (2+(nf:Int))=2+(nf:Int):=IntWalk.i64_in _ (by omega);obtain⟨N,hN⟩:∃ N:Nat,N=2+nf:=⟨_,rfl⟩;have hN2:(2:Int)+(nf:Int)=(N:Int):=by omega
 rw[hN2]at e1;have hN3:0<N∧N≤100:=by omega
 have HNN:Hid (N=2+nf):=hN;clear hN;go_enter Tryz.func105,Tryz.ntmps105;go_wp2_with fail
 go_quiet (fail)
 rename_i nq _
 obtain⟨hg0,hs0⟩:=H.out.below (Wn (bR _ _) nq);have c0:=hg0.c0;go_wp2_with fail
 go_at_call 15;refine(Wy hg0 N (by omega) (by omega)).mono ?_;rintro e w1 ⟨r1,hr1,rfl,x1,hg1,hs1,hn1⟩;have HF1:=hD (hn1.fine (ht:=ht) HH.out);have HS1:=hD (hs0.trans hs1);have H1:=hD hg1;have hmm1:=hm.num hn1;obtain⟨tt,hp3,hr3,hsig⟩:=HSIG.out w1 x1 hg1 r1 (by have:=HNN.out;omega);have HSG:=hD hsig;have q0:=hg1.c0;have q1:=hg1.c1;have q2:=hg1.c2;have q3:=hg1.c3;have q4:=hg1.c4;have q5:=hg1.c5;have q6:=hg1.c6;have q7:=hg1.c7;have q8:=hg1.c8;clear hg0 hs0 c0 k0 k2 k3 hg1 hs1 hn1 hsig H HSIG;go_wp2_with fail
 go_at_call 17;refine HSG.out.mono ?_;rintro e w2 ⟨p,r,rfl,hip,hir,hb⟩;obtain⟨Ap,cp,hpv,_,_⟩:=hip.form;obtain⟨Ar,cr,hrv,_,_⟩:=hir.form;obtain⟨hg2,hs2⟩:=H1.out.below hb;have H2:=hD hg2;have HIP:=hD (hs2.ints hip.wide);have HIR:=hD (hs2.ints hir.wide);have HS2:=hD (HS1.out.trans hs2);rw[hpv]at HIP ⊢;rw[hrv]at HIR ⊢;clear hip hir hpv hrv hg2 hs2 hb HSG H1 HS1 q0 q1 q2 q3 q4 q5 q6 q7 q8;generalize hLP:tt.1.length=np at *;generalize hLR:tt.2.length=nr at *;have HLP:=hD hLP;have HLR:=hD hLR;clear hLP hLR;have HG3:Hid (WJ F (w2.alloc (.cells #[.slice Ap np cp,.slice Ar nr cr] 68)) x1∧Wt F w2 x1 (w2.alloc (.cells #[.slice Ap np cp,.slice Ar nr cr] 68)) x1):=H2.out.alloc _;go_wp2_with fail
 go_at_call 100;refine(Ur HG3.out.1 _ tt.1 (HG3.out.2.ints HIP.out) (by rw[HLP.out];exact hp3) ht HF1.out.1 (hmm1.le (by omega))).mono ?_;rintro e w4 ⟨rfl,x4,hg4,hs4,hu4,hz4⟩;rw[HLP.out]at hz4;have b0:=H2.out.new_cell _ _ hs4 0;have b1:=H2.out.new_cell _ _ hs4 1;simp only[List.getElem?_toArray,List.getElem?_cons_zero,List.getElem?_cons_succ]at b0 b1;have HS4:=hD (HG3.out.2.trans hs4);have HF4:=hD (HF1.out.trans (hu4.fine (ht:=ht) (by omega)));have hm4:=hmm1.up hu4;have H4:=hD hg4;have HNC:=hD (fun (wy:World) (y:St) (hy:Wt F w4 x4 wy y)=>And.intro (H2.out.new_cell _ _ (hs4.trans hy) 0) (H2.out.new_cell _ _ (hs4.trans hy) 1));clear hg4 hs4 hu4 HF1 HG3 hmm1;go_wp2_with fail
 go_at_call 20;refine(Va H4.out _ _ _ _ (hm4.le (by omega))).mono ?_;rintro e w5 ⟨rfl,x5,hg5,hs5,hn5⟩;obtain⟨d0,d1⟩:=HNC.out _ _ hs5;simp only[List.getElem?_toArray,List.getElem?_cons_zero,List.getElem?_cons_succ]at d0 d1;have hz5:ht+np≤x5.s.length:=by rw[hn5.1];exact hz4
 have HS5:=hD (HS4.out.trans hs5);have HF5:=hD (HF4.out.trans (hn5.fine (ht:=ht) HF4.out.1));have hm5:=hm4.num hn5;have H5:=hD hg5;have HI5:=hD (And.intro (HS5.out.ints HIP.out) (HS5.out.ints HIR.out));clear hg5 hs5 hn5 H4 HS4 HF4 hm4 HNC b0 b1 HIP HIR;go_wp2_with fail
 go_at_call 101;refine(swap_any H5.out _ _ tt.1 tt.2 HI5.out.1 HI5.out.2 (by rw[HLP.out];omega) (by rw[HLR.out];exact hr3) (hm5.le (by omega))).mono ?_;rintro e w6 ⟨rfl,x6,hg6,hs6,z1,z2,z3,z4⟩;rw[HLP.out,HLR.out]at z1;have HS6:=hD (HS2.out.trans (HS5.out.trans hs6));have H6:=hD hg6;have HZ6:Hid (x6.s.length+np=x5.s.length+nr∧x6.c.length=x5.c.length∧x6.nl=x5.nl∧x6.left=x5.left):=⟨z1,z2,z3,z4⟩;clear z1 z2 z3 z4 hg6 hs6;go_wp2;obtain⟨f1,f2,f3,f4⟩:=HF5.out;obtain⟨z1,z2,z3,z4⟩:=HZ6.out;refine bodyPost_end (results_none rfl _ _ _) rfl ⟨rfl,_,H6.out,HS6.out,by omega,by omega,z3.trans f3,z4.trans f4⟩
end
section
open Go.RowKit
set_option maxHeartbeats 1000000
set_option maxRecDepth 100000
def AnyBool (w:World) (e:Ending) (w':World):Prop:=∃ b:Bool,e=.returned (.bool b)∧Below w.heap.size w w'
theorem ksame_any (K:Nat→Prop) (w:World) (v1 v2:Value) (q1 q2:List Int) (h1:Wh K w v1 q1) (h2:Wh K w v2 q2):Calls Tryz.prog 121 #[v1,v2] w (AnyBool w):=by
 obtain⟨A1,c1,hv1,hm1,_⟩:=h1.form;obtain⟨A2,c2,hv2,_,_⟩:=h2.form;unfold maxLen at hm1;rw[hv1]at h1 ⊢;rw[hv2]at h2 ⊢;have H1:=hD h1;have H2:=hD h2;clear h1 h2 hv1 hv2;generalize hQ1:q1.length=n at *;generalize hQ2:q2.length=m at *;have HQ1:=hD hQ1;have HQ2:=hD hQ2;clear hQ1 hQ2;by_cases hnm:n=m
 ·subst hnm;go_enter Tryz.func121,Tryz.ntmps121;go_wp2_with fail
  go_loopw [5] (fun i wr=>∃ k a:Nat,k≤n∧i=.int .i64 (k:Int)∧wr=w.drewN a) (fun i _=>n - (intOf i).toNat)
  case atStart=>exact⟨0,0,nZ _,rfl,rfl⟩
  case round =>
   obtain⟨k,a,hk,rfl,rfl⟩:=hrel;by_cases hlt:k<n
   ·have hkn:(0:Int)≤k:=Int.natCast_nonneg _;have hd:decide ((k:Int)<(n:Int))=true:=by simp;omega
    obtain⟨g1,o1,c3,he,_,_⟩:=H1.out.some_ (by rw[HQ1.out];omega);simp only[vI]at he;obtain⟨rfl,-,-⟩:=he;obtain⟨g2,o2,c4,he,_,_⟩:=H2.out.some_ (by rw[HQ2.out];omega);simp only[vI]at he;obtain⟨rfl,-,-⟩:=he;have k1:=H1.out.at_ k hlt;have k2:=H2.out.at_ k hlt;generalize q1.getD k 0=y at k1;generalize q2.getD k 0=z at k2;go_wp2_with fail
    go_quiet (fail)
    by_cases hyz:y=z
    ·have hd2:(y != z)=false:=by simpa using hyz
     go_wp2;go_roundw
     case rel=>exact⟨k+1,_,by omega,by go_num,rfl⟩
     case measure=>simp[intOf];omega
    ·have hd2:(y != z)=true:=by simpa using hyz
     go_wp2;go_ret;exact⟨false,rfl,Wn (Wn (bR _ _) _) _⟩
   ·have hd:decide ((k:Int)<(n:Int))=false:=by simp;omega
    go_wp2;go_ret;exact⟨true,rfl,Wn (bR _ _) _⟩
 ·have hd:((n:Int) != (m:Int))=true:=by simp;omega
  go_enter Tryz.func121,Tryz.ntmps121;go_wp2;go_ret;exact⟨false,rfl,bR _ _⟩
end
end Go.Proofs.YtgmgcadlkebokaaGreatDoor
