/- A part of the proof. -/
import Derived.Test.YtepgopnnaeoolaaGreatDoorJ9
namespace Go.Proofs.YtepgopnnaeoolaaGreatDoor
open Go.RowKit
set_option maxHeartbeats 8000000
set_option maxRecDepth 100000
theorem Zi {P:Prop}(h:P:=by
 obtain⟨g,o,c,hlv,hlc,hcm,_⟩:=H1.out.labs (by rw[HF1.out.2.2.1];exact hn);have c13:=H1.out.c13;have hnn:x1.nl=nl:=by rw[HF1.out.2.2.1,HNL.out]
 rw[hlv,hnn]at c13;rw[hnn]at hlc;unfold maxLen at hcm;have HNN:=hD hnn;clear hlv hnn;go_wp2_with fail
 go_region_held3 (fun w'=>w'.cell? ⟨F.G,0,none⟩=some (.pointer (some ⟨F.T,0,none⟩))∧w'.cell? ⟨F.G,13,none⟩=some (.slice (some ⟨g,o,none⟩) nl c))
  (first|go_keep|exact⟨hg2.c0,HC13.out⟩)
  ((go_at_call 9;refine(next_gen2 H1.out.drew.1 nl (by omega) (by omega)).mono ?_;rintro e w2 ⟨r2,hr2,rfl,x2,hg2,hs2,hn2,hc13⟩;have HC13:Hid (w2.cell? ⟨F.G,13,none⟩=some (.slice (some ⟨g,o,none⟩) nl c)):=(by rw[Hid,hc13];exact c13);clear hc13))
 obtain⟨j,hj⟩:∃ j:Nat,nl=j+r2+1:=⟨nl - r2 - 1,by omega⟩;have hn1l:x2.nl=nl:=by rw[hn2.2.2.1,HNN.out]
 obtain⟨g1,o1,c1,hlv1,_,_,hlab⟩:=hg2.labs (by rw[hn1l];omega);obtain⟨u,l,hu,hl3,hul⟩:=hlab j (by rw[hn1l];omega);have c13':=hg2.c13;rw[hlv1,hn1l]at c13';have he:=c13'.symm.trans HC13.out;simp only[Option.some.injEq,vI,Addr.mk.injEq,and_true,true_and]at he;obtain⟨⟨rfl,rfl⟩,rfl⟩:=he;replace hs2:=H1.out.drew.2.trans hs2;clear hlab hlv1 c13 HC13;obtain⟨Au,cu,hu2,_,_⟩:=hul.form;rw[hu2]at hu hul;have HUL:=hD hul;clear hul hu2;generalize hLL:l.length=ll at *;have HLL:=hD hLL;clear hLL;have HN1L:=hD hn1l;clear hn1l;have H2:=hD hg2;have HS2:=hD (HS1.out.trans hs2);have HF2:=hD (HF1.out.trans (hn2.fine (ht:=ht) HF1.out.1));have hm2:=hm1.num hn2;have c0:=H2.out.c0;clear hg2 hs2 H1 HS1 HF1 hm1;have e1:IntKind.i64.wrap ((nl:Int) - 1)=(nl:Int) - 1:=IntWalk.i64_in _ (by omega);have e2:IntKind.i64.wrap ((nl:Int) - 1 - (r2:Int))=(j:Int):=by rw[show(nl:Int) - 1 - (r2:Int)=(j:Int) by omega];exact IntWalk.i64_in _ (by omega)
 have hjn:(j:Int)<(nl:Int):=by omega
 have hjn2:j<nl:=by omega
 have HJ:=hD hj;clear hj;go_wp2_with fail
 go_still_tail 16,(by kernel_rfl)
 change wpList _ _ _ _ _ w2.drew;obtain⟨hg3,hs3⟩:=H2.out.drew;have HUD:=hD (hs3.ints HUL.out);obtain⟨x3,hx3⟩:∃ y,y=x2:=⟨_,rfl⟩;rw[← hx3]at hg3 hs3 HUD;replace hs3:Wv F w2 x2 w2.drew x3:=by rw[← hx3];exact hs3
 generalize w2.drew=w3 at hg3 hs3 HUD ⊢;have H3:=hD hg3;have HS3:=hD (HS2.out.trans hs3);have HF3:Hid (V3 x x3 ht 0):=by rw[hx3];exact HF2
 have hm3:Vs x3 850000:=by rw[hx3];exact hm2
 clear hx3 hg3 hs3 H2 HS2 HF2 hm2 HUL hu;go_wp2_with fail
 go_at_call 47;refine(Uo H3.out _ l HUD.out (by rw[HLL.out];exact hl3) ht HF3.out.1 (hm3.le (by omega))).mono ?_;rintro e w4 ⟨rfl,x4,hg4,hs4,hu4,hz4⟩;have H4:=hD hg4;have HS4:=hD (HS3.out.trans hs4);have HF4:=hD (HF3.out.trans (hu4.fine (ht:=ht) (by omega)));have hm4:=hm3.up hu4;have c0:=H4.out.c0;clear hg4 hs4 H3 HS3 HF3 hm3;go_wp2_with fail
 go_at_call 14;refine(WU H4.out _ _ _ _ (hm4.le (by omega))).mono ?_;rintro e w5 ⟨rfl,x5,hg5,hs5,hn5⟩;have H5:=hD hg5;have HS5:=hD (HS4.out.trans hs5);have HF5:=hD (HF4.out.trans (hn5.fine (ht:=ht) HF4.out.1));have hm5:=hm4.num hn5;have c0:=H5.out.c0;clear hg5 hs5 H4 HS4 HF4 hm4;go_wp2_with fail
 go_at_call 79;refine(dead_any H5.out ht HF5.out.1 (hm5.le (by omega))).mono ?_;rintro e w6 ⟨rfl,x6,hg6,hs6,hj6⟩;have H6:=hD hg6;have HS6:=hD (HS5.out.trans hs6);have HF6:=hD (HF5.out.trans (hj6.fine));have hm6:=hj6.most hm5;have c0:=H6.out.c0;clear hg6 hs6 H5 HS5 HF5 hm5;go_wp2;go_ret;exact⟨_,rfl,_,H6.out,HS6.out,HF6.out.le (by omega)⟩):P:=h
theorem Zj {P:Prop}(h:P:=by
 have HGB:Hid (WD { F with E:=fun k=>(Value.slice At n ct).ownBlock=some k } wr x4):=H4.out.bar hb _ (fun k hk=>.inr (HTB.out k hk));have hmv:=hm4;go_wp2_with fail
 go_at_call 27;refine(value_any HGB.out 127 (hm4.le (by omega))).mono ?_;rintro e w6 ⟨rfl,x6,hg6,hs6,hn6⟩;have hsr:=(H4.out.below hb).2;have HO6:=hD (Wt HO.out hs6.keeps (fun q hq=>⟨(HO.out.lt q hq).2,H4.out.new_free (HTB.out q hq)⟩));have HP6:Hid (∀ q,(Value.slice At n ct).ownBlock=some q→Ud F w6 x6 q):=fun q hq=>hs6.mono q ⟨(HO.out.lt q hq).2,H4.out.new_free (HTB.out q hq)⟩;have HS6:Hid (Wv F w4 x4 w6 x6):=hsr.trans ⟨hs6.keeps,hs6.mono⟩;have HF6:=hD (HF4.out.trans (hn6.fine (ht:=ht) HF4.out.1));have hm6:=hm4.num hn6;have H6:=hD hg6;clear hg6 hs6 hn6 hsr;go_wp2_with (at_builtin;refine Wl rfl (.tmp 129) (.tmp 131) 22 3 rfl _ 1 8 Tryz.underlying22 Tryz.infoInt rfl (by decide) (by decide) (.slice At n ct) n (xs.map (Value.int .i64)) (by rfl) (HO6.out.alloc _) _ 1 [.int .i64 (r2:Int)] (by rfl) (by rfl) (WS w6 _ _ 1 1) (WP [(r2:Int)]) (by omega) ?_;intro v' w7 hown hgrw hat;obtain⟨A7,c7,rfl⟩:=Wc hown)
 obtain⟨hg7,hk7⟩:=H6.out.unbar _ hgrw (fun k hk=>⟨hk,(HP6.out k hk).2⟩) (fun k hk=>absurd hk (HE.out k));have hs7:Wv F w4 x4 w7 x6:=⟨HS6.out.keeps.trans (hk7.mono fun k hk=>⟨(HS6.out.mono k hk).1,fun e=>by have:=HTB.out k e;have:=hk.1;omega⟩),fun k hk=>⟨WW (HS6.out.mono k hk).1 hk7.size,(HS6.out.mono k hk).2⟩⟩;have hlx:(xs++[(r2:Int)]).length=n+1:=by rw[List.length_append,HXN.out];rfl
 have hl7:Wg (W9 F w7 x6) w7 (.slice A7 (n+1) c7) (xs++[(r2:Int)]):=owns_intsK (base:=0) (e:=3) (by rw[hlx,List.map_append];exact hown) (by omega) (fun q hq=>⟨⟨(hown.lt q hq).2,by
  rcases hat with h|h
  ·exact(HP6.out q (h ▸ hq)).2
  ·have e:=h.symm.trans hq;simp at e;exact(H6.out.new_free (F:=_) (k:=q) (by omega))⟩,HE.out q⟩)
 have H7:=hD hg7;have HS7:=hD (HS4.out.trans hs7);have HF7:=HF6;have hm7:=hm6;have HL7:=hD hl7;have HK7:=hD (ok_l (q:=xs++[(r2:Int)]) (by rw[hlx];omega) (by rw[hlx];omega) (fun z hz=>by rcases List.mem_append.1 hz with hz|hz;exact HZX.out z hz;rw[List.mem_singleton.1 hz];omega));clear hg7 hk7 hs7 hl7 hown hgrw hat hlx;obtain⟨x7,hx7⟩:∃ y,y=x6:=⟨_,rfl⟩;rw[← hx7]at H7 HS7 HF7 hm7 HL7;clear hx7 H6 HS6 HF6 hm6 HP6 HO6;go_wp2_with fail
 go_at_call 14;refine(put_with H7.out _ _ _ _ _ ⟨_,HL7.out,HK7.out⟩ (hm7.le (by omega))).mono ?_;rintro e w8 ⟨rfl,x8,hg8,hs8,hn8⟩;have H8:=hD hg8;have HS8:=hD (HS7.out.trans hs8);have HF8:=hD (HF7.out.trans (hn8.fine (ht:=ht) HF7.out.1));have hm8:=hm7.num hn8;have c0:=H8.out.c0;clear hg8 hs8 H7 HS7 HF7 hm7;go_wp2_with fail
 go_at_call 79;refine(dead_any H8.out ht HF8.out.1 (hm8.le (by omega))).mono ?_;rintro e w9 ⟨rfl,x9,hg9,hs9,hj9⟩;have H9:=hD hg9;have HS9:=hD (HS8.out.trans hs9);have HF9:=hD (HF8.out.trans (hj9.fine));have hm9:=hj9.most hm8;have c0:=H9.out.c0;clear hg9 hs9 H8 HS8 HF8 hm8;go_wp2;go_ret;exact⟨_,rfl,_,H9.out,HS9.out,HF9.out.le (by omega)⟩):P:=h
theorem ZF {P:Prop}(h:P:=by
 go_wp2_with fail
 go_at_call 14;refine(WU H2.out _ _ _ _ (hm2.le (by omega))).mono ?_;rintro e w3 ⟨rfl,x3,hg3,hs3,hn3⟩;have H3:=hD hg3;have HS3:=hD (HS2.out.trans hs3);have HF3:=hD (HF2.out.trans (hn3.fine (ht:=ht) HF2.out.1));have hm3:=hm2.num hn3;have c0:=H3.out.c0;clear hg3 hs3 H2 HS2 HF2 hm2;go_wp2_with fail
 go_at_call 79;refine(dead_any H3.out ht HF3.out.1 (hm3.le (by omega))).mono ?_;rintro e w4 ⟨rfl,x4,hg4,hs4,hj4⟩;have H4:=hD hg4;have HS4:=hD (HS3.out.trans hs4);have HF4:=hD (HF3.out.trans (hj4.fine));have hm4:=hj4.most hm3;have c0:=H4.out.c0;clear hg4 hs4 H3 HS3 HF3 hm3;go_wp2;go_ret;exact⟨_,rfl,_,H4.out,HS4.out,HF4.out.le (by omega)⟩):P:=h
def LeavePost (F:Fx) (w:World) (x:St) (ht d:Nat) (e:Ending) (w':World):Prop:=∃ b:Bool,e=.returned (.bool b)∧∃ x',WD F w' x'∧Wv F w x w' x'∧V3 x x' ht d
theorem WD.c16 {F:Fx} {w:World} {x:St} (h:WD F w x):w.cell? ⟨F.G,16,none⟩=some (.bool true):=h.cell 16
theorem WD.bar {F:Fx} {w wr:World} {x:St} (h:WD F w x) (hb:Below w.heap.size w wr) (E':Nat→Prop) (hE:∀ k,E' k→F.E k∨w.heap.size≤k):WD { F with E:=E' } wr x:=by
 obtain⟨h2,_⟩:=h.below hb;refine⟨h2.hg,h2.ht,h2.ne,h2.so,h2.sp,h2.co,h2.cp,h2.le,?_⟩;have hr:Reads F (fun k=>W9 { F with E:=E' } wr x k) wr x.lv x.nl x.c:=h.reads.keep (.below hb fun k hk=>hk.1.1) fun k hk=>⟨⟨WW hk.1.1 hb.size,hk.1.2⟩,fun e=>by
  rcases hE k e with h1|h1
  ·exact hk.2 h1
  ·exact absurd hk.1.1 (Nat.not_lt_of_le h1)⟩
 exact⟨hr.tape,hr.loc,hr.own,hr.types,hr.imps,hr.funs,hr.mems,hr.globs,hr.datas,hr.labs,hr.code,hr.nest⟩
theorem WD.unbar {F:Fx} {w6 w7:World} {x:St} {E':Nat→Prop} (h:WD { F with E:=E' } w6 x) (o:Obj) {row:Option Nat} (hg:(w6.alloc o).grownBy w7 row) (hrow:∀ k,row=some k→E' k∧¬ priv F x k) (hE:∀ k,F.E k→E' k) :
 WD F w7 x∧Wf (fun k=>k<w6.heap.size∧row≠some k) w6 w7:=by
 have hs:(w6.alloc o).heap.size=w6.heap.size+1:=by simp
 have hk:Wf (fun k=>k<w6.heap.size∧row≠some k) w6 w7:=((Wf.alloc w6 (fun _ h=>h) o).mono fun _ h=>h.1).trans (.grown hg (fun k hk=>by rw[hs];have:=hk.1;omega) (fun k e hk=>hk.2 e));obtain⟨l1,l2,l3,l4⟩:=h.lts;have hr:Reads F (fun k=>W9 F w7 x k) w7 x.lv x.nl x.c:=by
  have hr0:=h.reads.keep (K':=fun k=>W9 F w7 x k) (w':=w7) (hk.mono fun k hk=>⟨hk.1.1,fun e=>hk.2 (hrow k e).1⟩) fun k hk'=>⟨⟨WW hk'.1.1 hk.size,hk'.1.2⟩,fun e=>hk'.2 (hE k e)⟩;exact⟨hr0.tape,hr0.loc,hr0.own,hr0.types,hr0.imps,hr0.funs,hr0.mems,hr0.globs,hr0.datas,hr0.labs,hr0.code,hr0.nest⟩
 exact⟨⟨(hk.block _ ⟨l1,fun e=>(hrow _ e).2 (.inl rfl)⟩).trans h.hg,(hk.block _ ⟨l2,fun e=>(hrow _ e).2 (.inr (.inl rfl))⟩).trans h.ht,h.ne,Wt h.so hk fun g hg=>⟨l3 g hg,fun e=>(hrow _ e).2 (.inr (.inr (.inl hg)))⟩,h.sp,
  Wt h.co hk fun g hg=>⟨l4 g hg,fun e=>(hrow _ e).2 (.inr (.inr (.inr hg)))⟩,h.cp,h.le,hr⟩,hk⟩
theorem owns_intsK {K:Nat→Prop} {w:World} {base:Nat} {e:TypeId} {v:Value} {l:List Int} (h:w.ownsRow base e 1 v l.length (l.map (Value.int .i64))) (hl:l.length≤1000000) (hK:∀ g,v.ownBlock=some g→K g):Wg K w v l:=by
 rcases h.2 with ⟨rfl,h0⟩|⟨g,cap,cur,rfl,_⟩
 ·obtain rfl:l=[]:=List.eq_nil_of_length_eq_zero h0;exact Wg.nil _ _
 ·refine⟨_,cap,rfl,by unfold maxLen;omega,(fun h=>by cases h),fun _=>⟨g,0,rfl,hK g rfl,fun j hj=>?_⟩⟩;rw[Nat.zero_add,h.cellAt j (by rw[Nat.mul_one];exact hj)];simp[hj]
theorem leave_any {F:Fx} {w:World} {x:St} (h:WD F w x) (ht:Nat) (hh:ht≤x.s.length) (hn:0<x.nl) (hn8:x.nl≤8) (hm0:Vs x 850000) (hE:∀ k,¬ F.E k) :
 Calls Tryz.prog 53 #[.pointer (some ⟨F.G,0,none⟩),.int .i64 (ht:Int)] w (LeavePost F w x ht 40):=by
 have c0:=h.c0;have H0:=hD h;have HS0:=hD (Wv.refl F w x);have HF0:=hD (V3.refl hh);clear h hh;obtain⟨x0,hx0⟩:∃ x0,x0=x:=⟨x,rfl⟩;obtain⟨nl,hNL⟩:∃ nl,x.nl=nl:=⟨_,rfl⟩;have HNL:=hD hNL;have hnl0:0<nl:=by omega
 have hnl8:nl≤8:=by omega
 have HE:=hD hE;clear hNL hx0 hn8 hE;go_enter Tryz.func53,Tryz.ntmps53;go_wp2_with fail
 go_at_call 9;refine(WA H0.out 6 (by omega) (by omega)).mono ?_;rintro e w1 ⟨r1,hr1,rfl,x1,hg1,hs1,hn1⟩;have H1:=hD hg1;have HS1:=hD (HS0.out.trans hs1);have HF1:=hD (HF0.out.trans (hn1.fine (ht:=ht) HF0.out.1));have hm1:=hm0.num hn1;have c0:=H1.out.c0;clear hg1 hs1 H0 HS0 HF0 hm0;rcases(show r1=0∨r1=1∨r1=2∨r1=3∨r1=4∨r1=5 by omega) with rfl|rfl|rfl|rfl|rfl|rfl
 case inr.inr.inr.inr.inl =>
  obtain⟨A1,c1,hm1v,_,_⟩:=Wd.form H1.out.reads.imps.1;obtain⟨A2,c2,hm2v,_,_⟩:=Wd.form H1.out.reads.funs.1;rw[H1.out.reads.imps.2.1]at hm1v;have hf4:=H1.out.reads.funs.2.1;have HSIG:=hD (fun (wy:World) (y:St) (hy:WD F wy y) (f:Nat) (hf:f<2+F.fs.length)=>hy.sig f hf);generalize F.fs.length=nf at *;have HC2:Hid (∀ (wy:World) (y:St),WD F wy y→wy.cell? ⟨F.G,2,none⟩=some (.slice A1 2 c1)):=fun wy y hy=>by rw[hy.c2,hm1v]
  have HC3:Hid (∀ (wy:World) (y:St),WD F wy y→wy.cell? ⟨F.G,3,none⟩=some (.slice A2 nf c2)):=fun wy y hy=>by rw[hy.c3,hm2v]
  have HM1:=hD hm1v;have HM2:=hD hm2v;clear hm1v hm2v;have e1:IntKind.i64.wrap (2+(nf:Int))=2+(nf:Int):=IntWalk.i64_in _ (by omega);obtain⟨N,hN⟩:∃ N:Nat,N=2+nf:=⟨_,rfl⟩;have hN2:(2:Int)+(nf:Int)=(N:Int):=by omega
  rw[hN2]at e1;have hN3:0<N∧N≤100:=by omega
  have HNN:Hid (N=2+nf):=hN;clear hN hf4;have hn0:((N:Int)==0)=false:=by simp;omega
  have hn1':¬ (N:Int)=0:=by omega
  have hn2':¬ N=0:=by omega
  have hn3':(0:Int)≤(N:Int):=by omega
  go_wp2_with fail
  go_loopw [10] (fun i wr=>∃ (k:Nat) (y:St),k≤N∧i=.int .i64 (k:Int)∧Hid (WD F wr y)∧Hid (Wv F w x wr y)∧Hid (V3 x y ht 0)∧Vs y 850000) (fun i _=>N - (intOf i).toNat)
  case atStart=>exact⟨0,x1,nZ _,rfl,H1,HS1,HF1,hm1⟩
  case round =>
   clear H1 HS1 HF1 hm1 c0;obtain⟨k,x20,hk,rfl,H20,HS20,HF20,hm20⟩:=hrel;have k2:=HC2.out _ _ H20.out;have k3:=HC3.out _ _ H20.out;have k16:=H20.out.c16;have hkn:(0:Int)≤k:=Int.natCast_nonneg _;by_cases hlt:k<N
   ·have hd1:decide ((k:Int)<(N:Int))=true:=by simp;omega
    go_wp2_with fail
    go_quiet (fail)
    rename_i nq _
    obtain⟨hg21,hs21⟩:=H20.out.below (Wj (bR _ _) nq);generalize wr.drewN nq=w21 at hg21 hs21 ⊢;have HS21:=hD (HS20.out.trans hs21);have H21:=hD hg21;have c0:=hg21.c0;have q2:=HC2.out _ _ hg21;have q3:=HC3.out _ _ hg21;clear hg21 hs21 H20 HS20 k2 k3 k16;go_wp2_with fail
    go_region_held3 (fun w'=>w'.cell? ⟨F.G,0,none⟩=some (.pointer (some ⟨F.T,0,none⟩))∧w'.cell? ⟨F.G,2,none⟩=some (.slice A1 2 c1)∧w'.cell? ⟨F.G,3,none⟩=some (.slice A2 nf c2))
     (first|go_keep|exact⟨hg22.c0,HC2.out _ _ hg22,HC3.out _ _ hg22⟩)
     ((go_at_call 9;refine(WA H21.out.drew.1 3 (by omega) (by omega)).mono ?_;rintro e w22 ⟨r22,hr22,rfl,x22,hg22,hs22,hn22⟩;have e2:((k:Int)+(r22:Int)).tmod (N:Int)=((k:Int)+(r22:Int)) % (N:Int):=Int.tmod_eq_emod_of_nonneg (by omega);have e3:IntKind.i64.wrap ((k:Int)+(r22:Int))=(k:Int)+(r22:Int):=IntWalk.i64_in _ (by omega)))
    have H22:=hD hg22;have HS22:=hD (HS21.out.trans (H21.out.drew.2.trans hs22));have HF22:=hD (HF20.out.trans (hn22.fine (ht:=ht) HF20.out.1));have hm22:=hm20.num hn22;obtain⟨tt,hp3,hr3,hsig⟩:=HSIG.out w22 x22 hg22 ((k+r22) % N) (by rw[← HNN.out];exact Nat.mod_lt _ (by omega));rw[show(((k+r22) % N:Nat):Int)=((k:Int)+(r22:Int)) % (N:Int) by rw[Int.natCast_emod,Int.natCast_add]]at hsig;rw[HM1.out,HM2.out]at hsig;have HSG:=hD hsig;have q0:=hg22.c0;have q1:=hg22.c1;replace q2:=HC2.out _ _ hg22;replace q3:=HC3.out _ _ hg22;have q4:=hg22.c4;have q5:=hg22.c5;have q6:=hg22.c6;have q7:=hg22.c7;have q8:=hg22.c8;clear hg22 hs22 hn22 hsig c0 H21 HS21 HF20 hm20;go_wp2_with fail
    go_at_call 11;refine HSG.out.mono ?_;rintro e w23 ⟨p,r,rfl,hip,hir,hbs⟩;obtain⟨Ap,cp,hpv,_,_⟩:=hip.form;obtain⟨Ar,cr,hrv,_,_⟩:=hir.form;obtain⟨hg23,hs23⟩:=H22.out.below hbs;have HIP:=hD (hs23.ints hip.wide);have HIR:=hD (hs23.ints hir.wide);rw[hpv]at HIP ⊢;rw[hrv]at HIR ⊢;have H23:=hD hg23;have HS23:=hD (HS22.out.trans hs23);clear hip hir hpv hrv hg23 hs23 hbs HSG H22 HS22 q0 q1 q2 q3 q4 q5 q6 q7 q8;generalize hLP:tt.1.length=np at *;generalize hLR:tt.2.length=nr at *;have HLP:=hD hLP;have HLR:=hD hLR;clear hLP hLR;have HG24:Hid (WD F (w23.alloc (.cells #[.slice Ap np cp,.slice Ar nr cr] 66)) x22∧Wv F w23 x22 (w23.alloc (.cells #[.slice Ap np cp,.slice Ar nr cr] 66)) x22):=H23.out.alloc _;obtain⟨hro0,hro3⟩:=HG24.out.1.reads.own;obtain⟨Ao,co,hov,_,_⟩:=hro0.form;have c11:=HG24.out.1.c11;rw[hov]at c11;have HRO:=hD hro0.wide;rw[hov]at HRO;clear hro0 hov;generalize hRL:F.ro.length=rl at *;have HRL:=hD hRL;clear hRL;have HIP24:=hD (HG24.out.2.ints HIP.out);have HIR24:=hD (HG24.out.2.ints HIR.out);have HNC:=hD (fun (wy:World) (y:St) (hy:Wv F (w23.alloc (.cells #[.slice Ap np cp,.slice Ar nr cr] 66)) x22 wy y)=>And.intro (H23.out.new_cell _ _ hy 0) (H23.out.new_cell _ _ hy 1));clear HIP HIR;go_wp2_with fail
    obtain⟨a0,a1⟩:=HNC.out _ _ (Wv.refl _ _ _);simp only[List.getElem?_toArray,List.getElem?_cons_zero,List.getElem?_cons_succ]at a0 a1;generalize hB:w23.heap.size=B at *;clear hB;generalize w23.alloc (.cells #[.slice Ap np cp,.slice Ar nr cr] 66)=w24 at *
    go_still_tail 7,(by kernel_rfl)
    change wpList _ _ _ _ _ w24.drew;have HG25:=hD HG24.out.1.drew;have HIP25:=hD (HG25.out.2.ints HIP24.out);have HIR25:=hD (HG25.out.2.ints HIR24.out);have HRO25:=hD (HG25.out.2.ints HRO.out);have HNC25:=hD (fun (wy:World) (y:St) (hy:Wv F w24.drew x22 wy y)=>HNC.out wy y (HG24.out.1.drew.2.trans hy));have HS25:=hD (HS23.out.trans (HG24.out.2.trans HG24.out.1.drew.2));clear HG24 HIP24 HIR24 HRO HNC c11 a0 a1;generalize w24.drew=w25 at HG25 HIP25 HIR25 HRO25 HNC25 HS25 ⊢;go_wp2_with fail
    go_at_call 78;refine(ksame_any _ _ _ _ tt.2 F.ro HIR25.out HRO25.out).mono ?_;rintro e w26 ⟨bb,rfl,hbb⟩;obtain⟨hg26,hs26⟩:=HG25.out.1.below hbb;obtain⟨b0,b1⟩:=HNC25.out _ _ hs26;simp only[List.getElem?_toArray,List.getElem?_cons_zero,List.getElem?_cons_succ]at b0 b1;have H26:=hD hg26;have HS26:=hD (HS25.out.trans hs26);have HF26:=HF22;have hm26:=hm22;have HI26:=hD (hs26.ints HIP25.out);obtain⟨x26,hx26⟩:∃ y,y=x22:=⟨_,rfl⟩;rw[← hx26]at H26 HS26 HF26 hm26 HI26;clear hg26 hs26 hbb hx26 HG25 HIP25 HIR25 HRO25 HNC25 HS25 HF22 hm22 H23 HS23;cases bb
    case' true =>
     go_wp2_with fail
     go_at_call 47;refine(Uo H26.out _ tt.1 HI26.out (by rw[HLP.out];exact hp3) ht HF26.out.1 (hm26.le (by omega))).mono ?_;rintro e w27 ⟨rfl,x27,hg27,hs27,hu27,hz27⟩;have H27:=hD hg27;have HS27:=hD (HS26.out.trans hs27);have HF27:=hD (HF26.out.trans (hu27.fine (ht:=ht) (by omega)));have hm27:=hm26.up hu27;have c0:=H27.out.c0;clear hg27 hs27 H26 HS26 HF26 hm26;go_wp2_with fail
     go_at_call 14;have hbA:(0:Int)≤((k:Int)+(r22:Int)) % (N:Int)∧((k:Int)+(r22:Int)) % (N:Int)<(N:Int):=⟨Int.emod_nonneg _ (by omega),Int.emod_lt_of_pos _ (by omega)⟩;refine(WU H27.out _ _ _ _ (hm27.le (by omega))).mono ?_;clear hbA;rintro e w28 ⟨rfl,x28,hg28,hs28,hn28⟩;have H28:=hD hg28;have HS28:=hD (HS27.out.trans hs28);have HF28:=hD (HF27.out.trans (hn28.fine (ht:=ht) HF27.out.1));have hm28:=hm27.num hn28;have c0:=H28.out.c0;clear hg28 hs28 H27 HS27 HF27 hm27;go_wp2_with fail
     go_at_call 79;refine(dead_any H28.out ht HF28.out.1 (hm28.le (by omega))).mono ?_;rintro e w29 ⟨rfl,x29,hg29,hs29,hj29⟩;have H29:=hD hg29;have HS29:=hD (HS28.out.trans hs29);have HF29:=hD (HF28.out.trans (hj29.fine));have hm29:=hj29.most hm28;have c0:=H29.out.c0;clear hg29 hs29 H28 HS28 HF28 hm28;go_wp2;go_ret;exact⟨_,rfl,_,H29.out,HS29.out,HF29.out.le (by omega)⟩
    case' false =>
     go_wp2;go_roundw
     case rel=>exact⟨k+1,x26,by omega,by go_num,H26,HS26,HF26,hm26⟩
     case measure=>simp[intOf];omega
   ·have hd1:decide ((k:Int)<(N:Int))=false:=by simp;omega
    go_wp2_with fail
    go_quiet (fail)
    rename_i nq _
    obtain⟨hg21,hs21⟩:=H20.out.below (Wj (bR _ _) nq);have HG21:=hD hg21;have HS21:=hD (HS20.out.trans hs21);clear hg21 hs21;go_wp2;go_ret;exact⟨_,rfl,_,HG21.out,HS21.out,HF20.out.le (by omega)⟩
 case inr.inr.inl =>
  obtain⟨g,o,c,hlv,hlc,hcm,_⟩:=H1.out.labs (by rw[HF1.out.2.2.1];exact hn);have c13:=H1.out.c13;have hnn:x1.nl=nl:=by rw[HF1.out.2.2.1,HNL.out]
  rw[hlv,hnn]at c13;rw[hnn]at hlc;unfold maxLen at hcm;have HNN:=hD hnn;clear hlv hnn;go_wp2_with fail
  go_region_held3 (fun w'=>w'.cell? ⟨F.G,0,none⟩=some (.pointer (some ⟨F.T,0,none⟩))∧w'.cell? ⟨F.G,13,none⟩=some (.slice (some ⟨g,o,none⟩) nl c))
   (first|go_keep|exact⟨hg2.c0,HC13.out⟩)
   ((go_at_call 9;refine(next_gen2 H1.out.drew.1 nl (by omega) (by omega)).mono ?_;rintro e w2 ⟨r2,hr2,rfl,x2,hg2,hs2,hn2,hc13⟩;have HC13:Hid (w2.cell? ⟨F.G,13,none⟩=some (.slice (some ⟨g,o,none⟩) nl c)):=(by rw[Hid,hc13];exact c13);clear hc13))
  obtain⟨j,hj⟩:∃ j:Nat,nl=j+r2+1:=⟨nl - r2 - 1,by omega⟩;have hn1l:x2.nl=nl:=by rw[hn2.2.2.1,HNN.out]
  obtain⟨g1,o1,c1,hlv1,_,_,hlab⟩:=hg2.labs (by rw[hn1l];omega);obtain⟨u,l,hu,hl3,hul⟩:=hlab j (by rw[hn1l];omega);have c13':=hg2.c13;rw[hlv1,hn1l]at c13';have he:=c13'.symm.trans HC13.out;simp only[Option.some.injEq,vI,Addr.mk.injEq,and_true,true_and]at he;obtain⟨⟨rfl,rfl⟩,rfl⟩:=he;replace hs2:=H1.out.drew.2.trans hs2;clear hlab hlv1 c13 HC13;obtain⟨Au,cu,hu2,_,_⟩:=hul.form;rw[hu2]at hu hul;have HUL:=hD hul;clear hul hu2;generalize hLL:l.length=ll at *;have HLL:=hD hLL;clear hLL;have HN1L:=hD hn1l;clear hn1l;have H2:=hD hg2;have HS2:=hD (HS1.out.trans hs2);have HF2:=hD (HF1.out.trans (hn2.fine (ht:=ht) HF1.out.1));have hm2:=hm1.num hn2;have c0:=H2.out.c0;clear hg2 hs2 H1 HS1 HF1 hm1;have e1:IntKind.i64.wrap ((nl:Int) - 1)=(nl:Int) - 1:=IntWalk.i64_in _ (by omega);have e2:IntKind.i64.wrap ((nl:Int) - 1 - (r2:Int))=(j:Int):=by rw[show(nl:Int) - 1 - (r2:Int)=(j:Int) by omega];exact IntWalk.i64_in _ (by omega)
  have hjn:(j:Int)<(nl:Int):=by omega
  have hjn2:j<nl:=by omega
  have HJ:=hD hj;clear hj;go_wp2_with fail
  go_quiet (fail)
  rename_i nq _
  obtain⟨hg3,hs3⟩:=H2.out.below (Wj (bR _ _) nq);have HUD:=hD (hs3.ints HUL.out);have HS3:=hD (HS2.out.trans hs3);generalize w2.drewN nq=w3 at hg3 hs3 HUD HS3 ⊢;have H3:=hD hg3;obtain⟨x3,hx3⟩:∃ y,y=x2:=⟨_,rfl⟩;rw[← hx3]at H3 HS3 HUD HF2 hm2;have HF3:=HF2;have hm3:=hm2;clear hg3 hs3 hx3 H2 HS2 HF2 hm2 HUL hu;go_wp2_with fail
  go_at_call 47;refine(Uo H3.out _ l HUD.out (by rw[HLL.out];exact hl3) ht HF3.out.1 (hm3.le (by omega))).mono ?_;rintro e w4 ⟨rfl,x4,hg4,hs4,hu4,hz4⟩;have HU4:=hD (hs4.ints HUD.out);have H4:=hD hg4;have HS4:=hD (HS3.out.trans hs4);have HF4:=hD (HF3.out.trans (hu4.fine (ht:=ht) (by omega)));have hm4:=hm3.up hu4;have c0:=H4.out.c0;clear hg4 hs4 H3 HS3 HF3 hm3;clear HUD c13' HNN e1 e2;have hnl4:x4.nl=nl:=by rw[HF4.out.2.2.1,HNL.out]
  have HNL4:=hD hnl4;clear hnl4;go_wp2_with fail
  go_loopw [8,9] (fun tv i wr=>∃ (k:Nat) (xs:List Int),k≤nl∧i=.int .i64 (k:Int)∧Hid (wr.ownsRow 0 3 1 tv xs.length (xs.map (Value.int .i64)))∧Hid (∀ q,tv.ownBlock=some q→w4.heap.size≤q)∧xs.length≤4∧Below w4.heap.size w4 wr∧Hid (∀ z ∈ xs,0≤z∧z≤64)) (fun _ i _=>nl - (intOf i).toNat)
  case atStart=>exact⟨0,[],nZ _,rfl,hD (World.ownsRow_nil _ _ _ _),hD (fun q h=>by cases h),by simp,bR _ _,hD (fun z hz=>by cases hz)⟩
  case round =>
   obtain⟨k,xs,hk,rfl,HO,HTB,hx4l,hb,HZX⟩:=hrel;obtain⟨At,ct,rfl⟩:=Wc HO.out;generalize hxn:xs.length=n at *;have HXN:=hD hxn;clear hxn;have c13:=(H4.out.below hb).1.c13;have c0:=(H4.out.below hb).1.c0;obtain⟨g4,o4,c4,hlv4,hlc4,_,hlab4⟩:=(H4.out.below hb).1.labs (by rw[HNL4.out];omega);rw[hlv4,HNL4.out]at c13;rw[HNL4.out]at hlab4 hlc4;clear hlv4;by_cases hk1:k<nl
   ·have hd1:decide ((k:Int)<(nl:Int))=true:=by simp;omega
    by_cases hk2:n<4
    ·have hd2:decide ((n:Int)<4)=true:=by simp;omega
     obtain⟨jj,hjj⟩:∃ jj:Nat,nl=jj+k+1:=⟨nl - k - 1,by omega⟩;obtain⟨u2,l2,hu2,_,hul2⟩:=hlab4 jj (by omega);obtain⟨Au2,cu2,hu3,_,_⟩:=hul2.form;rw[hu3]at hu2 hul2;have HUL2:=hD hul2;clear hul2 hu3 hlab4;generalize hLL2:l2.length=ll2 at *;have HLL2:=hD hLL2;clear hLL2;have hkn:(0:Int)≤k:=Int.natCast_nonneg _;have e1:IntKind.i64.wrap ((nl:Int) - 1)=(nl:Int) - 1:=IntWalk.i64_in _ (by omega);have e2:IntKind.i64.wrap ((nl:Int) - 1 - (k:Int))=(jj:Int):=by rw[show(nl:Int) - 1 - (k:Int)=(jj:Int) by omega];exact IntWalk.i64_in _ (by omega)
     have hjn3:(jj:Int)<(nl:Int):=by omega
     have hjn4:jj<nl:=by omega
     have HJJ:=hD hjj;clear hjj;go_wp2_with fail
     go_still_tail 15,(by kernel_rfl)
     change wpList _ _ _ _ _ wr.drew;have HO5:=hD (owns_drew HO.out);have hb5:=hb.drew;have HUA:=hD (((H4.out.below hb).1.drew.2).ints HUL2.out);have HUB:=hD (((H4.out.below hb).2.trans (H4.out.below hb).1.drew.2).ints HU4.out);generalize wr.drew=wd at HO5 hb5 HUA HUB ⊢;go_wp2_with fail
     go_at_call 78;refine(ksame_any _ _ _ _ l2 l HUA.out HUB.out).mono ?_;rintro e w5 ⟨bb,rfl,hbb⟩;have HO7:=hD (Vi HO5.out hbb);have hb7:Below w4.heap.size w4 w5:=hb5.trans (hbb.mono hb5.size);clear hbb HO5 hb5 HUA HUB HO hb;cases bb
     case' true =>
      go_wp2_with (at_builtin;refine Wl rfl (.tmp 122) (.tmp 124) 22 3 rfl _ 1 8 Tryz.underlying22 Tryz.infoInt rfl (by decide) (by decide) (.slice At n ct) n (xs.map (Value.int .i64)) (by rfl) (HO7.out.alloc _) _ 1 [.int .i64 (k:Int)] (by rfl) (by rfl) (WS w5 _ _ 1 1) (WP [(k:Int)]) (by omega) ?_;intro v' w7 hown hgr hat)
      have hb8:=(hb7.alloc hb7.size (.cells #[.int .i64 (k:Int)] 3)).grown hgr (Nat.le_trans hb7.size (by simp)) HTB.out;have hnew:∀ q,v'.ownBlock=some q→w4.heap.size≤q:=fun q hq=>by
       rcases hat with h|h
       ·exact HTB.out q (h ▸ hq)
       ·have e:=h.symm.trans hq;simp at e;have:=hb7.size;omega
      have hlx:(xs++[(k:Int)]).length=n+1:=by rw[List.length_append,HXN.out];rfl
      go_roundw
      case rel=>exact⟨k+1,xs++[(k:Int)],by omega,by go_num,hD (by rw[hlx,List.map_append];exact hown),hD hnew,by rw[hlx];omega,hb8,hD (fun z hz=>by rcases List.mem_append.1 hz with hz|hz;exact HZX.out z hz;rw[List.mem_singleton.1 hz];omega)⟩
      case measure=>simp[intOf];omega
     case' false =>
      go_wp2;go_roundw
      case rel=>exact⟨k+1,xs,by omega,by go_num,hD (by rw[HXN.out];exact HO7.out),HTB,by rw[HXN.out];omega,hb7,HZX⟩
      case measure=>simp[intOf];omega
    ·have hd2:decide ((n:Int)<4)=false:=by simp;omega
     exact Zj
   ·have hd1:decide ((k:Int)<(nl:Int))=false:=by simp;omega
    exact Zj
 case inl =>
  exact Zi
 case inr.inl =>
  exact Zi
 case inr.inr.inr.inl =>
  obtain⟨hro0,hro3⟩:=H1.out.reads.own;have hro:=hro0.wide;clear hro0;obtain⟨Ar,cr,hrv,_,_⟩:=hro.form;have c11:=H1.out.c11;rw[hrv]at c11 hro;have HRO:=hD hro;clear hro hrv;generalize hRL:F.ro.length=rl at *;have HRL:=hD hRL;clear hRL;go_wp2_with fail
  go_at_call 47;refine(Uo H1.out _ F.ro HRO.out (by rw[HRL.out];exact hro3) ht HF1.out.1 (hm1.le (by omega))).mono ?_;rintro e w2 ⟨rfl,x2,hg2,hs2,hu2,hz2⟩;have H2:=hD hg2;have HS2:=hD (HS1.out.trans hs2);have HF2:=hD (HF1.out.trans (hu2.fine (ht:=ht) (by omega)));have hm2:=hm1.up hu2;have c0:=H2.out.c0;clear hg2 hs2 H1 HS1 HF1 hm1;exact ZF
 case inr.inr.inr.inr.inr =>
  go_wp2_with fail
  go_at_call 9;refine(WA H1.out 4 (by omega) (by omega)).mono ?_;rintro e w2 ⟨r2,hr2,rfl,x2,hg2,hs2,hn2⟩;have H2:=hD hg2;have HS2:=hD (HS1.out.trans hs2);have HF2:=hD (HF1.out.trans (hn2.fine (ht:=ht) HF1.out.1));have hm2:=hm1.num hn2;have c0:=H2.out.c0;clear hg2 hs2 H1 HS1 HF1 hm1;by_cases h20:r2=0
  ·subst h20;exact ZF
  ·have hd:decide ((0:Int)<(r2:Int))=true:=by simp;omega
   go_wp2;go_ret;exact⟨_,rfl,_,H2.out,HS2.out,HF2.out.le (by omega)⟩
end Go.Proofs.YtepgopnnaeoolaaGreatDoor
