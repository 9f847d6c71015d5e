/- A part of the proof. -/
import Derived.Test.YtepgopnnaeoolaaGreatDoorJ50
import Derived.Test.YtepgopnnaeoolaaGreatDoorJ27
namespace Go.Proofs.YtepgopnnaeoolaaGreatDoor
open Go.RowKit
set_option maxHeartbeats 40000000
set_option maxRecDepth 100000
theorem Zbs {P:Prop}(h:P:=by
 have hi:i<8:=(Array.getElem?_eq_some_iff.1 hu).1;rcases(show i=0∨i=1∨i=2∨i=3∨i=4∨i=5∨i=6∨i=7 by omega) with rfl|rfl|rfl|rfl|rfl|rfl|rfl|rfl <;> exact hu):P:=h
theorem made_sz {m:W8} (h:MadeM m):Sz 0 m:=by
 obtain⟨r,_,he⟩:=h.exps;have hd:=h.datas.len.1;refine⟨⟨by rw[h.types];decide,by rw[h.types];unfold bndT;decide⟩,by rw[h.imps];decide,⟨by have:=h.funs.1.2;omega,fun f hf=>?_⟩,by have:=h.mems.1;omega,by rw[h.globs];decide,?_,⟨by omega,?_⟩,⟨by rw[h.cus];simp,by rw[h.cus];simp⟩,h.funs.1.1⟩
 ·have h1:=h.funs.2 f hf;exact⟨by have:=h1.2.2.1;omega,by have:=h1.2.2.2.2.1;omega⟩
 ·rw[he,List.length_append,List.length_append,fexp_len];have:=mexp_le m.mems.length;have:=h.funs.1.2;simp only[List.length_singleton];omega
 ·rcases h.datas with ⟨_,h1⟩|⟨_,a,b,_,_,h1⟩
  ·rw[h1];simp
  ·rw[h1];intro d hd;simp only[List.mem_cons,List.not_mem_nil,or_false]at hd;rcases hd with rfl|rfl
   ·show actB.length≤1000;decide
   ·show pasB.length≤1000;decide
theorem sz_few {k:Nat} {m:W8} (h:Sz k m) (hk:k≤1000):Few m:=by
 have h1:=h.types.1;have h2:=h.imps;have h3:=h.funs.1;have h4:=h.mems;have h5:=h.globs;have h6:=h.exps;have h7:=h.datas.1;have h8:=h.cus.1;exact⟨by omega,by omega,by omega,by omega,by omega,by omega,by omega,by omega⟩
theorem globs_more {K:Nat→Prop} {w:World} {base:Nat} {e:TypeId} {v:Value} {l:List (Int×Bool×Int)} {us:List Value} (hl:us.length=l.length * 3) (hu:∀ j i,j<l.length→i<3→∃ u,us[j * 3+i]?=some u∧VX (l.getD j (0,false,0)) i u)
 (ho:w.ownsRow base e 3 v (l.length+1) (us++[.int .i64 124,.bool false,.int .u64 0])) (hK:∀ g,v.ownBlock=some g→K g):GlobsK K w v (l++[(124,false,0)]):=by
 unfold GlobsK;rw[List.length_append,List.length_singleton];refine Ua ho _ hK fun j i hj hi=>?_;by_cases h:j<l.length
 ·obtain⟨u,h1,h2⟩:=hu j i h hi;refine⟨u,by rw[List.getElem?_append_left (by omega)];exact h1,?_⟩;rw[getD_more l _ _ j h];exact h2
 ·obtain rfl:l.length=j:=by omega
  rw[List.getD_eq_getElem?_getD,List.getElem?_append_right (nR _),Nat.sub_self];rw[List.getElem?_append_right (by omega),show l.length * 3+i - us.length=i by omega];rcases(show i=0∨i=1∨i=2 by omega) with rfl|rfl|rfl
  ·exact⟨_,rfl,rfl⟩
  ·exact⟨_,rfl,rfl⟩
  ·exact⟨_,rfl,rfl,(show VK 0 from ⟨by decide,by decide⟩)⟩
theorem few_more {m:W8} (h:Vf m=0) (hg:m.globs.length+1≤257):Few (UE m):=by
 have h1:=(Uy h).1;unfold fitsB at h1;simp only[Bool.and_eq_true,decide_eq_true_eq]at h1;unfold Few UE;simp only[List.length_append,List.length_nil,List.length_cons];omega
theorem more_at {w:World} {v:Mv} {m:W8} {c4 gc:Nat} {A4:Option Addr} {n:Nat} (hm:WQ (fun k=>k<w.heap.size) w v m) (hg:GlobsK (fun k=>k<w.heap.size) w (.slice A4 n c4) (m.globs++[(124,false,0)])) (hc:w.heap[gc]?=some (.cells #[.string ⟨#[109,111,114,101]⟩,.slice none 0 0] 41 (0,0))) :
 WQ (fun k=>k<w.heap.size) w ⟨v.m0,v.m1,v.m2,v.m3,.slice A4 n c4,.slice none 0 0,v.m6,.slice (some ⟨gc,0,none⟩) 1 1⟩ (UE m):=by
 refine⟨hm.types,hm.imps,hm.funs,hm.mems,hg,WY _ _ _ _,hm.datas,?_⟩;refine⟨_,1,rfl,nR _,by unfold maxLen;omega,(fun h=>by cases h),fun _=>⟨gc,0,rfl,VJ hc,fun j i hj hi=>?_⟩⟩;have hj2:j<1:=hj;rcases(show j=0∧(i=0∨i=1) by omega) with ⟨rfl,rfl|rfl⟩
 ·exact⟨_,WG hc 0,rfl⟩
 ·exact⟨_,WG hc 1,UJ.nil _ _⟩
def SelM (W:World) (B o:Nat) (v:Mv) (m:W8):Prop:=(∀ wz,Below W.heap.size W wz→∀ (i:Nat) u,v.cells[i]?=some u→wz.cell? ⟨B,o+i,none⟩=some u)∧(∀ wz,Below W.heap.size W wz→WQ (fun k=>k<wz.heap.size) wz v m)∧Few m
theorem made_walk (w:World) (ht:Tab w) (tv:Value) (tl:List Int) (htl:Wg (fun k=>k<w.heap.size) w tv tl) (ov:Value) (ts:List Trn) (hts:TrnsK (lt w) w ov ts) :
 Calls Tryz.prog 3 #[tv,ov] w (Wo true w):=by
 have HM:=hD (fun wz (hb:Below w.heap.size w wz)=>module_any wz tv tl (htl.keep (Wf.below hb fun _ hk=>hk) fun _ hk=>WW hk hb.size));have HO:=hD (fun wz (hb:Below w.heap.size w wz) v m hm hs=>odds_any wz v m hm hs ov ts (TrnsK.keep hts (Wf.below hb fun _ hk=>hk) fun _ hk=>WW hk hb.size));have HKN:=hD (fun wz (hb:Below w.heap.size w wz)=>known10_any wz (ht.below hb));have HTB:=hD ht;obtain⟨At,ct,hv,_,_⟩:=htl.form;rw[hv]at HM ⊢;clear hv htl;generalize tl.length=nt at *;obtain⟨Ao,co,hv,_,_⟩:=Wd.form hts;rw[hv]at HO ⊢;clear hv hts;generalize ts.length=no at *;clear ht;go_enter Tryz.func3,Tryz.ntmps3;go_wp2_with fail
 go_at_call 4;refine(HM.out w (bR _ _)).mono ?_;rintro e y2 ⟨v,m,rfl,hmm,hma,hb⟩;have HS0:=hD (made_sz hmm);have HMA:=hD hma;have HB1:=hD (bR w.heap.size w);clear hmm HM;obtain⟨pA0,pc0,pA1,pc1,pA2,pc2,pA3,pc3,pA4,pc4,pA5,pc5,pA6,pc6,pA7,pc7,rfl⟩:=WC hma;clear hma;simp only[Mv.cells];obtain⟨pn0,hq0⟩:∃ n,m.types.length=n:=⟨_,rfl⟩;rw[hq0]at HMA ⊢;clear hq0;obtain⟨pn1,hq1⟩:∃ n,m.imps.length=n:=⟨_,rfl⟩;rw[hq1]at HMA ⊢;clear hq1;obtain⟨pn2,hq2⟩:∃ n,m.funs.length=n:=⟨_,rfl⟩;rw[hq2]at HMA ⊢;clear hq2;obtain⟨pn3,hq3⟩:∃ n,m.mems.length=n:=⟨_,rfl⟩;rw[hq3]at HMA ⊢;clear hq3;obtain⟨pn4,hq4⟩:∃ n,m.globs.length=n:=⟨_,rfl⟩;rw[hq4]at HMA ⊢;clear hq4;obtain⟨pn5,hq5⟩:∃ n,m.exps.length=n:=⟨_,rfl⟩;rw[hq5]at HMA ⊢;clear hq5;obtain⟨pn6,hq6⟩:∃ n,m.datas.length=n:=⟨_,rfl⟩;rw[hq6]at HMA ⊢;clear hq6;obtain⟨pn7,hq7⟩:∃ n,m.cus.length=n:=⟨_,rfl⟩;rw[hq7]at HMA ⊢;clear hq7;obtain⟨W2,hW⟩:∃ W,W=y2.alloc (.cells #[.slice pA0 pn0 pc0,.slice pA1 pn1 pc1,.slice pA2 pn2 pc2,.slice pA3 pn3 pc3,.slice pA4 pn4 pc4,.slice pA5 pn5 pc5,.slice pA6 pn6 pc6,.slice pA7 pn7 pc7] 33):=⟨_,rfl⟩;have hbw:Below y2.heap.size y2 W2:=by rw[hW];exact(bR _ _).alloc (nR _) _
 have HV2:=hD (fun wz (hq:Below W2.heap.size W2 wz) j u (hu:(#[.slice pA0 pn0 pc0,.slice pA1 pn1 pc1,.slice pA2 pn2 pc2,.slice pA3 pn3 pc3,.slice pA4 pn4 pc4,.slice pA5 pn5 pc5,.slice pA6 pn6 pc6,.slice pA7 pn7 pc7]:Array Value)[j]?=some u)=>(show wz.cell? ⟨y2.heap.size,j,none⟩=some u from (WG ((hq.block y2.heap.size (by rw[hW];simp)).trans (by rw[hW];exact VO _ _)) j).trans hu));have HQ2:=hD (Wa hb hbw);have HY2:=hD hbw;have HB2:=hD (Wa HB1.out HQ2.out);clear hb hbw
 go_upto_region 2 with (fail)
 rw[← hW];clear hW;have s0:=HV2.out W2 (bR _ _) 0 _ rfl;have s1:=HV2.out W2 (bR _ _) 1 _ rfl;have s2:=HV2.out W2 (bR _ _) 2 _ rfl;have s3:=HV2.out W2 (bR _ _) 3 _ rfl;have s4:=HV2.out W2 (bR _ _) 4 _ rfl;have s5:=HV2.out W2 (bR _ _) 5 _ rfl;have s6:=HV2.out W2 (bR _ _) 6 _ rfl;have s7:=HV2.out W2 (bR _ _) 7 _ rfl;have HMW:=hD (fun wz (hb:Below W2.heap.size W2 wz)=>HMA.out.keep (K':=fun k=>k<wz.heap.size) (Wf.below (Wa HY2.out hb) fun _ hk=>hk) fun _ hk=>WW hk (Wa HY2.out hb).size);go_wp2_with fail
 clear s0 s1 s2 s3 s4 s5 s6 s7;go_at_call 5;refine(HO.out W2 HB2.out _ _ (HMW.out W2 (bR _ _)) HS0.out).mono ?_;rintro e y3 ⟨v2,m2,rfl,hma,hsz,hb⟩;have HS2:=hD hsz;have HMB:=hD hma;clear hsz HO;obtain⟨oA0,oc0,oA1,oc1,oA2,oc2,oA3,oc3,oA4,oc4,oA5,oc5,oA6,oc6,oA7,oc7,rfl⟩:=WC hma;clear hma;simp only[Mv.cells];obtain⟨on0,hq0⟩:∃ n,m2.types.length=n:=⟨_,rfl⟩;rw[hq0]at HMB ⊢;clear hq0;obtain⟨on1,hq1⟩:∃ n,m2.imps.length=n:=⟨_,rfl⟩;rw[hq1]at HMB ⊢;clear hq1;obtain⟨on2,hq2⟩:∃ n,m2.funs.length=n:=⟨_,rfl⟩;rw[hq2]at HMB ⊢;clear hq2;obtain⟨on3,hq3⟩:∃ n,m2.mems.length=n:=⟨_,rfl⟩;rw[hq3]at HMB ⊢;clear hq3;obtain⟨on4,hq4⟩:∃ n,m2.globs.length=n:=⟨_,rfl⟩;rw[hq4]at HMB ⊢;clear hq4;obtain⟨on5,hq5⟩:∃ n,m2.exps.length=n:=⟨_,rfl⟩;rw[hq5]at HMB ⊢;clear hq5;obtain⟨on6,hq6⟩:∃ n,m2.datas.length=n:=⟨_,rfl⟩;rw[hq6]at HMB ⊢;clear hq6;obtain⟨on7,hq7⟩:∃ n,m2.cus.length=n:=⟨_,rfl⟩;rw[hq7]at HMB ⊢;clear hq7;obtain⟨W3,hW⟩:∃ W,W=y3.alloc (.cells #[.slice oA0 on0 oc0,.slice oA1 on1 oc1,.slice oA2 on2 oc2,.slice oA3 on3 oc3,.slice oA4 on4 oc4,.slice oA5 on5 oc5,.slice oA6 on6 oc6,.slice oA7 on7 oc7] 33):=⟨_,rfl⟩;have hbw:Below y3.heap.size y3 W3:=by rw[hW];exact(bR _ _).alloc (nR _) _
 have HV3:=hD (fun wz (hq:Below W3.heap.size W3 wz) j u (hu:(#[.slice oA0 on0 oc0,.slice oA1 on1 oc1,.slice oA2 on2 oc2,.slice oA3 on3 oc3,.slice oA4 on4 oc4,.slice oA5 on5 oc5,.slice oA6 on6 oc6,.slice oA7 on7 oc7]:Array Value)[j]?=some u)=>(show wz.cell? ⟨y3.heap.size,j,none⟩=some u from (WG ((hq.block y3.heap.size (by rw[hW];simp)).trans (by rw[hW];exact VO _ _)) j).trans hu));have HQ3:=hD (Wa hb hbw);have HY3:=hD hbw;have HB3:=hD (Wa HB2.out HQ3.out);clear hb hbw
 go_upto_region 3 with (fail)
 rw[← hW];clear hW;have HMX:=hD (fun wz (hb:Below W3.heap.size W3 wz)=>HMB.out.keep (K':=fun k=>k<wz.heap.size) (Wf.below (Wa HY3.out hb) fun _ hk=>hk) fun _ hk=>WW hk (Wa HY3.out hb).size);have HMY:=hD (fun wz (hb:Below W3.heap.size W3 wz)=>HMW.out wz (Wa HQ3.out hb));have s0:=HV2.out W3 HQ3.out 0 _ rfl;have r0:=HV3.out W3 (bR _ _) 0 _ rfl;have s1:=HV2.out W3 HQ3.out 1 _ rfl;have r1:=HV3.out W3 (bR _ _) 1 _ rfl;have s2:=HV2.out W3 HQ3.out 2 _ rfl;have r2:=HV3.out W3 (bR _ _) 2 _ rfl;have s3:=HV2.out W3 HQ3.out 3 _ rfl;have r3:=HV3.out W3 (bR _ _) 3 _ rfl;have s4:=HV2.out W3 HQ3.out 4 _ rfl;have r4:=HV3.out W3 (bR _ _) 4 _ rfl;have s5:=HV2.out W3 HQ3.out 5 _ rfl;have r5:=HV3.out W3 (bR _ _) 5 _ rfl;have s6:=HV2.out W3 HQ3.out 6 _ rfl;have r6:=HV3.out W3 (bR _ _) 6 _ rfl;have s7:=HV2.out W3 HQ3.out 7 _ rfl;have r7:=HV3.out W3 (bR _ _) 7 _ rfl;obtain⟨W4,hW4⟩:∃ W,W=W3.alloc (.cells #[.slice pA0 pn0 pc0,.slice pA1 pn1 pc1,.slice pA2 pn2 pc2,.slice pA3 pn3 pc3,.slice pA4 pn4 pc4,.slice pA5 pn5 pc5,.slice pA6 pn6 pc6,.slice pA7 pn7 pc7,.slice oA0 on0 oc0,.slice oA1 on1 oc1,.slice oA2 on2 oc2,.slice oA3 on3 oc3,.slice oA4 on4 oc4,.slice oA5 on5 oc5,.slice oA6 on6 oc6,.slice oA7 on7 oc7] 33):=⟨_,rfl⟩;have hb4:Below W3.heap.size W3 W4:=hW4 ▸ Wi (bR _ _) _;have HB4:=hD (Wa HB3.out hb4);have hc4:∀ j:Nat,W4.cell? ⟨W3.heap.size,j,none⟩=(#[.slice pA0 pn0 pc0,.slice pA1 pn1 pc1,.slice pA2 pn2 pc2,.slice pA3 pn3 pc3,.slice pA4 pn4 pc4,.slice pA5 pn5 pc5,.slice pA6 pn6 pc6,.slice pA7 pn7 pc7,.slice oA0 on0 oc0,.slice oA1 on1 oc1,.slice oA2 on2 oc2,.slice oA3 on3 oc3,.slice oA4 on4 oc4,.slice oA5 on5 oc5,.slice oA6 on6 oc6,.slice oA7 on7 oc7]:Array Value)[j]?:=fun j=>by rw[hW4,wN]
 have HSEL:Hid (∀ k:Nat,k<2→∃ v m,SelM W4 W3.heap.size (k * 8) v m):=hD fun k hk=>by
  have hlt:W3.heap.size<W4.heap.size:=by rw[hW4];simp
  rcases(show k=0∨k=1 by omega) with rfl|rfl
  ·refine⟨_,_,fun wz hz i u hu=>?_,fun wz hz=>HMY.out wz (Wa hb4 hz),sz_few HS0.out (by omega)⟩;refine((hz.cell (p:=⟨W3.heap.size,0 * 8+i,none⟩) hlt).trans (hc4 _)).trans ?_;exact Zbs
  ·refine⟨_,_,fun wz hz i u hu=>?_,fun wz hz=>HMX.out wz (Wa hb4 hz),sz_few HS2.out (by omega)⟩;refine((hz.cell (p:=⟨W3.heap.size,1 * 8+i,none⟩) hlt).trans (hc4 _)).trans ?_;exact Zbs
 have HW4:=hD hW4;clear hW4 hb4 hc4 HMX HMY HMW HMA HMB HV2 HV3 HQ2 HQ3 HY2 HY3 HS0 HS2;go_wp2_with fail
 rw[← HW4.out];clear s0 r0 s1 r1 s2 r2 s3 r3 s4 r4 s5 r5 s6 r6 s7 r7;go_loopw [20] (fun i wr=>∃ k:Nat,k≤2∧i=.int .i64 (k:Int)∧Hid (Below W4.heap.size W4 wr)) (fun i _=>2 - (intOf i).toNat)
 case atStart=>exact⟨0,by omega,rfl,hD (bR _ _)⟩
 case round =>
  obtain⟨w0,rfl⟩:∃ w0,w0=wr:=⟨_,rfl⟩;obtain⟨k,hk,rfl,HB⟩:=hrel;by_cases hlt:k<2
  ·have hd:decide ((k:Int)<(2:Int))=true:=by simp;omega
   have hd2:decide (k<2)=true:=by simp;omega
   have hk0:decide ((0:Int)≤(k:Int))=true:=by simp
   obtain⟨v,m,hc,hm,hfew⟩:=HSEL.out k hlt;obtain⟨A0,c0,A1,c1,A2,c2,A3,c3,A4,c4,A5,c5,A6,c6,A7,c7,rfl⟩:=WC (hm W4 (bR _ _));have HM2:=hD (fun wz (hz:Below W4.heap.size W4 wz)=>module_all wz (HTB.out.below (Wa HB4.out hz)) _ m (hm wz hz) hfew 2);have HM1:=hD (fun wz (hz:Below W4.heap.size W4 wz)=>module_all wz (HTB.out.below (Wa HB4.out hz)) _ m (hm wz hz) hfew 1);have HMM:=hD hm;simp only[Mv.cells]at hc HM2 HM1;unfold ModlPost at HM2 HM1;have d0:=hc w0 HB.out 0 _ rfl;have d1:=hc w0 HB.out 1 _ rfl;have d2:=hc w0 HB.out 2 _ rfl;have d3:=hc w0 HB.out 3 _ rfl;have d4:=hc w0 HB.out 4 _ rfl;have d5:=hc w0 HB.out 5 _ rfl;have d6:=hc w0 HB.out 6 _ rfl;have d7:=hc w0 HB.out 7 _ rfl;rw[Nat.add_zero]at d0;clear hc hm;obtain⟨n0,hn0⟩:∃ n,m.types.length=n:=⟨_,rfl⟩;obtain⟨n1,hn1⟩:∃ n,m.imps.length=n:=⟨_,rfl⟩;obtain⟨n2,hn2⟩:∃ n,m.funs.length=n:=⟨_,rfl⟩;obtain⟨n3,hn3⟩:∃ n,m.mems.length=n:=⟨_,rfl⟩;obtain⟨n4,hn4⟩:∃ n,m.globs.length=n:=⟨_,rfl⟩;obtain⟨n5,hn5⟩:∃ n,m.exps.length=n:=⟨_,rfl⟩;obtain⟨n6,hn6⟩:∃ n,m.datas.length=n:=⟨_,rfl⟩;obtain⟨n7,hn7⟩:∃ n,m.cus.length=n:=⟨_,rfl⟩;have HN4:=hD hn4;rw[hn0,hn1,hn2,hn3,hn4,hn5,hn6,hn7]at HM2 HM1 HMM;rw[hn0]at d0;rw[hn1]at d1;rw[hn2]at d2;rw[hn3]at d3;rw[hn4]at d4;rw[hn5]at d5;rw[hn6]at d6;rw[hn7]at d7;clear hn0 hn1 hn2 hn3 hn4 hn5 hn6 hn7;have HPR:=hD (plain_rich (m:=m));have HMO:=hD (fun (h:Vl m 2=0)=>more_ok h);have HRG:=hD (fun (h:Vl m 2=0)=>(moduleC_ok h).2.1);obtain⟨r1,hr1⟩:∃ z,Vl m 1=z:=⟨_,rfl⟩;obtain⟨r2,hr2⟩:∃ z,Vl m 2=z:=⟨_,rfl⟩;rw[hr1]at HM1 HPR;rw[hr2]at HM2 HPR HMO HRG;clear hr1 hr2;obtain⟨X1,hX1⟩:∃ W,W=w0.alloc (.cells #[.slice A0 n0 c0,.slice A1 n1 c1,.slice A2 n2 c2,.slice A3 n3 c3,.slice A4 n4 c4,.slice A5 n5 c5,.slice A6 n6 c6,.slice A7 n7 c7] 33):=⟨_,rfl⟩;have hbx:Below w0.heap.size w0 X1:=hX1 ▸ Wi (bR _ _) _;have HXB:Hid (∀ wz,Below X1.heap.size X1 wz→V4 wz w0.heap.size (.slice A0 n0 c0) (.slice A1 n1 c1) (.slice A2 n2 c2) (.slice A3 n3 c3) (.slice A4 n4 c4) (.slice A5 n5 c5) (.slice A6 n6 c6) (.slice A7 n7 c7)):=hD fun wz hz=>by rw[hX1]at hz;exact Vq w0 _ _ _ _ _ _ _ _ hz
   have HBX:=hD hbx;have HX1:=hD hX1;clear hbx hX1
   go_upto_region 6 with (fail)
   rw[← HX1.out];clear d0 d1 d2 d3 d4 d5 d6 d7;obtain⟨b0,b1,b2,b3,b4,b5,b6,b7⟩:=HXB.out X1 (bR _ _);by_cases h2:r2=0
   case' neg =>
    have z1:(r1==0)=false:=by simpa using fun e=>h2 (HPR.out e)
    have z2:(r2 != 0)=true:=by simpa using h2
    clear h2 HPR HMO HRG;go_wp2_with (first|(go_at_call 6;(with_reducible refine(HM2.out _ (Wa HB.out HBX.out)).mono ?_);rintro e wa ⟨rfl,hba⟩;have HBA:=hD hba;obtain⟨b0,b1,b2,b3,b4,b5,b6,b7⟩:=HXB.out wa HBA.out;clear hba)|(go_at_call 6;(with_reducible refine(HM1.out _ (Wa HB.out (Wa HBX.out HBA.out))).mono ?_);rintro e wb ⟨rfl,hbb⟩;have HBB:=hD (Wa HBA.out hbb);clear hbb))
    go_roundw
    case rel=>exact⟨k+1,by omega,by go_num,hD (Wa HB.out (Wa HBX.out HBB.out))⟩
    case measure=>simp[intOf];omega
   subst h2;by_cases h1:r1=0
   all_goals
    first
    | (subst h1)
    | (have z1:(r1==0)=false:=by simpa using h1)
    clear HPR
    go_upto_region 11 with (first|(go_at_call 6;(with_reducible refine(HM2.out _ (Wa HB.out HBX.out)).mono ?_);rintro e wa ⟨rfl,hba⟩;have HBA:=hD hba;obtain⟨b0,b1,b2,b3,b4,b5,b6,b7⟩:=HXB.out wa HBA.out;clear hba)|(go_at_call 6;(with_reducible refine(HM1.out _ (Wa HB.out (Wa HBX.out HBA.out))).mono ?_);rintro e wb ⟨rfl,hbb⟩;have HBB:=hD (Wa HBA.out hbb);obtain⟨b0,b1,b2,b3,b4,b5,b6,b7⟩:=HXB.out wb HBB.out;clear hbb))
    have hglb:n4≤256:=by
     have h:=(Uy (HRG.out (by trivial))).1;unfold fitsB at h;simp only[Bool.and_eq_true,decide_eq_true_eq]at h;have h9:=HN4.out;omega
    obtain⟨Y1,hY1⟩:∃ W,W=wb.alloc (.cells #[.slice A0 n0 c0,.slice A1 n1 c1,.slice A2 n2 c2,.slice A3 n3 c3,.slice A4 n4 c4,.slice A5 n5 c5,.slice A6 n6 c6,.slice A7 n7 c7] 33):=⟨_,rfl⟩;rw[← hY1];have g1:Y1.heap[wb.heap.size]?=some (.cells #[.slice A0 n0 c0,.slice A1 n1 c1,.slice A2 n2 c2,.slice A3 n3 c3,.slice A4 n4 c4,.slice A5 n5 c5,.slice A6 n6 c6,.slice A7 n7 c7] 33 (0,0)):=by rw[hY1];exact VO _ _
    have hby1:Below wb.heap.size wb Y1:=hY1 ▸ Wi (bR _ _) _;have f5:=Vv g1 5;have c5':=WG g1 5;simp only[List.getElem?_toArray,List.getElem?_cons_zero,List.getElem?_cons_succ]at c5';clear hY1 b0 b1 b2 b3 b4 b5 b6 b7
    go_upto_region 12 with (fail)
    obtain⟨Y2,hY2⟩:∃ W,W=Y1.setCell ⟨wb.heap.size,5,none⟩ (.slice none 0 0):=⟨_,rfl⟩;rw[← hY2];have g2:=Wh Y1 wb.heap.size 5 _ _ (.slice none 0 0) g1;rw[← hY2]at g2;simp only[sA,List.set]at g2;have hby2:Below wb.heap.size wb Y2:=hY2 ▸ hby1.setCell (nR _) _;have g2':=((Wi (bR Y2.heap.size Y2) (.cells #[.string ⟨#[109,111,114,101]⟩,.slice none 0 0] 41)).block wb.heap.size (VJ g2)).trans g2;have f7:=Vv g2' 7;have c7':=WG g2' 7;simp only[List.getElem?_toArray,List.getElem?_cons_zero,List.getElem?_cons_succ]at c7';clear hY2 f5 c5' hby1 g1
    go_upto_region 13 with (fail)
    obtain⟨Y3,hY3⟩:∃ W,W=(Y2.alloc (.cells #[.string ⟨#[109,111,114,101]⟩,.slice none 0 0] 41)).setCell ⟨wb.heap.size,7,none⟩ (.slice (some ⟨Y2.heap.size,0,none⟩) 1 1):=⟨_,rfl⟩;rw[← hY3];have g3:=Wh _ wb.heap.size 7 _ _ (.slice (some ⟨Y2.heap.size,0,none⟩) 1 1) g2';rw[← hY3]at g3;simp only[sA,List.set]at g3;have hby3:Below wb.heap.size wb Y3:=hY3 ▸ (Wi hby2 _).setCell (nR _) _;have hne:wb.heap.size≠Y2.heap.size:=Nat.ne_of_lt (VJ g2);have gcu:Y3.heap[Y2.heap.size]?=some (.cells #[.string ⟨#[109,111,114,101]⟩,.slice none 0 0] 41 (0,0)):=by
     rw[hY3];exact((Wf.setCell _ (fun e=>e rfl) _:Wf (fun b=>b≠wb.heap.size) _ _).block Y2.heap.size (fun e=>hne e.symm)).trans (VO _ _)
    have HG3:=hD g3;have HCU:=hD gcu;have HBY:=hD hby3;have HBW:=hD (show Below W4.heap.size W4 Y3 from Wa HB.out (Wa HBX.out (Wa HBB.out hby3)));obtain⟨b0,b1,b2,b3,b4,b5,b6,b7⟩:=HXB.out Y3 (Wa HBB.out hby3);obtain⟨-,-,-,-,b4',-⟩:=HXB.out (Y3.alloc (.cells #[] 44)) (Wa HBB.out (Wi hby3 _));clear hY3 f7 c7' hby2 g2 g2' hne gcu g3 hby3;have hgm:=(HMM.out Y3 HBW.out).globs;rw[show GlobsK (fun k=>k<Y3.heap.size) Y3 _ m.globs=Wd (fun k=>k<Y3.heap.size) Y3 _ m.globs.length 3 (fun j i u=>VX (m.globs.getD j (0,false,0)) i u) from rfl]at hgm;obtain⟨us,hul,hnw,hus⟩:=Wd.news hgm;rw[HN4.out]at hul hnw hus;have HON:=hD (WH.ones (⟨hul,fun j hj=>⟨_,trivial,fun i hi=>hus j i hj hi⟩⟩:WH VX 3 (fun _=>True) us n4) glob_one);have HUL:=hD hul;have HNW:=hD hnw;have HUS:=hD hus;clear hgm hul hnw hus
    go_upto_region 14 with (first
     | (at_builtin;refine Wl rfl (.tmp 40) (.tmp 42) 28 44 rfl _ 3 24 Tryz.underlying28 Tryz.infoGlobal rfl (by decide) (by decide) (.slice (some ⟨Y3.heap.size,0,none⟩) 0 0) 0 [] (by rfl) (World.ownsRow_made Y3 #[] 0 (nZ _) (nZ _) rfl) _ n4 us (by rfl) HUL.out (HNW.out.below (Wi (bR _ _) _)) HON.out (by omega) ?_;intro v3 w3 ho3 hg3 hat3;simp only[Nat.zero_add,List.nil_append]at ho3;have HB3Y:=hD ((Wi (bR Y3.heap.size Y3) (.cells #[] 44)).grown hg3 (by rw[Wq];omega) (fun g hg=>by have hg:some Y3.heap.size=some g:=hg;simp only[Option.some.injEq]at hg;omega));have HOW3:=hD ho3;have HNW3:Hid (∀ g,v3.ownBlock=some g→Y3.heap.size≤g):=hD (fun g hg=>by rcases hat3 with h|h;(have h:=h.symm.trans hg;have h:some Y3.heap.size=some g:=h;simp only[Option.some.injEq]at h;omega);(have h:=h.symm.trans hg;simp only[Option.some.injEq,Wq]at h;omega));obtain⟨A30,c30,rfl⟩:=Wc ho3;clear ho3 hg3 hat3)
     | (at_builtin;refine Wl rfl (.tmp 43) (.tmp 45) 28 44 rfl _ 3 24 Tryz.underlying28 Tryz.infoGlobal rfl (by decide) (by decide) (.slice A30 n4 c30) n4 us (by rfl) (Vi HOW3.out (Wi (bR _ _) _)) _ 1 [.int .i64 124,.bool false,.int .u64 0] (by rfl) (by rfl) (WS w3 _ _ 1 1) (by simp[Value.oneCell']) (by omega) ?_;intro v4 w4 ho4 hg4 hat4;have HB4Y:=hD ((Wi HB3Y.out (.cells #[.int .i64 124,.bool false,.int .u64 0] 44)).grown hg4 (Nat.le_trans HB3Y.out.size (by rw[Wq];omega)) HNW3.out);have HOW4:=hD ho4;have HNW4:Hid (∀ g,v4.ownBlock=some g→Y3.heap.size≤g):=hD (fun g hg=>by rcases hat4 with h|h;(exact HNW3.out g (h ▸ hg));(have h:=h.symm.trans hg;simp only[Option.some.injEq,Wq]at h;have:=HB3Y.out.size;omega));obtain⟨A40,c40,rfl⟩:=Wc ho4;have hg9:=(HB4Y.out.block wb.heap.size (VJ HG3.out)).trans HG3.out;have HG9:=hD hg9;have f4:=Vv hg9 4;have c4':=WG hg9 4;simp only[List.getElem?_toArray,List.getElem?_cons_zero,List.getElem?_cons_succ]at c4';clear ho4 hg4 hat4 hg9))
    obtain⟨Z,hZ⟩:∃ W,W=w4.setCell ⟨wb.heap.size,4,none⟩ (.slice A40 (n4+1) c40):=⟨_,rfl⟩;rw[← hZ];have hkz:Wf (fun b=>b≠wb.heap.size) w4 Z:=hZ ▸ Wf.setCell _ (fun e=>e rfl) _;have gz:=Wh w4 wb.heap.size 4 _ _ (.slice A40 (n4+1) c40) HG9.out;rw[← hZ]at gz;simp only[sA,List.set]at gz;have hlt:wb.heap.size<Y3.heap.size:=VJ HG3.out;have hbz:Below Y3.heap.size Y3 w4:=HB4Y.out;have hbwz:Below wb.heap.size wb Z:=hZ ▸ (Wa HBY.out hbz).setCell (nR _) _;have HBZ:=hD (Wa HB.out (Wa HBX.out (Wa HBB.out hbwz)));have HBWZ:=hD hbwz;have hcz:Z.heap[Y2.heap.size]?=some (.cells #[.string ⟨#[109,111,114,101]⟩,.slice none 0 0] 41 (0,0)):=by
     refine(hkz.block Y2.heap.size (fun e=>?_)).trans ((hbz.block _ (VJ HCU.out)).trans HCU.out);have h1:=HCU.out;rw[e,HG3.out]at h1;cases h1
    have hgz:GlobsK (fun k=>k<Z.heap.size) Z (.slice A40 (n4+1) c40) (m.globs++[(124,false,0)]):=by
     have ho:=Wt HOW4.out hkz (fun g hg e=>by have:=HNW4.out g hg;omega);refine globs_more (by rw[HN4.out];exact HUL.out) (fun j i hj hi=>HUS.out j i (by rw[← HN4.out];exact hj) hi) (by rw[HN4.out];exact ho) fun g hg=>(ho.lt g hg).2
    have hmz:=more_at (HMM.out Z HBZ.out) hgz hcz;have HMZ:=hD (module_all Z (HTB.out.below (Wa HB4.out HBZ.out)) _ (UE m) hmz (few_more (HRG.out (by trivial)) (by rw[HN4.out];omega)) 2);simp only[Mv.cells]at HMZ;unfold ModlPost at HMZ;have c0:=WG gz 0;have c1:=WG gz 1;have c2:=WG gz 2;have c3:=WG gz 3;have c4:=WG gz 4;have c5:=WG gz 5;have c6:=WG gz 6;have c7:=WG gz 7;simp only[List.getElem?_toArray,List.getElem?_cons_zero,List.getElem?_cons_succ]at c0 c1 c2 c3 c4 c5 c6 c7;clear hZ hkz gz hlt hbz hbwz hcz hgz hmz f4 c4' b4' b0 b1 b2 b3 b4 b5 b6 b7;by_cases hle:n4+1≤256
    ·have hz:=HMO.out (by trivial) (by rw[HN4.out];exact hle);rw[hz]at HMZ;have e1:decide (((n4+1:Nat):Int)≤256)=true:=by simp;omega
     have e2:decide ((n4:Int)+1≤256)=true:=by simp;omega
     have e3:decide (n4+1≤256)=true:=by simp;omega
     clear hz hle hglb;go_wp2_with (go_at_call 6;refine(HMZ.out).mono ?_;rintro e wc ⟨rfl,hbc⟩;have HBC:=hD (Wa HBZ.out hbc);clear hbc)
     go_roundw
     case rel=>exact⟨k+1,by omega,by go_num,HBC⟩
     case measure=>simp[intOf];omega
    ·have e1:decide (((n4+1:Nat):Int)≤256)=false:=by simp;omega
     have e2:decide ((n4:Int)+1≤256)=false:=by simp;omega
     have e3:decide (n4+1≤256)=false:=by simp;omega
     clear hle hglb;go_wp2;go_roundw
     case rel=>exact⟨k+1,by omega,by go_num,HBZ⟩
     case measure=>simp[intOf];omega
  ·have hd:decide ((k:Int)<(2:Int))=false:=by simp;omega
   have hd2:decide (k<2)=false:=by simp;omega
   go_wp2_with (go_at_call 7;refine(HKN.out _ (Wa HB4.out HB.out)).mono ?_;rintro e w9 ⟨rfl,hb9⟩)
   go_ret;exact⟨rfl,Wa (Wa HB4.out HB.out) hb9⟩
end Go.Proofs.YtepgopnnaeoolaaGreatDoor
