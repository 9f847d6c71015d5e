/- A part of the proof. -/
import Derived.Test.YtmfpnfdinoofpaaGreatDoorJ20
import Derived.Test.YtmfpnfdinoofpaaGreatDoorJ21
namespace Go.Proofs.YtmfpnfdinoofpaaGreatDoor
section
open Go.RowKit
set_option maxHeartbeats 4000000
set_option maxRecDepth 100000
def fv0:Fv:=⟨0,.slice none 0 0,.slice none 0 0,[],[],0,false⟩
theorem label_is (x:Ws) (n:Nat):Ww x.pl n=if (x.f.getD (x.f.length - 1 - n) fv0).op=3 then (x.f.getD (x.f.length - 1 - n) fv0).ps else (x.f.getD (x.f.length - 1 - n) fv0).rs:=by
 unfold Ww Ws.pl;simp only[List.length_map];rw[show(x.f.map Fv.fr).getD (x.f.length - 1 - n) fr0=(x.f.getD (x.f.length - 1 - n) fv0).fr by
  rw[List.getD_eq_getElem?_getD,List.getD_eq_getElem?_getD,List.getElem?_map];cases x.f[x.f.length - 1 - n]? <;> rfl]
 rfl
def LabPost (F:Wx) (w:World) (x:Ws) (q:List Int) (e:Ending) (w':World):Prop :=
 ∃ A c,e=.returned (.slice A q.length c)∧Wk F w' x∧Wz F w x w' x∧Wf (Wq F w' x) w' (.slice A q.length c) q
theorem label_any {F:Wx} {w:World} {x:Ws} (hF:F.prg) (h:Wk F w x) (n:Nat) (hn:n<x.f.length) :
 Calls Tryz.prog 124 #[.pointer (some ⟨F.G,0,none⟩),.int .i64 (n:Int)] w (LabPost F w x (Ww x.pl n)):=by
 rw[label_is];obtain⟨g,c,hfv,h1,h2,h3,_,hc⟩:=h.fcell (by omega);obtain⟨k,hk⟩:∃ k,x.f.length - 1 - n=k:=⟨_,rfl⟩;rw[hk];have hkl:k<x.f.length:=by omega
 have t:=fun i hi=>hc k hkl i hi fv0;obtain⟨y,hy⟩:∃ y,x.f.getD k fv0=y:=⟨_,rfl⟩;have hym:y ∈ x.f:=by rw[← hy,List.getD_eq_getElem?_getD,List.getElem?_eq_getElem hkl];exact List.getElem_mem _
 rw[hy]at t ⊢;have hpv:=(h.reads.fr _ hym).1;have hrv:=(h.reads.fr _ hym).2;obtain⟨Ap,cp,ep,_⟩:=hpv.form;obtain⟨Ar,cr,er,_⟩:=hrv.form;have t0:w.cell? ⟨g,k * 5,none⟩=some (.int .i64 y.op):=t 0 (by decide);have t1:w.cell? ⟨g,k * 5+1,none⟩=some (.slice Ap y.ps.length cp):=(t 1 (by decide)).trans (by rw[← ep];rfl);have t2:w.cell? ⟨g,k * 5+2,none⟩=some (.slice Ar y.rs.length cr):=(t 2 (by decide)).trans (by rw[← er];rfl);have t3:w.cell? ⟨g,k * 5+3,none⟩=some (.int .i64 (y.h:Int)):=t 3 (by decide);have t4:w.cell? ⟨g,k * 5+4,none⟩=some (.bool y.dead):=t 4 (by decide);have HTC:Hid (∀ wz,Below w.heap.size w wz→wz.cell? ⟨g,k * 5,none⟩=some (.int .i64 y.op)∧wz.cell? ⟨g,k * 5+1,none⟩=some (.slice Ap y.ps.length cp)∧wz.cell? ⟨g,k * 5+2,none⟩=some (.slice Ar y.rs.length cr)∧wz.cell? ⟨g,k * 5+3,none⟩=some (.int .i64 (y.h:Int))∧wz.cell? ⟨g,k * 5+4,none⟩=some (.bool y.dead)):=hD fun wz hz =>
  ⟨(hz.cell (p:=⟨g,k * 5,none⟩) h3).trans t0,(hz.cell (p:=⟨g,k * 5+1,none⟩) h3).trans t1,(hz.cell (p:=⟨g,k * 5+2,none⟩) h3).trans t2,(hz.cell (p:=⟨g,k * 5+3,none⟩) h3).trans t3,(hz.cell (p:=⟨g,k * 5+4,none⟩) h3).trans t4⟩
 have hp1:=h.p1 hF;rw[hfv]at hp1;have hG:=h.lts.1;have HP1:Hid (∀ wz,Below w.heap.size w wz→wz.cell? ⟨F.G,1,none⟩=some (.slice (some ⟨g,0,none⟩) x.f.length c)):=hD fun wz hz=>(hz.cell (p:=⟨F.G,1,none⟩) hG).trans hp1;have HW:=hD h;have HPV:=hD (ep ▸ hpv:Wf (Wq F w x) w (.slice Ap y.ps.length cp) y.ps);have HRV:=hD (er ▸ hrv:Wf (Wq F w x) w (.slice Ar y.rs.length cr) y.rs);unfold maxLen at h2;clear t t0 t1 t2 t3 t4 hp1 hc hpv hrv ep er hym hy h hfv;generalize x.f.length=m at *;have e1:IntKind.i64.wrap ((m:Int) - 1)=(m:Int) - 1:=IntWalk.i64_in _ (by omega);have e2:IntKind.i64.wrap ((m:Int) - 1 - (n:Int))=(k:Int):=by rw[show(m:Int) - 1 - (n:Int)=(k:Int) by omega];exact IntWalk.i64_in _ (by omega)
 clear hk hn;obtain⟨q,hq⟩:∃ q,(if y.op=3 then y.ps else y.rs)=q:=⟨_,rfl⟩;rw[hq];have HQ:=hD hq;clear hq;go_enter Tryz.func124,Tryz.ntmps124
 go_upto_region 1 with (fail)
 refine Wm.start (S:=fun wz=>Below w.heap.size w wz) (X:=15) (by kernel_rfl) ?_;show Wm _ _ _ _ _ _ 16 #[false,false,false,false,false,false,false,false,false,false,false,false,false,false,false,false] _ _;have hS:=(bR w.heap.size w).drew;generalize w.drew=w1 at hS ⊢;refine Wm.tk 0 6 rfl hS ?_;refine Wm.tk 1 7 rfl hS ?_;refine Wm.tk 2 8 rfl hS ?_;refine Wm.tk 3 9 rfl hS ?_ (hy:=by intro w' hSw;have p1:=HP1.out _ hSw;go_simp;try with_reducible rfl);refine Wm.tk 4 10 rfl hS ?_;refine Wm.tk 5 11 rfl hS ?_;refine Wm.tk 6 12 rfl hS ?_;refine Wm.tk 7 13 rfl hS ?_ (hy:=by intro w' hSw;have p1:=HP1.out _ hSw;go_simp;try with_reducible rfl);refine Wm.tk 8 14 rfl hS ?_;refine Wm.tk 9 15 rfl hS ?_;refine Wm.tk 10 16 rfl hS ?_;refine Wm.tk 11 17 rfl hS ?_;refine Wm.tk 12 18 rfl hS ?_;refine Wm.tk 13 19 rfl hS ?_ (hy:=by intro w' hSw;obtain⟨t0,t1,t2,t3,t4⟩:=HTC.out _ hSw;go_simp;try with_reducible rfl);refine Wm.om 14 5 rfl fun K hK=>?_;go_simp;refine hK.out _ _ (.inr (hS.alloc hS.size _)) ?_;clear hK K;try simp only[sA,List.set]
 refine Wm.on 15 rfl fun K hK=>?_;go_simp;refine hK.out _ _ (.inl rfl) ?_;clear hK K;refine Wm.done (by kernel_rfl) ?_ _;have hbl:Below w.heap.size w (w1.alloc (.cells #[.int .i64 y.op,.slice Ap y.ps.length cp,.slice Ar y.rs.length cr,.int .i64 (y.h:Int),.bool y.dead] 192)):=hS.alloc hS.size _;have HG2:=hD (HW.out.below hbl);clear hbl hS;by_cases h3:y.op=3
 ·have d3:(y.op==3)=true:=by simpa using h3
  obtain rfl:y.ps=q:=by rw[← HQ.out,if_pos h3]
  clear h3 HQ;go_wp2;go_ret;exact⟨Ap,cp,rfl,HG2.out.1,HG2.out.2,HG2.out.2.ints HPV.out⟩
 ·have d3:(y.op==3)=false:=by simpa using h3
  obtain rfl:y.rs=q:=by rw[← HQ.out,if_neg h3]
  clear h3 HQ;go_wp2;go_ret;exact⟨Ar,cr,rfl,HG2.out.1,HG2.out.2,HG2.out.2.ints HRV.out⟩
end
section
open Go.RowKit
set_option maxHeartbeats 4000000
set_option maxRecDepth 100000
theorem divide_any {F:Wx} {w:World} {x:Ws} (hF:F.prg) (h:Wk F w x) (h0:0<x.f.length) (hs:x.s.length≤900000) (hrl:x.top.rs.length≤100000) (hpl:x.top.ps.length≤100000) (hfl:x.f.length≤900000) (hh:x.top.h≤x.s.length) :
 Calls Tryz.prog 121 #[.pointer (some ⟨F.G,0,none⟩)] w (Vy F w x (divideC x.pl)):=by
 have HFI:=hD (finish_any hF h h0 (by omega) (by omega) hh);have hmem:x.top ∈ x.f:=by
  exact Z8
 have hrv:=(h.reads.fr _ hmem).2;have hpv:=(h.reads.fr _ hmem).1;obtain⟨Ar,cr,er,_⟩:=hrv.form;obtain⟨Ap,cp,ep,_⟩:=hpv.form;have HER:=hD er;have HEP:=hD ep;have HRV:=hD (er ▸ hrv:Wf (Wq F w x) w (.slice Ar x.top.rs.length cr) x.top.rs);have HPV:=hD (ep ▸ hpv:Wf (Wq F w x) w (.slice Ap x.top.ps.length cp) x.top.ps);have HF:=hD hF;have HLC:Hid (x.cut.length+x.top.ps.length≤1000000∧(x.f.take (x.f.length - 1)).length+1≤1000000):=hD (by unfold Ws.cut;rw[List.length_take,List.length_take];omega);unfold divideC;clear hrv hpv er ep h hF hmem;cases hme:x.mayEnd with
 | false =>
  have HF2:Hid (Calls Tryz.prog 157 #[.pointer (some ⟨F.G,0,none⟩)] w fun e w'=>∃ x',Wk F w' x'∧Wz F w x w' x'∧e=.returned (.tuple #[.agg #[.int .i64 0,.slice none 0 0,.slice none 0 0,.int .i64 0,.bool false],.bool false])):=hD (HFI.out.mono fun e w' hp=>by
   obtain⟨x',g1,s1,e1,_⟩:=hp;rw[hme]at e1;exact⟨x',g1,s1,e1⟩)
  rw[finish_no hme];clear HFI hme;go_enter Tryz.func121,Tryz.ntmps121;go_wp2_with (go_at_call 157;refine HF2.out.mono ?_;rintro e w1 ⟨x1,g1,s1,rfl⟩;have HG1:=hD g1;have HS1:=hD s1;clear g1 s1)
  go_ret;have h2:=HG1.out.alloc (.cells #[.int .i64 0,.slice none 0 0,.slice none 0 0,.int .i64 0,.bool false] 192);exact⟨x1,h2.1,HS1.out.trans h2.2,rfl,fun q hq=>(by cases hq)⟩
 | true =>
  have HF2:Hid (Calls Tryz.prog 157 #[.pointer (some ⟨F.G,0,none⟩)] w fun e w'=>∃ x',Wk F w' x'∧Wz F w x w' x'∧e=.returned (.tuple #[.agg #[.int .i64 x.top.op,.slice Ap x.top.ps.length cp,.slice Ar x.top.rs.length cr,.int .i64 (x.top.h:Int),.bool x.top.dead],.bool true])∧x'.f=x.f.take (x.f.length - 1)∧x'.s=x.cut):=hD (HFI.out.mono fun e w' hp=>by
   obtain⟨x',g1,s1,e1,hx⟩:=hp;rw[hme,if_pos rfl]at e1;unfold Fv.cells at e1;rw[HER.out,HEP.out]at e1;exact⟨x',g1,s1,e1,hx hme⟩)
  rw[finish_yes hme];clear HFI hme;go_enter Tryz.func121,Tryz.ntmps121
  go_upto_region 3 with (first|(go_at_call 157;refine HF2.out.mono ?_;rintro e w1 ⟨x1,g1,s1,rfl,hxf,hxs⟩;have HG1:=hD g1;have HS1:=hD s1;have HXF:=hD hxf;have HXS:=hD hxs;clear g1 s1 hxf hxs))
  have hg2:=HG1.out.alloc (.cells #[.int .i64 x.top.op,.slice Ap x.top.ps.length cp,.slice Ar x.top.rs.length cr,.int .i64 (x.top.h:Int),.bool x.top.dead] 192);have hc:∀ j:Nat,(w1.alloc (.cells #[.int .i64 x.top.op,.slice Ap x.top.ps.length cp,.slice Ar x.top.rs.length cr,.int .i64 (x.top.h:Int),.bool x.top.dead] 192)).cell? ⟨w1.heap.size,j,none⟩=(#[.int .i64 x.top.op,.slice Ap x.top.ps.length cp,.slice Ar x.top.rs.length cr,.int .i64 (x.top.h:Int),.bool x.top.dead]:Array Value)[j]?:=fun j=>wN ..;have HB2:Hid ((w1.alloc (.cells #[.int .i64 x.top.op,.slice Ap x.top.ps.length cp,.slice Ar x.top.rs.length cr,.int .i64 (x.top.h:Int),.bool x.top.dead] 192)).cell? ⟨w1.heap.size,1,none⟩=some (.slice Ap x.top.ps.length cp)∧(w1.alloc (.cells #[.int .i64 x.top.op,.slice Ap x.top.ps.length cp,.slice Ar x.top.rs.length cr,.int .i64 (x.top.h:Int),.bool x.top.dead] 192)).cell? ⟨w1.heap.size,2,none⟩=some (.slice Ar x.top.rs.length cr)):=hD ⟨hc 1,hc 2⟩;have HFR:=hD (HG1.out.new_free (nR _));have HG2:=hD hg2;clear hg2 hc;generalize w1.alloc (.cells #[.int .i64 x.top.op,.slice Ap x.top.ps.length cp,.slice Ar x.top.rs.length cr,.int .i64 (x.top.h:Int),.bool x.top.dead] 192)=w4 at *;refine wp_region_held_drew (S:=fun wz=>wz.cell? ⟨w1.heap.size,1,none⟩=some (.slice Ap x.top.ps.length cp)∧wz.cell? ⟨w1.heap.size,2,none⟩=some (.slice Ar x.top.rs.length cr)) (by kernel_rfl) HB2.out (fun hS=>?_);show wpAnyH _ _ _ _ _ 6 #[false,false,false,false,false,false] _ _;refine mT 0 13 rfl hS ?_;refine mT 1 14 rfl hS ?_;refine mT 2 15 rfl hS ?_;refine mT 3 16 rfl hS ?_;refine mT 4 17 rfl hS ?_ (hy:=by intro wS hSw;obtain⟨q1,q2⟩:=hSw;go_simp;try with_reducible rfl);have hg3:=HG2.out.1.below ((bR w4.heap.size w4).drew);have hst3:=(HS1.out.trans HG2.out.2).trans hg3.2;have HBG:=hD (begin_any HF.out hg3.1 5 _ _ x.top.ps x.top.rs (hst3.ints HPV.out) (hst3.ints HRV.out) (by rw[HXS.out];exact HLC.out.1) (by rw[HXF.out];exact HLC.out.2));have hlt:w1.heap.size<w4.drew.heap.size:=wL _ _ hS.1;have HS3:=hD hst3;clear hg3 hst3;refine mR 5 18 rfl fun K hK=>?_;go_simp;go_at_call 80;refine HBG.out.mono ?_;rintro e w5 ⟨rfl,x5,g5,s5,hf5,hs5⟩;go_wp2_with fail
  refine hK.out _ _ ⟨(s5.keeps.cell (p:=⟨w1.heap.size,1,none⟩) ⟨hlt,HFR.out⟩).trans hS.1,(s5.keeps.cell (p:=⟨w1.heap.size,2,none⟩) ⟨hlt,HFR.out⟩).trans hS.2⟩ (fun _=>?_);clear hK K;try simp only[sA,List.set]
  refine wpAnyH_done (by kernel_rfl) ?_ _;have HG5:=hD g5;have HS5:=hD s5;have HF5:=hD hf5;have HX5:=hD hs5;clear g5 s5 hf5 hs5 hS;go_wp2;go_ret;refine⟨x5,HG5.out,HS3.out.trans HS5.out,rfl,fun q hq=>?_⟩;obtain rfl:=Option.some.inj hq;show Ws.pl x5=WY _ _ _ _;unfold Ws.pl WY;rw[HF5.out,HX5.out,HXF.out,HXS.out,List.map_append];rfl
end
section
open Go.RowKit
set_option maxHeartbeats 4000000
set_option maxRecDepth 100000
def VL (p:Pl) (a b:List Int):Option Pl:=(WC p a).map fun q=>Vg q b
def VI (F:Wx) (w:World) (x:Ws) (r:Option Pl) (e:Ending) (w':World):Prop :=
 ∃ x',Wk F w' x'∧Wz F w x w' x'∧e=.returned (.bool r.isSome)∧(r.isSome=true→r=some x'.pl)
theorem DPopsPost.fol {F:Wx} {w:World} {x:Ws} {r:Option Pl} {e:Ending} {w':World} (h:DPopsPost F w x r e w'):VI F w x r e w':=by
 obtain⟨x',h1,h2,h3,_,h4⟩:=h;exact⟨x',h1,h2,h3,h4⟩
theorem dgives_any {F:Wx} {w:World} {x:Ws} (hF:F.ref) (h:Wk F w x) (h0:0<x.f.length) (hs:x.s.length≤900000) (hh:x.top.h≤x.s.length) (tv uv:Value) (q r:List Int) (hq:Wf (Wq F w x) w tv q) (hr:Wf (Wq F w x) w uv r) (hql:q.length≤100000) (hrl:r.length≤100000) :
 Calls Tryz.prog 135 #[.pointer (some ⟨F.G,0,none⟩),tv,uv] w (VI F w x (VL x.pl q r)):=by
 have HPP:=hD (VD hF h h0 (by omega) hh tv q hq (by omega));obtain⟨Aq,cq,rfl,_⟩:=hq.form;obtain⟨Ar,cr,rfl,_⟩:=hr.form;have HR:=hD hr;have HF:=hD hF;have HB:=hD (⟨hs,hrl⟩:x.s.length≤900000∧r.length≤100000);unfold VL;obtain⟨R,hR⟩:∃ R,WC x.pl q=R:=⟨_,rfl⟩;rw[hR]at HPP ⊢;generalize q.length=nq at *;clear h h0 hs hh hq hr hF hR hql;cases R with
 | none =>
  go_enter Tryz.func135,Tryz.ntmps135;go_wp2_with (go_at_call 137;refine HPP.out.mono ?_;rintro e w1 ⟨x1,g1,s1,rfl,-,-⟩;have HG1:=hD g1;have HS1:=hD s1;clear g1 s1)
  go_ret;exact⟨x1,HG1.out,HS1.out,rfl,fun hx=>by cases hx⟩
 | some p1 =>
  go_enter Tryz.func135,Tryz.ntmps135;go_wp2_with (first
   | (go_at_call 137;refine HPP.out.mono ?_;rintro e w1 ⟨x1,g1,s1,rfl,l1,r1⟩;have HG1:=hD g1;have HS1:=hD s1;have HL1:=hD l1;have HR1:=hD (r1 rfl);clear g1 s1 l1 r1)
   | (go_at_call 163;refine(U4 HF.out HG1.out _ r (HS1.out.ints HR.out) (by have:=HL1.out.2.1;have:=HB.out;omega)).mono ?_;rintro e w2 ⟨rfl,x2,g2,s2,r2⟩;have HG2:=hD g2;have HS2:=hD s2;have HR2:=hD r2;clear g2 s2 r2))
  go_ret;refine⟨x2,HG2.out,HS1.out.trans HS2.out,rfl,fun _=>?_⟩;have h1:=HR1.out;simp only[Option.some.injEq]at h1;rw[h1,Option.map_some];unfold Vg Ws.pl;rw[HR2.out.1,HR2.out.2]
theorem dsame_is (K:Nat→Prop) (w:World) (v1 v2:Value) (q1 q2:List Int) (h1:Wf K w v1 q1) (h2:Wf K w v2 q2):Calls Tryz.prog 168 #[v1,v2] w (Wh (decide (q1=q2)) w):=by
 obtain⟨A1,c1,hv1,hm1,_⟩:=h1.form;obtain⟨A2,c2,hv2,_,_⟩:=h2.form;unfold maxLen at hm1;rw[hv1]at h1 ⊢;rw[hv2]at h2 ⊢;have H1:=hD h1;have H2:=hD h2;clear h1 h2 hv1 hv2;generalize hQ1:q1.length=n at *;generalize hQ2:q2.length=m at *;have HQ1:=hD hQ1;have HQ2:=hD hQ2;clear hQ1 hQ2;by_cases hnm:n=m
 ·subst hnm;go_enter Tryz.func168,Tryz.ntmps168;go_wp2_with fail
  go_loopw [5] (fun i wr=>∃ k a:Nat,k≤n∧i=.int .i64 (k:Int)∧wr=w.drewN a∧Hid (EqTo q1 q2 0 k)) (fun i _=>n - (intOf i).toNat)
  case atStart=>exact⟨0,0,nZ _,rfl,rfl,hD (EqTo.zero _ _ _)⟩
  case round =>
   exact ZC
 ·have hd:((n:Int) != (m:Int))=true:=by simp;omega
  have HN:Hid (q1≠q2):=hD (ne_len (by rw[HQ1.out,HQ2.out];exact hnm));go_enter Tryz.func168,Tryz.ntmps168;go_wp2;go_ret;exact⟨WV (by rw[decide_eq_false HN.out]),bR _ _⟩
theorem dlabel_yes {F:Wx} {w:World} {x:Ws} (hF:F.ref) (h:Wk F w x) (n:Nat) (hn:n<x.f.length) :
 Calls Tryz.prog 133 #[.pointer (some ⟨F.G,0,none⟩),.int .i64 (n:Int)] w (fun e w'=>∃ A c,e=.returned (.tuple #[.slice A (Ww x.pl n).length c,.bool true])∧Wk F w' x∧Wz F w x w' x∧Wf (Wq F w' x) w' (.slice A (Ww x.pl n).length c) (Ww x.pl n)):=by
 rw[label_is];obtain⟨g,c,hfv,h1,h2,h3,_,hc⟩:=h.fcell (by omega);obtain⟨k,hk⟩:∃ k,x.f.length - 1 - n=k:=⟨_,rfl⟩;rw[hk];have hkl:k<x.f.length:=by omega
 have t:=fun i hi=>hc k hkl i hi fv0;obtain⟨y,hy⟩:∃ y,x.f.getD k fv0=y:=⟨_,rfl⟩;have hym:y ∈ x.f:=by rw[← hy,List.getD_eq_getElem?_getD,List.getElem?_eq_getElem hkl];exact List.getElem_mem _
 rw[hy]at t ⊢;have hpv:=(h.reads.fr _ hym).1;have hrv:=(h.reads.fr _ hym).2;obtain⟨Ap,cp,ep,_⟩:=hpv.form;obtain⟨Ar,cr,er,_⟩:=hrv.form;have t0:w.cell? ⟨g,k * 5,none⟩=some (.int .i64 y.op):=t 0 (by decide);have t1:w.cell? ⟨g,k * 5+1,none⟩=some (.slice Ap y.ps.length cp):=(t 1 (by decide)).trans (by rw[← ep];rfl);have t2:w.cell? ⟨g,k * 5+2,none⟩=some (.slice Ar y.rs.length cr):=(t 2 (by decide)).trans (by rw[← er];rfl);have t3:w.cell? ⟨g,k * 5+3,none⟩=some (.int .i64 (y.h:Int)):=t 3 (by decide);have t4:w.cell? ⟨g,k * 5+4,none⟩=some (.bool y.dead):=t 4 (by decide);have HTC:Hid (∀ wz,Below w.heap.size w wz→wz.cell? ⟨g,k * 5,none⟩=some (.int .i64 y.op)∧wz.cell? ⟨g,k * 5+1,none⟩=some (.slice Ap y.ps.length cp)∧wz.cell? ⟨g,k * 5+2,none⟩=some (.slice Ar y.rs.length cr)∧wz.cell? ⟨g,k * 5+3,none⟩=some (.int .i64 (y.h:Int))∧wz.cell? ⟨g,k * 5+4,none⟩=some (.bool y.dead)):=hD fun wz hz =>
  ⟨(hz.cell (p:=⟨g,k * 5,none⟩) h3).trans t0,(hz.cell (p:=⟨g,k * 5+1,none⟩) h3).trans t1,(hz.cell (p:=⟨g,k * 5+2,none⟩) h3).trans t2,(hz.cell (p:=⟨g,k * 5+3,none⟩) h3).trans t3,(hz.cell (p:=⟨g,k * 5+4,none⟩) h3).trans t4⟩
 have p12:=h.d12 hF;rw[hfv]at p12;have hG:=h.lts.1;have HP1:Hid (∀ wz,Below w.heap.size w wz→wz.cell? ⟨F.G,12,none⟩=some (.slice (some ⟨g,0,none⟩) x.f.length c)):=hD fun wz hz=>(hz.cell (p:=⟨F.G,12,none⟩) hG).trans p12;have HW:=hD h;have HPV:=hD (ep ▸ hpv:Wf (Wq F w x) w (.slice Ap y.ps.length cp) y.ps);have HRV:=hD (er ▸ hrv:Wf (Wq F w x) w (.slice Ar y.rs.length cr) y.rs);unfold maxLen at h2;clear t t0 t1 t2 t3 t4 hc hpv hrv ep er hym hy h hfv;generalize x.f.length=m at *;have e1:IntKind.i64.wrap ((m:Int) - 1)=(m:Int) - 1:=IntWalk.i64_in _ (by omega);have e2:IntKind.i64.wrap ((m:Int) - 1 - (n:Int))=(k:Int):=by rw[show(m:Int) - 1 - (n:Int)=(k:Int) by omega];exact IntWalk.i64_in _ (by omega)
 have d1:decide ((n:Int)<0)=false:=by simp
 have d2:decide (m≤n)=false:=by simp;omega
 clear hk hn;obtain⟨q,hq⟩:∃ q,(if y.op=3 then y.ps else y.rs)=q:=⟨_,rfl⟩;rw[hq];have HQ:=hD hq;clear hq;go_enter Tryz.func133,Tryz.ntmps133
 go_upto_region 3 with (fail)
 refine Wm.start (S:=fun wz=>Below w.heap.size w wz) (X:=15) (by kernel_rfl) ?_;show Wm _ _ _ _ _ _ 16 #[false,false,false,false,false,false,false,false,false,false,false,false,false,false,false,false] _ _;have hS:=(bR w.heap.size w).drew;generalize w.drew=w1 at hS ⊢;refine Wm.tk 0 18 rfl hS ?_;refine Wm.tk 1 19 rfl hS ?_;refine Wm.tk 2 20 rfl hS ?_;refine Wm.tk 3 21 rfl hS ?_ (hy:=by intro w' hSw;have p1:=HP1.out _ hSw;go_simp;try with_reducible rfl);refine Wm.tk 4 22 rfl hS ?_;refine Wm.tk 5 23 rfl hS ?_;refine Wm.tk 6 24 rfl hS ?_;refine Wm.tk 7 25 rfl hS ?_ (hy:=by intro w' hSw;have p1:=HP1.out _ hSw;go_simp;try with_reducible rfl);refine Wm.tk 8 26 rfl hS ?_;refine Wm.tk 9 27 rfl hS ?_;refine Wm.tk 10 28 rfl hS ?_;refine Wm.tk 11 29 rfl hS ?_;refine Wm.tk 12 30 rfl hS ?_;refine Wm.tk 13 31 rfl hS ?_ (hy:=by intro w' hSw;obtain⟨t0,t1,t2,t3,t4⟩:=HTC.out _ hSw;go_simp;try with_reducible rfl);refine Wm.om 14 6 rfl fun K hK=>?_;go_simp;refine hK.out _ _ (.inr (hS.alloc hS.size _)) ?_;clear hK K;try simp only[sA,List.set]
 refine Wm.on 15 rfl fun K hK=>?_;go_simp;refine hK.out _ _ (.inl rfl) ?_;clear hK K;refine Wm.done (by kernel_rfl) ?_ _;have hbl:Below w.heap.size w (w1.alloc (.cells #[.int .i64 y.op,.slice Ap y.ps.length cp,.slice Ar y.rs.length cr,.int .i64 (y.h:Int),.bool y.dead] 122)):=hS.alloc hS.size _;have HG2:=hD (HW.out.below hbl);clear hbl hS;by_cases h3:y.op=3
 ·have d3:(y.op==3)=true:=by simpa using h3
  obtain rfl:y.ps=q:=by rw[← HQ.out,if_pos h3]
  clear h3 HQ;go_wp2
  go_ret2
  exact⟨Ap,cp,rfl,HG2.out.1,HG2.out.2,HG2.out.2.ints HPV.out⟩
 ·have d3:(y.op==3)=false:=by simpa using h3
  obtain rfl:y.rs=q:=by rw[← HQ.out,if_neg h3]
  clear h3 HQ;go_wp2
  go_ret2
  exact⟨Ar,cr,rfl,HG2.out.1,HG2.out.2,HG2.out.2.ints HRV.out⟩
end
end Go.Proofs.YtmfpnfdinoofpaaGreatDoor
