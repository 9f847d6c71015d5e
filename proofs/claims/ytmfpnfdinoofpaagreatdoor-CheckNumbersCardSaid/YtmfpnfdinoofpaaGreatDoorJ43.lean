/- A part of the proof. -/
import Derived.Test.YtmfpnfdinoofpaaGreatDoorJ31
import Derived.Test.YtmfpnfdinoofpaaGreatDoorJ40
import Derived.Test.YtmfpnfdinoofpaaGreatDoorJ36
import Derived.Test.YtmfpnfdinoofpaaGreatDoorJ33
namespace Go.Proofs.YtmfpnfdinoofpaaGreatDoor
section
open Go.RowKit
set_option maxHeartbeats 4000000
set_option maxRecDepth 100000
theorem Zbv {P:Prop}(h:P:=by
 go_enter Tryz.func139,Tryz.ntmps139
 go_upto_region 1 with (fail)
 rw[← HW.out];go_wp2_with ((go_at_call 167;refine(HSH.out).mono ?_;rintro e w3 ⟨x3,g3,s3,rfl,r3⟩;have HG3:=hD g3;have HS3:=hD s3;have HR3:=hD r3;clear g3 s3 r3))
 go_ret;exact⟨x3,(HG3.out.alloc _).1,(HG.out.2.trans HS3.out).trans (HG3.out.alloc _).2,rfl,fun hx=>by cases hx⟩):P:=h
theorem dcontrol_0 {F:Wx} {w:World} {x:Ws} (hF:F.ref) (h:Wk F w x) (h0:0<x.f.length) (hh:x.top.h≤x.s.length) (a b n:Int) (Al:Option Addr) (nl cl:Nat) :
 Calls Tryz.prog 139 #[.pointer (some ⟨F.G,0,none⟩),.agg #[.int .i64 0,.int .i64 a,.int .i64 b,.int .u64 n,.slice Al nl cl]] w (VI F w x (some (VP x.pl))):=by
 obtain⟨W,hW⟩:∃ W,W=w.alloc (.cells #[.int .i64 0,.int .i64 a,.int .i64 b,.int .u64 n,.slice Al nl cl] 25):=⟨_,rfl⟩;have k0:W.cell? ⟨w.heap.size,0,none⟩=some (.int .i64 0):=by rw[hW,wN];rfl
 have hgs:=h.alloc (.cells #[.int .i64 0,.int .i64 a,.int .i64 b,.int .u64 n,.slice Al nl cl] 25);rw[← hW]at hgs;have HG:=hD hgs;have HW:=hD hW;have HF:=hD hF;have HDD:=hD (ddead_any hF hgs.1 h0 hh);clear h h0 hh hgs hW hF;go_enter Tryz.func139,Tryz.ntmps139
 go_upto_region 1 with (fail)
 rw[← HW.out];go_wp2_with (go_at_call 165;refine(HDD.out).mono ?_;rintro e w9 ⟨rfl,x9,g9,s9,a9,b9⟩;have HG9:=hD g9;have HS9:=hD s9;have HA9:=hD a9;have HB9:=hD b9;clear g9 s9 a9 b9)
 go_ret;exact⟨x9,HG9.out,HG.out.2.trans HS9.out,rfl,fun _=>by rw[dead_pl HA9.out HB9.out]⟩
theorem dcontrol_5 {F:Wx} {w:World} {x:Ws} (hF:F.ref) (h:Wk F w x) (h0:0<x.f.length) (hs:x.s.length≤900000) (hh:x.top.h≤x.s.length) (hfl:x.f.length≤900000) (hpl:x.top.ps.length≤10000) (hrl:x.top.rs.length≤10000) (a b n:Int) (Al:Option Addr) (nl cl:Nat) :
 Calls Tryz.prog 139 #[.pointer (some ⟨F.G,0,none⟩),.agg #[.int .i64 5,.int .i64 a,.int .i64 b,.int .u64 n,.slice Al nl cl]] w (VI F w x ((Uz x.pl).map fun q=>WY q.2 5 q.1.ps q.1.rs)):=by
 obtain⟨W,hW⟩:∃ W,W=w.alloc (.cells #[.int .i64 5,.int .i64 a,.int .i64 b,.int .u64 n,.slice Al nl cl] 25):=⟨_,rfl⟩;have k0:W.cell? ⟨w.heap.size,0,none⟩=some (.int .i64 5):=by rw[hW,wN];rfl
 have hgs:=h.alloc (.cells #[.int .i64 5,.int .i64 a,.int .i64 b,.int .u64 n,.slice Al nl cl] 25);rw[← hW]at hgs;have HG:=hD hgs;have HW:=hD hW;have HF:=hD hF;have hmem:x.top ∈ x.f:=by
  exact Z8
 have hrv:=(hgs.1.reads.fr _ hmem).2;have hpv:=(hgs.1.reads.fr _ hmem).1;obtain⟨Ar,cr,er,_⟩:=hrv.form;obtain⟨Ap,cp,ep,_⟩:=hpv.form;have hsh:=dshut_any hF hgs.1 h0 (by omega) (by omega) hh;unfold DShutPost Fv.cells at hsh;rw[er]at hrv;rw[ep]at hpv;rw[er,ep]at hsh;have HSH:=hD hsh;have HRV:=hD hrv;have HPV:=hD hpv;have HX:=hD (⟨h0,hs,hh,hfl,hpl,hrl⟩:0<x.f.length∧x.s.length≤900000∧x.top.h≤x.s.length∧x.f.length≤900000∧x.top.ps.length≤10000∧x.top.rs.length≤10000);obtain⟨R,hR⟩:∃ R,Uz x.pl=R:=⟨_,rfl⟩;rw[hR]at HSH ⊢;clear h h0 hs hh hgs hW hF hmem hrv hpv er ep hsh hR hfl hpl hrl;generalize x.top.ps.length=np at HSH HPV;generalize x.top.rs.length=nr at HSH HRV;have HTF:Hid (x.top.fr.ps=x.top.ps∧x.top.fr.rs=x.top.rs∧x.top.fr.op=x.top.op):=hD ⟨rfl,rfl,rfl⟩;cases R with
 | none =>
  exact Zbv
 | some u =>
  go_enter Tryz.func139,Tryz.ntmps139
  go_upto_region 1 with (fail)
  rw[← HW.out]
  go_upto_region 15 with ((go_at_call 167;refine(HSH.out).mono ?_;rintro e w3 ⟨x3,g3,s3,rfl,r3⟩;have HG3:=hD g3;have HS3:=hD s3;have HR3:=hD r3;clear g3 s3 r3))
  have hr:=HR3.out rfl;have hg4:=HG3.out.alloc (.cells #[.int .i64 x.top.op,.slice Ap np cp,.slice Ar nr cr,.int .i64 (x.top.h:Int),.bool x.top.dead] 122);have HOP:=hD (dopen_any HF.out hg4.1 5 _ _ x.top.ps x.top.rs (hg4.2.ints (HS3.out.ints HPV.out)) (hg4.2.ints (HS3.out.ints HRV.out)) (by have:=HX.out.2.2.2.2.1;have:=hr.2.1;have:=HX.out.2.1;omega) (by rw[hr.1,List.length_take];have:=HX.out.2.2.2.1;omega));have HG4:=hD hg4.2;have HRR:=hD hr;clear hr hg4 HR3;go_wp2_with (go_at_call 166;refine(HOP.out).mono ?_;rintro e w6 ⟨rfl,x6,g6,s6,a6,b6⟩;have HG6:=hD g6;have HS6:=hD s6;have HA6:=hD a6;have HB6:=hD b6;clear g6 s6 a6 b6)
  go_ret;refine⟨x6,HG6.out,((HG.out.2.trans HS3.out).trans HG4.out).trans HS6.out,rfl,fun _=>?_⟩;have h1:=HRR.out.2.2;simp only[Option.some.injEq]at h1;subst h1;show some _=some _;unfold WY Ws.pl;rw[HA6.out,HB6.out,List.map_append];rfl
theorem dcontrol_11 {F:Wx} {w:World} {x:Ws} (hF:F.ref) (h:Wk F w x) (h0:0<x.f.length) (hs:x.s.length≤900000) (hh:x.top.h≤x.s.length) (hfl:x.f.length≤900000) (hpl:x.top.ps.length≤10000) (hrl:x.top.rs.length≤10000) (a b n:Int) (Al:Option Addr) (nl cl:Nat) :
 Calls Tryz.prog 139 #[.pointer (some ⟨F.G,0,none⟩),.agg #[.int .i64 11,.int .i64 a,.int .i64 b,.int .u64 n,.slice Al nl cl]] w (VI F w x ((Uz x.pl).bind fun q=>if q.1.op=4∧q.1.ps≠q.1.rs then none else some (Vg q.2 q.1.rs))):=by
 obtain⟨W,hW⟩:∃ W,W=w.alloc (.cells #[.int .i64 11,.int .i64 a,.int .i64 b,.int .u64 n,.slice Al nl cl] 25):=⟨_,rfl⟩;have k0:W.cell? ⟨w.heap.size,0,none⟩=some (.int .i64 11):=by rw[hW,wN];rfl
 have hgs:=h.alloc (.cells #[.int .i64 11,.int .i64 a,.int .i64 b,.int .u64 n,.slice Al nl cl] 25);rw[← hW]at hgs;have HG:=hD hgs;have HW:=hD hW;have HF:=hD hF;have hmem:x.top ∈ x.f:=by
  exact Z8
 have hrv:=(hgs.1.reads.fr _ hmem).2;have hpv:=(hgs.1.reads.fr _ hmem).1;obtain⟨Ar,cr,er,_⟩:=hrv.form;obtain⟨Ap,cp,ep,_⟩:=hpv.form;have hsh:=dshut_any hF hgs.1 h0 (by omega) (by omega) hh;unfold DShutPost Fv.cells at hsh;rw[er]at hrv;rw[ep]at hpv;rw[er,ep]at hsh;have HSH:=hD hsh;have HRV:=hD hrv;have HPV:=hD hpv;have HX:=hD (⟨h0,hs,hh,hfl,hpl,hrl⟩:0<x.f.length∧x.s.length≤900000∧x.top.h≤x.s.length∧x.f.length≤900000∧x.top.ps.length≤10000∧x.top.rs.length≤10000);obtain⟨R,hR⟩:∃ R,Uz x.pl=R:=⟨_,rfl⟩;rw[hR]at HSH ⊢;clear h h0 hs hh hgs hW hF hmem hrv hpv er ep hsh hR hfl hpl hrl;generalize x.top.ps.length=np at HSH HPV;generalize x.top.rs.length=nr at HSH HRV;have HTF:Hid (x.top.fr.ps=x.top.ps∧x.top.fr.rs=x.top.rs∧x.top.fr.op=x.top.op):=hD ⟨rfl,rfl,rfl⟩;cases R with
 | none =>
  exact Zbv
 | some u =>
  go_enter Tryz.func139,Tryz.ntmps139
  go_upto_region 1 with (fail)
  rw[← HW.out]
  go_upto_region 20 with ((go_at_call 167;refine(HSH.out).mono ?_;rintro e w3 ⟨x3,g3,s3,rfl,r3⟩;have HG3:=hD g3;have HS3:=hD s3;have HR3:=hD r3;clear g3 s3 r3))
  have hr:=HR3.out rfl;have hg4:=HG3.out.alloc (.cells #[.int .i64 x.top.op,.slice Ap np cp,.slice Ar nr cr,.int .i64 (x.top.h:Int),.bool x.top.dead] 122);have hu:=hr.2.2;simp only[Option.some.injEq]at hu;have hps:=hg4.2.ints (HS3.out.ints HPV.out);have hrs:=hg4.2.ints (HS3.out.ints HRV.out);have HPU:=hD (fun wz (hz:Below (w3.alloc (.cells #[.int .i64 x.top.op,.slice Ap np cp,.slice Ar nr cr,.int .i64 (x.top.h:Int),.bool x.top.dead] 122)).heap.size (w3.alloc (.cells #[.int .i64 x.top.op,.slice Ap np cp,.slice Ar nr cr,.int .i64 (x.top.h:Int),.bool x.top.dead] 122)) wz)=>U4 HF.out (hg4.1.below hz).1 _ x.top.rs ((hg4.1.below hz).2.ints hrs) (by have:=HX.out.2.2.2.2.2;have:=hr.2.1;have:=HX.out.2.1;omega));have HSA:=hD (dsame_is _ _ _ _ x.top.ps x.top.rs hps hrs);have HG4:=hD hg4;have HU:=hD hu;have HY:Hid (∀ wz,Below (w3.alloc (.cells #[.int .i64 x.top.op,.slice Ap np cp,.slice Ar nr cr,.int .i64 (x.top.h:Int),.bool x.top.dead] 122)).heap.size (w3.alloc (.cells #[.int .i64 x.top.op,.slice Ap np cp,.slice Ar nr cr,.int .i64 (x.top.h:Int),.bool x.top.dead] 122)) wz→wz.cell? ⟨w3.heap.size,0,none⟩=some (.int .i64 x.top.op)∧wz.cell? ⟨w3.heap.size,1,none⟩=some (.slice Ap np cp)∧wz.cell? ⟨w3.heap.size,2,none⟩=some (.slice Ar nr cr)):=hD fun wz hz =>
   have c:∀ j v,(w3.alloc (.cells #[.int .i64 x.top.op,.slice Ap np cp,.slice Ar nr cr,.int .i64 (x.top.h:Int),.bool x.top.dead] 122)).cell? ⟨w3.heap.size,j,none⟩=some v→wz.cell? ⟨w3.heap.size,j,none⟩=some v:=fun j v hc=>(hz.cell (wL _ _ hc)).trans hc
   ⟨c 0 _ (wN w3 _ _ 0),c 1 _ (wN w3 _ _ 1),c 2 _ (wN w3 _ _ 2)⟩
  clear hr hg4 HR3 hu hps hrs;obtain⟨y0,y1,y2⟩:=HY.out _ (bR _ _);generalize w3.alloc (.cells #[.int .i64 x.top.op,.slice Ap np cp,.slice Ar nr cr,.int .i64 (x.top.h:Int),.bool x.top.dead] 122)=w4 at *;by_cases c4:x.top.op=4
  ·have d4:(x.top.op==4)=true:=by simpa using c4
   cases hd:decide (x.top.ps=x.top.rs) with
   | false =>
    rw[hd]at HSA;have HN:=hD (of_decide_eq_false hd);have HC4:=hD c4;clear hd c4;go_wp2_with (go_at_call 168;refine HSA.out.mono ?_;rintro e w5 ⟨rfl,hb5⟩;have HB5:=hD hb5;clear hb5)
    go_ret;have hn:(if u.1.op=4∧u.1.ps≠u.1.rs then none else some (Vg u.2 u.1.rs))=none:=by rw[HU.out];exact if_pos ⟨HC4.out,HN.out⟩
    exact⟨x3,(HG4.out.1.below HB5.out).1,((HG.out.2.trans HS3.out).trans HG4.out.2).trans (HG4.out.1.below HB5.out).2,by rw[Option.bind_some,hn];rfl,fun hx=>by rw[Option.bind_some,hn]at hx;cases hx⟩
   | true =>
    rw[hd]at HSA;have HN:=hD (of_decide_eq_true hd);clear hd c4
    go_upto_region 22 with (go_at_call 168;refine HSA.out.mono ?_;rintro e w5 ⟨rfl,hb5⟩;have HB5:=hD hb5;clear hb5)
    obtain⟨v0,v1,v2⟩:=HY.out _ HB5.out;have HPV5:=hD (HPU.out _ HB5.out);go_wp2_with (go_at_call 163;refine HPV5.out.mono ?_;rintro e w6 ⟨rfl,x6,g6,s6,a6,b6⟩;have HG6:=hD g6;have HS6:=hD s6;have HA6:=hD a6;have HB6:=hD b6;clear g6 s6 a6 b6)
    go_ret;have hn:(if u.1.op=4∧u.1.ps≠u.1.rs then none else some (Vg u.2 u.1.rs))=some x6.pl:=by
     rw[HU.out];refine(if_neg fun hx=>hx.2 HN.out).trans ?_;unfold Vg Ws.pl;rw[HA6.out,HB6.out];rfl
    exact⟨x6,HG6.out,(((HG.out.2.trans HS3.out).trans HG4.out.2).trans (HG4.out.1.below HB5.out).2).trans HS6.out,by rw[Option.bind_some,hn];rfl,fun _=>by rw[Option.bind_some,hn]⟩
  ·have d4:(x.top.op==4)=false:=by simpa using c4
   have HC4:=hD c4;have HPV5:=hD (HPU.out _ (bR _ _));clear c4;go_wp2_with (go_at_call 163;refine HPV5.out.mono ?_;rintro e w6 ⟨rfl,x6,g6,s6,a6,b6⟩;have HG6:=hD g6;have HS6:=hD s6;have HA6:=hD a6;have HB6:=hD b6;clear g6 s6 a6 b6)
   go_ret;have hn:(if u.1.op=4∧u.1.ps≠u.1.rs then none else some (Vg u.2 u.1.rs))=some x6.pl:=by
    rw[HU.out];refine(if_neg fun hx=>HC4.out hx.1).trans ?_;unfold Vg Ws.pl;rw[HA6.out,HB6.out];rfl
   exact⟨x6,HG6.out,((HG.out.2.trans HS3.out).trans HG4.out.2).trans HS6.out,by rw[Option.bind_some,hn];rfl,fun _=>by rw[Option.bind_some,hn]⟩
end
section
open Go.RowKit
set_option maxHeartbeats 4000000
set_option maxRecDepth 100000
theorem Zbt {P:Prop}(h:P:=by
 rw[← hX,← hRR];have HBX:=hD hbx;clear hX hRR hbx HP HR HB1 b0 b1 b2 b3 b4 b5 b6 b7 k1;go_wp2_with fail
 go_quiet (fail)
 go_wp2
 go_ret2
 have hd:=Wt (bR X.heap.size X) nq;exact⟨_,_,rfl,HPX.out.keep (We.below hd fun _ hk=>hk.2) fun _ hk=>⟨hk.1,Ve hk.2 hd.size⟩,HRX.out.keep (We.below hd fun _ hk=>hk.2) fun _ hk=>⟨hk.1,Ve hk.2 hd.size⟩,Wa HB.out (Wa HBX.out hd)⟩):P:=h
theorem U1 {w W1 w1:World} (hb:w.heap.size≤W1.heap.size) {v:Value} {l:List Int} (hi:Wf (fun k=>False∨(W1.heap.size≤k∧k<w1.heap.size)) w1 v l) (o:Obj):Wf (fun k=>w.heap.size≤k∧k<(w1.alloc o).heap.size) (w1.alloc o) v l :=
 hi.keep (We.below (Wb (bR _ _) o) fun k hk=>by rcases hk with hk|hk;exact hk.elim;exact hk.2) fun k hk=>by
  rw[Wj];rcases hk with hk|hk
  ·exact hk.elim
  ·omega
theorem Uh {w W1 w1:World} {B:Nat} (hb:w.heap.size≤W1.heap.size) (hB:B<W1.heap.size) {v:Value} {l:List Int} (hi:Wf (fun k=>False∨(W1.heap.size≤k∧k<w1.heap.size)) w1 v l) (a b:Value):Wf (fun k=>w.heap.size≤k∧k<((w1.setCell ⟨B,0,none⟩ a).setCell ⟨B,1,none⟩ b).heap.size) ((w1.setCell ⟨B,0,none⟩ a).setCell ⟨B,1,none⟩ b) v l :=
 UY hi (fun hk=>by rcases hk with hk|hk;exact hk.elim;omega) fun k hk=>by
  have e:((w1.setCell ⟨B,0,none⟩ a).setCell ⟨B,1,none⟩ b).heap.size=w1.heap.size:=by simp[World.setCell]
  rw[e];rcases hk with hk|hk
  ·exact hk.elim
  ·omega
theorem effect_16 {F:Wx} {w:World} {x:Ws} (hF:F.prg) (h:Wk F w x) (hs:Vq F.m) (a b n:Int) (ha : -9223372036854775808≤a∧a≤9223372036854775807) (Al:Option Addr) (nl cl:Nat) :
 Calls Tryz.prog 130 #[.pointer (some ⟨F.G,0,none⟩),.agg #[.int .i64 16,.int .i64 a,.int .i64 b,.int .u64 n,.slice Al nl cl]] w (Uv ((WB F.m a).getD ([],[])) w):=by
 obtain⟨W,hW⟩:∃ W,W=w.alloc (.cells #[.int .i64 16,.int .i64 a,.int .i64 b,.int .u64 n,.slice Al nl cl] 25):=⟨_,rfl⟩;have hk:∀ j:Nat,W.cell? ⟨w.heap.size,j,none⟩=(#[.int .i64 16,.int .i64 a,.int .i64 b,.int .u64 n,.slice Al nl cl]:Array Value)[j]?:=fun j=>by rw[hW,wN]
 have k0:=hk 0;have k1:=hk 1;simp only[List.getElem?_toArray,List.getElem?_cons_zero,List.getElem?_cons_succ]at k0 k1;have hgs:=h.alloc (.cells #[.int .i64 16,.int .i64 a,.int .i64 b,.int .u64 n,.slice Al nl cl] 25);rw[← hW]at hgs;have hg:=hgs.1;have HGS:=hD hgs;have hb:Below w.heap.size w W:=hW ▸ (bR _ _).alloc (nR _) _;have HCA:=hD (fun wz (hz:Below W.heap.size W wz)=>sig_any wz F.v F.m ((hg.below hz).1.reads.mod.keep (.refl _ _) fun _ hk=>hk.1) hs a ha);obtain⟨A0,c0,A1,c1,A2,c2,A3,c3,A4,c4,A5,c5,A6,c6,A7,c7,hv⟩:=Wr hg.reads.mod;have HX:Hid (∀ wz,Below W.heap.size W wz→wz.cell? ⟨w.heap.size,0,none⟩=some (.int .i64 16)∧wz.cell? ⟨w.heap.size,1,none⟩=some (.int .i64 a)):=hD fun wz hz=>⟨(hz.cell (p:=⟨w.heap.size,0,none⟩) (wL W _ k0)).trans k0,(hz.cell (p:=⟨w.heap.size,1,none⟩) (wL W _ k1)).trans k1⟩;have HY:Hid (∀ wz,Below W.heap.size W wz→∀ j,wz.cell? ⟨F.G,j,none⟩=(WN F x)[j]?):=hD fun wz hz j=>(hg.below hz).1.cell j;unfold WN at HY;rw[hF.1,hv]at HY;rw[hv]at HCA;simp only[Mv.cells,Bool.false_eq_true,if_false]at HCA HY;generalize F.m.types.length=n0 at *;generalize F.m.imps.length=n1 at *;generalize F.m.funs.length=n2 at *;generalize F.m.mems.length=n3 at *;generalize F.m.globs.length=n4 at *;generalize F.m.exps.length=n5 at *;generalize F.m.datas.length=n6 at *;generalize F.m.cus.length=n7 at *;have HW:=hD hW;have HB:=hD hb;have HBZ:=hD hb.size;have HF:=hD hF;have HS:Hid (∀ wz,Below W.heap.size W wz→wz.cell? ⟨F.G,2,none⟩=some (.slice A0 n0 c0)∧wz.cell? ⟨F.G,3,none⟩=some (.slice A1 n1 c1)∧wz.cell? ⟨F.G,4,none⟩=some (.slice A2 n2 c2)∧wz.cell? ⟨F.G,5,none⟩=some (.slice A3 n3 c3)∧wz.cell? ⟨F.G,6,none⟩=some (.slice A4 n4 c4)∧wz.cell? ⟨F.G,7,none⟩=some (.slice A5 n5 c5)∧wz.cell? ⟨F.G,8,none⟩=some (.slice A6 n6 c6)∧wz.cell? ⟨F.G,9,none⟩=some (.slice A7 n7 c7)∧wz.cell? ⟨w.heap.size,1,none⟩=some (.int .i64 a)):=hD fun wz hz=>⟨HY.out wz hz 2,HY.out wz hz 3,HY.out wz hz 4,HY.out wz hz 5,HY.out wz hz 6,HY.out wz hz 7,HY.out wz hz 8,HY.out wz hz 9,(HX.out wz hz).2⟩;generalize WB F.m a=t at HCA ⊢;clear h hg hgs hv hb hW hF hs HX HY HGS HF hk;go_enter Tryz.func130,Tryz.ntmps130
 go_upto_region 1 with (fail)
 rw[← HW.out]
 go_upto_region 6 with (fail)
 clear k0 k1;obtain⟨b0,b1,b2,b3,b4,b5,b6,b7,k1⟩:=HS.out W (bR W.heap.size W)
 go_region_held3 (fun wz=>wz.cell? ⟨F.G,2,none⟩=some (.slice A0 n0 c0)∧wz.cell? ⟨F.G,3,none⟩=some (.slice A1 n1 c1)∧wz.cell? ⟨F.G,4,none⟩=some (.slice A2 n2 c2)∧wz.cell? ⟨F.G,5,none⟩=some (.slice A3 n3 c3)∧wz.cell? ⟨F.G,6,none⟩=some (.slice A4 n4 c4)∧wz.cell? ⟨F.G,7,none⟩=some (.slice A5 n5 c5)∧wz.cell? ⟨F.G,8,none⟩=some (.slice A6 n6 c6)∧wz.cell? ⟨F.G,9,none⟩=some (.slice A7 n7 c7)∧wz.cell? ⟨w.heap.size,1,none⟩=some (.int .i64 a))
  (first|go_keep|exact⟨b0,b1,b2,b3,b4,b5,b6,b7,k1⟩|exact HS.out _ HB1.out|exact HS.out _ (Wb HB1.out _)|exact HS.out _ (WL HB1.out (Below.size (bR W.heap.size W))))
  ((go_at_call 52;refine(HCA.out _ (by first|exact Wa (bR W.heap.size W) ((bR _ _).drew)|exact Wa (bR W.heap.size W) (Wb ((bR _ _).drew) _))).mono ?_;rintro e w1 ⟨p,r,rfl,hp,hr,hb1⟩;obtain⟨A8,e8,rfl,_,_⟩:=hp.form;obtain⟨A9,e9,rfl,_,_⟩:=hr.form;have HB1:Hid (Below W.heap.size W w1):=hD (by first|exact Wa (Wa (bR W.heap.size W) ((bR _ _).drew)) hb1|exact Wa (Wa (bR W.heap.size W) (Wb ((bR _ _).drew) _)) hb1);(first|(have hN:=Vj (W).drew (.cells #[.slice none 0 0,.slice none 0 0] 40);have hZ:w1.heap[(W).heap.size]?=some (.cells #[.slice none 0 0,.slice none 0 0] 40 (0,0)):=(hb1.block (W).heap.size (Array.getElem?_eq_some_iff.1 hN).1).trans hN;clear hN;have z0:=WG hZ 0;have z1:=WG hZ 1;have f0:=Va hZ 0;have f1:=Va hZ 1;simp only[List.getElem?_toArray,List.getElem?_cons_zero,List.getElem?_cons_succ]at z0 z1;have HZ:=hD hZ;clear hZ)|skip);have HP:=hD hp;have HR:=hD hr;clear hp hr hb1))
 ·skip
  obtain⟨X,hX⟩:∃ X,X=w1.alloc (.cells #[.slice A8 (t.getD ([],[])).1.length e8,.slice A9 (t.getD ([],[])).2.length e9] 40):=⟨_,rfl⟩;obtain⟨RR,hRR⟩:∃ RR,RR=w1.heap.size:=⟨_,rfl⟩;have hw2:w.heap.size≤(W).heap.size:=Nat.le_trans HBZ.out (Below.size (bR W.heap.size W));have y0:X.cell? ⟨RR,0,none⟩=some (.slice A8 (t.getD ([],[])).1.length e8):=by rw[hX,hRR,wN];rfl
  have y1:X.cell? ⟨RR,1,none⟩=some (.slice A9 (t.getD ([],[])).2.length e9):=by rw[hX,hRR,wN];rfl
  have hbx:Below W.heap.size W X:=hX ▸ Wb HB1.out _;have HPX:Hid (Wf (fun k=>w.heap.size≤k∧k<X.heap.size) X (.slice A8 (t.getD ([],[])).1.length e8) (t.getD ([],[])).1):=hD (by rw[hX];exact U1 (w:=w) (by exact hw2) HP.out _);have HRX:Hid (Wf (fun k=>w.heap.size≤k∧k<X.heap.size) X (.slice A9 (t.getD ([],[])).2.length e9) (t.getD ([],[])).2):=hD (by rw[hX];exact U1 (w:=w) (by exact hw2) HR.out _);have hrw:W.heap.size≤RR:=by rw[hRR];exact HB1.out.size
  exact Zbt
 ·skip
  obtain⟨X,hX⟩:∃ X,X=(w1.setCell ⟨(W).heap.size,0,none⟩ (.slice A8 (t.getD ([],[])).1.length e8)).setCell ⟨(W).heap.size,1,none⟩ (.slice A9 (t.getD ([],[])).2.length e9):=⟨_,rfl⟩;obtain⟨RR,hRR⟩:∃ RR,RR=(W).heap.size:=⟨_,rfl⟩;have hw2:w.heap.size≤(W).heap.size:=Nat.le_trans HBZ.out (Below.size (bR W.heap.size W));have s1:=Wg w1 (W).heap.size 0 _ _ (.slice A8 (t.getD ([],[])).1.length e8) HZ.out;have s2:=Wg _ (W).heap.size 1 _ _ (.slice A9 (t.getD ([],[])).2.length e9) s1;rw[← hX,← hRR]at s2;have y0:X.cell? ⟨RR,0,none⟩=some (.slice A8 (t.getD ([],[])).1.length e8):=WG s2 0;have y1:X.cell? ⟨RR,1,none⟩=some (.slice A9 (t.getD ([],[])).2.length e9):=WG s2 1;have hbx:Below W.heap.size W X:=hX ▸ WL HB1.out (Below.size (bR W.heap.size W));have hsz:w.heap.size≤((W).alloc (.cells #[.slice none 0 0,.slice none 0 0] 40)).heap.size:=by rw[Wj];omega
  have HPX:Hid (Wf (fun k=>w.heap.size≤k∧k<X.heap.size) X (.slice A8 (t.getD ([],[])).1.length e8) (t.getD ([],[])).1):=hD (by rw[hX];exact Uh (w:=w) (by exact hsz) (show(W).heap.size<((W).alloc (.cells #[.slice none 0 0,.slice none 0 0] 40)).heap.size by rw[Wj];omega) HP.out _ _);have HRX:Hid (Wf (fun k=>w.heap.size≤k∧k<X.heap.size) X (.slice A9 (t.getD ([],[])).2.length e9) (t.getD ([],[])).2):=hD (by rw[hX];exact Uh (w:=w) (by exact hsz) (show(W).heap.size<((W).alloc (.cells #[.slice none 0 0,.slice none 0 0] 40)).heap.size by rw[Wj];omega) HR.out _ _);clear s1 s2 z0 z1 f0 f1;have hrw:W.heap.size≤RR:=by rw[hRR];exact Below.size (bR W.heap.size W)
  exact Zbt
end
section
open Go.RowKit
set_option maxHeartbeats 4000000
set_option maxRecDepth 100000
theorem dmatched_any (w:World) (v:Mv) (m:Vt) (h:W7 (fun k=>k<w.heap.size) w v m) (hl:∀ f ∈ m.funs,f.code.length≤950000) :
 Calls Tryz.prog 44 #[.agg v.cells] w (fun e w'=>e=.returned (.int .i64 (Vp UO m.funs))∧Below w.heap.size w w'):=by
 have h2:=h.funs;obtain⟨A0,c0,A1,c1,A2,c2,A3,c3,A4,c4,A5,c5,A6,c6,A7,c7,rfl⟩:=Wr h;simp only[Mv.cells];simp only at h2;clear h;generalize m.types.length=n0 at *;generalize m.imps.length=n1 at *;generalize m.mems.length=n3 at *;generalize m.globs.length=n4 at *;generalize m.exps.length=n5 at *;generalize m.datas.length=n6 at *;generalize m.cus.length=n7 at *;generalize m.funs=l at *;obtain⟨A,c,hv,hnc,hcm⟩:=Wd.form h2;obtain⟨rfl,-,rfl⟩:A2=A∧l.length=l.length∧c2=c:=by simpa using hv
 have H:=hD h2;have HL:=hD hl;unfold maxLen at hcm;obtain⟨n,hn⟩:∃ n,l.length=n:=⟨_,rfl⟩;have HN:=hD hn;rw[hn]at H hnc ⊢;obtain⟨W,hW⟩:∃ W,W=w.alloc (.cells #[.slice A0 n0 c0,.slice A1 n1 c1,.slice A2 n c2,.slice A3 n3 c3,.slice A4 n4 c4,.slice A5 n5 c5,.slice A6 n6 c6,.slice A7 n7 c7] 37):=⟨_,rfl⟩;have hbw:Below w.heap.size w W:=hW ▸ (bR _ _).alloc (nR _) _;have HBW:=hD hbw;have HB2:Hid (∀ wz,Below W.heap.size W wz→wz.cell? ⟨w.heap.size,2,none⟩=some (.slice A2 n c2)):=hD fun wz hz=>by
  rw[hW]at hz;exact(hz.cell (p:=⟨w.heap.size,2,none⟩) (by simp)).trans (wN w _ _ 2)
 have HW:=hD hW;clear h2 hv hl hn hbw hW;go_enter Tryz.func44,Tryz.ntmps44
 go_upto_region 1 with (fail)
 rw[← HW.out];go_wp2_with fail
 go_loopw [3] (fun i wr=>∃ k:Nat,k≤n∧i=.int .i64 (k:Int)∧Hid (Below W.heap.size W wr)∧Hid (∀ j,j<k→UO (l.getD j WW)=0)) (fun i _=>n - (intOf i).toNat)
 case atStart=>exact⟨0,nZ _,rfl,hD (bR _ _),hD fun j hj=>absurd hj (Nat.not_lt_zero _)⟩
 case round =>
  obtain⟨w0,rfl⟩:∃ w0,w0=wr:=⟨_,rfl⟩;obtain⟨k,hk,rfl,HB,HA⟩:=hrel;have b2:=HB2.out w0 HB.out;have hwb:=Wa HBW.out HB.out;by_cases hlt:k<n
  ·have hd:decide ((k:Int)<(n:Int))=true:=by simp;omega
   have hd2:decide (k<n)=true:=by simp;omega
   obtain⟨g,o,c',he,_,_⟩:=Wd.some_ H.out (by rw[HN.out];omega);simp only[vI]at he;obtain⟨rfl,-,rfl⟩:=he;have hAT:=FunsK.keep (K':=fun k=>k<w0.heap.size) H.out (We.below hwb fun _ hk=>hk) fun _ hk=>Ve hk hwb.size;obtain⟨u2,k2,h2⟩:=Wd.at_ hAT k 2 (by rw[HN.out];exact hlt) (by decide);have hlen:=HL.out _ (WA l k WW (by rw[HN.out];exact hlt));have HAT:=hD (fun (hz:UO (l.getD k WW)≠0)=>firstC_at (d:=WW) HA.out (by rw[HN.out];exact hlt) hz);have HAN:=hD (fun (hz:UO (l.getD k WW)=0) j (hj:j<k+1)=>(by rcases Nat.lt_or_ge j k with h1|h1;exact HA.out j h1;rw[show j=k by omega];exact hz:UO (l.getD j WW)=0));clear hAT;generalize l.getD k WW=x at h2 hlen HAT HAN;obtain⟨x1,x2,x3⟩:=x;have h2:Uc (fun g=>g<w0.heap.size) w0 u2 x3:=h2;obtain⟨P2,p2,rfl,hp2,hca⟩:=h2.code;have hbx:Calls Tryz.prog 76 #[.slice P2 x3.length p2] w0 (OfPost (x3.map Vl.op) w0):=rof_any w0 P2 x3.length p2 (x3.map Vl.op) hca (by rw[List.length_map]) hlen;generalize x3.length=m2 at *;have HOF:=hD hbx;obtain⟨mc,hmc⟩:∃ z,UO ⟨x1,x2,x3⟩=z:=⟨_,rfl⟩;rw[hmc]at HAT HAN;have hmc:(VY (x3.map Vl.op)).2=mc:=hmc;unfold OfPost at HOF;rw[hmc]at HOF;clear h2 hca hbx hlen hmc hwb;by_cases hz:mc=0
   ·subst hz;have HAZ:=hD (HAN.out rfl);clear HAT HAN;go_wp2_with (go_at_call 76;refine(HOF.out).mono ?_;rintro e w1 ⟨sv,rfl,_,hb1⟩;have HB1:=hD (Wa HB.out hb1);clear hb1)
    go_roundw
    case rel=>exact⟨k+1,by omega,by go_num,HB1,HAZ⟩
    case measure=>simp[intOf];omega
   ·have hzb:(mc != 0)=true:=by simpa using hz
    have HAZ:=hD (HAT.out hz);clear HAT HAN hz;go_wp2_with (go_at_call 76;refine(HOF.out).mono ?_;rintro e w1 ⟨sv,rfl,_,hb1⟩;have HB1:=hD (Wa HB.out hb1);clear hb1)
    go_ret;exact⟨Vd (HAZ.out).symm,Wa HBW.out HB1.out⟩
  ·have hd:decide ((k:Int)<(n:Int))=false:=by simp;omega
   have hd2:decide (k<n)=false:=by simp;omega
   obtain rfl:n=k:=by omega
   have HF:=hD (firstC_zero (d:=WW) (by rw[HN.out];exact HA.out));go_wp2;go_ret;exact⟨Vd (HF.out).symm,Wa HBW.out HB.out⟩
end
end Go.Proofs.YtmfpnfdinoofpaaGreatDoor
