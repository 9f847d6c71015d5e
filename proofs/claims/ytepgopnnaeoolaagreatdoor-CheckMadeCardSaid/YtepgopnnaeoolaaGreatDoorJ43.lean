/- A part of the proof. -/
import Derived.Test.YtepgopnnaeoolaaGreatDoorJ41
namespace Go.Proofs.YtepgopnnaeoolaaGreatDoor
section
open Go.RowKit
set_option maxHeartbeats 4000000
set_option maxRecDepth 100000
theorem Zbe {P:Prop}(h:P:=by
 rw[hr2]at CB;clear hc HRR hr2;go_wp2_with (first|(go_at_call 64;with_reducible refine(CW.out _).mono ?_;rintro e w1 ⟨rfl,rfl⟩;clear CW)|(go_at_call 64;with_reducible refine(CB.out _).mono ?_;rintro e w1 ⟨rfl,rfl⟩))
 go_ret;exact⟨rfl,Wa HB.out HBD.out⟩):P:=h
theorem Zbg {P:Prop}(h:P:=by
 have CW:=fun w=>V7 a nm w;rw[hc]at CW;have hr2:r=false:=by rw[← HRR.out,hc];rfl
 subst hr2;clear hc HRR;go_wp2_with (go_at_call 64;refine(CW _).mono ?_;rintro e w1 ⟨rfl,rfl⟩)
 go_ret;exact⟨rfl,Wa HB.out HBD.out⟩):P:=h
theorem exists_64520 {F:Wx} {w:World} {x:Ws} (hF:F.prg) (h:Wk F w x) (a b n:Int) (l:List Int) (Al:Option Addr) (nl cl:Nat) :
 Calls Tryz.prog 70 #[.pointer (some ⟨F.G,0,none⟩),.agg #[.int .i64 64520,.int .i64 a,.int .i64 b,.int .u64 n,.slice Al nl cl]] w (Wo (Wn F.env x.pl ⟨64520,a,b,n,l⟩) w):=by
 rw[show Wn F.env x.pl ⟨64520,a,b,n,l⟩=(Wm a F.m.mems.length && Wm b F.m.datas.length) by unfold Wn Ws.pl Wx.env;simp];obtain⟨k0,k1,k2,k4,⟨A1,c1,p1⟩,⟨A5,c5,p5⟩,⟨A6,c6,p6⟩,⟨A8,c8,p8⟩,⟨A11,c11,p11⟩⟩:=h.exi hF ⟨64520,a,b,n,l⟩ Al nl cl;have hb:=(bR w.heap.size w).alloc (nR _) (.cells #[.int .i64 64520,.int .i64 a,.int .i64 b,.int .u64 n,.slice Al nl cl] 76);simp only at k0 k1 k2 k4 p1 p5 p6 p8 p11 hb;generalize x.f.length=nf at *;generalize F.m.mems.length=nm at *;generalize F.m.globs.length=ng at *;generalize F.m.datas.length=nd at *;generalize F.lo.length=no at *;clear h hF;obtain⟨r,hr⟩:∃ r,(Wm a nm && Wm b nd)=r:=⟨_,rfl⟩;have HRR:=hD hr;rw[hr];clear hr;go_enter Tryz.func70,Tryz.ntmps70
 go_upto_region 1 with (fail)
 generalize w.alloc (.cells #[.int .i64 64520,.int .i64 a,.int .i64 b,.int .u64 n,.slice Al nl cl] 76)=W at *;have HB:=hD hb;clear hb;go_quiet (fail)
 have hbd:=Wj (bR W.heap.size W) nq;have HBD:=hD hbd;clear hbd;cases hc:Wm a nm with
 | false =>
  exact Zbg
 | true =>
  have CW:=hD (fun w=>V7 a nm w);have CB:=hD (fun w=>V7 b nd w);rw[hc]at CW;have hr2:Wm b nd=r:=by rw[← HRR.out,hc];rfl
  exact Zbe
theorem exists_64522 {F:Wx} {w:World} {x:Ws} (hF:F.prg) (h:Wk F w x) (a b n:Int) (l:List Int) (Al:Option Addr) (nl cl:Nat) :
 Calls Tryz.prog 70 #[.pointer (some ⟨F.G,0,none⟩),.agg #[.int .i64 64522,.int .i64 a,.int .i64 b,.int .u64 n,.slice Al nl cl]] w (Wo (Wn F.env x.pl ⟨64522,a,b,n,l⟩) w):=by
 rw[show Wn F.env x.pl ⟨64522,a,b,n,l⟩=(Wm a F.m.mems.length && Wm b F.m.mems.length) by unfold Wn Ws.pl Wx.env;simp];obtain⟨k0,k1,k2,k4,⟨A1,c1,p1⟩,⟨A5,c5,p5⟩,⟨A6,c6,p6⟩,⟨A8,c8,p8⟩,⟨A11,c11,p11⟩⟩:=h.exi hF ⟨64522,a,b,n,l⟩ Al nl cl;have hb:=(bR w.heap.size w).alloc (nR _) (.cells #[.int .i64 64522,.int .i64 a,.int .i64 b,.int .u64 n,.slice Al nl cl] 76);simp only at k0 k1 k2 k4 p1 p5 p6 p8 p11 hb;generalize x.f.length=nf at *;generalize F.m.mems.length=nm at *;generalize F.m.globs.length=ng at *;generalize F.m.datas.length=nd at *;generalize F.lo.length=no at *;clear h hF;obtain⟨r,hr⟩:∃ r,(Wm a nm && Wm b nm)=r:=⟨_,rfl⟩;have HRR:=hD hr;rw[hr];clear hr;go_enter Tryz.func70,Tryz.ntmps70
 go_upto_region 1 with (fail)
 generalize w.alloc (.cells #[.int .i64 64522,.int .i64 a,.int .i64 b,.int .u64 n,.slice Al nl cl] 76)=W at *;have HB:=hD hb;clear hb;go_quiet (fail)
 have hbd:=Wj (bR W.heap.size W) nq;have HBD:=hD hbd;clear hbd;cases hc:Wm a nm with
 | false =>
  exact Zbg
 | true =>
  have CW:=hD (fun w=>V7 a nm w);have CB:=hD (fun w=>V7 b nm w);rw[hc]at CW;have hr2:Wm b nm=r:=by rw[← HRR.out,hc];rfl
  exact Zbe
end
section
open Go.RowKit
set_option maxHeartbeats 4000000
set_option maxRecDepth 100000
theorem Zbb {P:Prop}(h:P:=by
 go_wp2_with (go_at_call 114;refine(AG.out _).mono ?_;rintro e w6 ⟨rfl,rfl⟩)
 go_ret;exact⟨x5,HG5.out,HSS.out,rfl,fun q hq=>(by cases hq)⟩):P:=h
theorem ZbI {P:Prop}(h:P:=by
 go_wp2_with (go_at_call 102;refine HTK.out.mono ?_;rintro e w3 ⟨rfl,x3,g3,s3,-⟩;have HG3:=hD g3;have HS3:=hD s3;clear g3 s3)
 exact Z6):P:=h
def PopPost (F:Wx) (w:World) (x:Ws) (e:Ending) (w':World):Prop :=
 ∃ (t:Int) (b:Bool) (x':Ws),e=.returned (.tuple #[.int .i64 t,.bool b])∧Wk F w' x'∧WE F w x w' x'∧x'.f=x.f∧x'.s.length≤x.s.length∧popC x.pl=(if b then some (t,x'.pl) else none)
theorem pop_plain {F:Wx} {w:World} {x:Ws} (hF:F.prg) (h:Wk F w x) (h0:0<x.f.length) (hs:x.s.length≤1000000):Calls Tryz.prog 100 #[.pointer (some ⟨F.G,0,none⟩)] w (PopPost F w x) :=
 (pop_any hF h h0 hs).mono fun e w' ⟨h1,x',h2,h3,h4,h5⟩=>by
  by_cases hle:x.s.length≤x.top.h
  ·rw[if_pos hle]at h1 h5;refine⟨0,x.top.dead,x',h1,h2,h3,h4,by rw[h5];exact nR _,?_⟩;rw[pop_pl,if_pos hle];unfold Ws.pl;rw[h4,h5]
  ·rw[if_neg hle]at h1 h5;refine⟨_,true,x',h1,h2,h3,h4,by rw[h5,List.length_take];omega,?_⟩;rw[pop_pl,if_neg hle,if_pos rfl];unfold Ws.pl;rw[h4,h5]
theorem choose_is {p p3 p4 p5:Pl} {t4 t5:Int} {b4 b5:Bool} (h:VH p [127]=some p3) (h4:popC p3=if b4 then some (t4,p4) else none) (h5:popC p4=if b5 then some (t5,p5) else none):chooseC p=if b4 && b5 && agreeB t5 t4 then some (giveC p5 [t4]) else none:=by
 unfold chooseC;rw[h,Option.bind_some,h4];cases b4 with
 | false=>rfl
 | true =>
  rw[if_pos rfl,Option.bind_some,h5];cases b5 with
  | false=>rfl
  | true=>rfl
theorem choose_any {F:Wx} {w:World} {x:Ws} (hF:F.prg) (h:Wk F w x) (h0:0<x.f.length) (hs:x.s.length≤900000) (hh:x.top.h≤x.s.length) :
 Calls Tryz.prog 101 #[.pointer (some ⟨F.G,0,none⟩)] w (Vb F w x (chooseC x.pl)):=by
 have hg1:=h.alloc (.cells #[.int .i64 127] 3);have hi:=Vk w (bR w.heap.size w) 127;have HTK:=hD (Un hF hg1.1 h0 (by omega) _ [127] (hi.keep (.refl _ _) fun k hk=>⟨hk.2,h.new_free hk.1⟩) (by simp) hh);have HG1:=hD hg1;have HF:=hD hF;have HH:=hD (⟨h0,hs⟩:0<x.f.length∧x.s.length≤900000);obtain⟨r,hr⟩:∃ r,chooseC x.pl=r:=⟨_,rfl⟩;rw[hr];have HRR:=hD hr;clear hg1 hi hF h h0 hs hr;cases hR:Vn x.top.h x.top.dead x.s [127] with
 | false =>
  have hr:r=none:=by rw[← HRR.out];unfold chooseC;rw[take_no hR];rfl
  subst hr;rw[hR]at HTK;clear hR HRR;go_enter Tryz.func101,Tryz.ntmps101;exact ZbI
 | true =>
  have HTY:=hD (UF hR);rw[hR]at HTK;clear hR;go_enter Tryz.func101,Tryz.ntmps101
  go_upto_region 5 with (first|(go_at_call 102;refine HTK.out.mono ?_;rintro e w3 ⟨rfl,x3,g3,s3,hf3,hs3⟩;have HG3:=hD g3;have HS3:=hD s3;have HF3:=hD hf3;have HX3:=hD (hs3 rfl);have HQ3:=hD g3;clear g3 s3 hf3 hs3)|(go_at_call 100;refine(pop_plain HF.out HQ3.out (by rw[HF3.out];exact HH.out.1) (by rw[HX3.out,List.length_take];have:=HH.out.2;omega)).mono ?_;clear HQ3;rintro e w4 ⟨t4,b4,x4,rfl,g4,s4,hf4,hl4,hp4⟩;have HG4:=hD g4;have HS4:=hD s4;have HF4:=hD hf4;have HL4:=hD hl4;have HP4:=hD hp4;clear g4 s4 hf4 hl4 hp4)|(go_at_call 100;refine(pop_plain HF.out HG4.out (by rw[HF4.out,HF3.out];exact HH.out.1) (by have:=HL4.out;rw[HX3.out,List.length_take]at this;have:=HH.out.2;omega)).mono ?_;rintro e w5 ⟨t5,b5,x5,rfl,g5,s5,hf5,hl5,hp5⟩;have HG5:=hD g5;have HS5:=hD s5;have HF5:=hD hf5;have HL5:=hD hl5;have HP5:=hD hp5;clear g5 s5 hf5 hl5 hp5))
  have hx3:(⟨x.s.take (max (x.s.length - [(127:Int)].length) x.top.h),x.pl.f⟩:Pl)=x3.pl:=by
   unfold Ws.pl;rw[HF3.out,HX3.out]
  have HX:=hD hx3;have HSS:=hD (((HG1.out.2.trans HS3.out).trans HS4.out).trans HS5.out);have HLB:Hid (x5.s.length+1≤1000000):=hD (by have h1:=HL4.out;have h2:=HL5.out;rw[HX3.out,List.length_take]at h1;have:=HH.out.2;omega);clear hx3;have hr:r=if b4 && b5 && agreeB t5 t4 then some (giveC x5.pl [t4]) else none:=HRR.out.symm.trans (choose_is (HTY.out.trans (by rw[HX.out])) HP4.out HP5.out);have AG:=hD (fun w=>agree_any t5 t4 w);cases b5 with
  | false =>
   have hr2:r=none:=by rw[hr];cases b4 <;> rfl
   subst hr2;clear hr;exact Zbb
  | true =>
   cases b4 with
   | false =>
    have hr2:r=none:=by rw[hr];rfl
    subst hr2;clear hr;exact Zbb
   | true =>
    cases ha:agreeB t5 t4 with
    | false =>
     have hr2:r=none:=by rw[hr,ha];rfl
     subst hr2;rw[ha]at AG;clear ha hr;exact Zbb
    | true =>
     have hr2:r=some (giveC x5.pl [t4]):=by rw[hr,ha];rfl
     subst hr2;rw[ha]at AG;clear ha hr;have hg6:=HG5.out.alloc (.cells #[.int .i64 t4] 3);have hi6:=Vk w5 (bR w5.heap.size w5) t4;have HGV:=hD (give_any HF.out hg6.1 _ [t4] (hi6.keep (.refl _ _) fun k hk=>⟨hk.2,HG5.out.new_free hk.1⟩) (by simpa using HLB.out));have HG6:=hD hg6;clear hg6 hi6;go_wp2_with (first|(go_at_call 114;refine(AG.out _).mono ?_;rintro e w6 ⟨rfl,rfl⟩)|(go_at_call 86;refine HGV.out.mono ?_;rintro e w7 ⟨rfl,x7,g7,s7,hf7,hs7⟩;have HG7:=hD g7;have HS7:=hD s7;have HF7:=hD hf7;have HX7:=hD hs7;clear g7 s7 hf7 hs7))
     go_ret;refine⟨x7,HG7.out,(HSS.out.trans HG6.out.2).trans HS7.out,rfl,fun q hq=>?_⟩;obtain rfl:=Option.some.inj hq;show Ws.pl x7=giveC _ _;unfold Ws.pl giveC;rw[HF7.out,HX7.out]
end
section
open Go.RowKit
set_option maxHeartbeats 4000000
set_option maxRecDepth 100000
def fv0:Fv:=⟨0,.slice none 0 0,.slice none 0 0,[],[],0,false⟩
theorem label_is (x:Ws) (n:Nat):WV x.pl n=if (x.f.getD (x.f.length - 1 - n) fv0).op=3 then (x.f.getD (x.f.length - 1 - n) fv0).ps else (x.f.getD (x.f.length - 1 - n) fv0).rs:=by
 unfold WV Ws.pl;simp only[List.length_map];rw[show(x.f.map Fv.fr).getD (x.f.length - 1 - n) fr0=(x.f.getD (x.f.length - 1 - n) fv0).fr by
  rw[List.getD_eq_getElem?_getD,List.getD_eq_getElem?_getD,List.getElem?_map];cases x.f[x.f.length - 1 - n]? <;> rfl]
 rfl
def LabPost (F:Wx) (w:World) (x:Ws) (q:List Int) (e:Ending) (w':World):Prop :=
 ∃ A c,e=.returned (.slice A q.length c)∧Wk F w' x∧WE F w x w' x∧Wg (WB F w' x) w' (.slice A q.length c) q
theorem label_any {F:Wx} {w:World} {x:Ws} (hF:F.prg) (h:Wk F w x) (n:Nat) (hn:n<x.f.length) :
 Calls Tryz.prog 97 #[.pointer (some ⟨F.G,0,none⟩),.int .i64 (n:Int)] w (LabPost F w x (WV x.pl n)):=by
 rw[label_is];obtain⟨g,c,hfv,h1,h2,h3,_,hc⟩:=h.fcell (by omega);obtain⟨k,hk⟩:∃ k,x.f.length - 1 - n=k:=⟨_,rfl⟩;rw[hk];have hkl:k<x.f.length:=by omega
 have t:=fun i hi=>hc k hkl i hi fv0;obtain⟨y,hy⟩:∃ y,x.f.getD k fv0=y:=⟨_,rfl⟩;have hym:y ∈ x.f:=by rw[← hy,List.getD_eq_getElem?_getD,List.getElem?_eq_getElem hkl];exact List.getElem_mem _
 rw[hy]at t ⊢;have hpv:=(h.reads.fr _ hym).1;have hrv:=(h.reads.fr _ hym).2;obtain⟨Ap,cp,ep,_⟩:=hpv.form;obtain⟨Ar,cr,er,_⟩:=hrv.form;have t0:w.cell? ⟨g,k * 5,none⟩=some (.int .i64 y.op):=t 0 (by decide);have t1:w.cell? ⟨g,k * 5+1,none⟩=some (.slice Ap y.ps.length cp):=(t 1 (by decide)).trans (by rw[← ep];rfl);have t2:w.cell? ⟨g,k * 5+2,none⟩=some (.slice Ar y.rs.length cr):=(t 2 (by decide)).trans (by rw[← er];rfl);have t3:w.cell? ⟨g,k * 5+3,none⟩=some (.int .i64 (y.h:Int)):=t 3 (by decide);have t4:w.cell? ⟨g,k * 5+4,none⟩=some (.bool y.dead):=t 4 (by decide);have HTC:Hid (∀ wz,Below w.heap.size w wz→wz.cell? ⟨g,k * 5,none⟩=some (.int .i64 y.op)∧wz.cell? ⟨g,k * 5+1,none⟩=some (.slice Ap y.ps.length cp)∧wz.cell? ⟨g,k * 5+2,none⟩=some (.slice Ar y.rs.length cr)∧wz.cell? ⟨g,k * 5+3,none⟩=some (.int .i64 (y.h:Int))∧wz.cell? ⟨g,k * 5+4,none⟩=some (.bool y.dead)):=hD fun wz hz =>
  ⟨(hz.cell (p:=⟨g,k * 5,none⟩) h3).trans t0,(hz.cell (p:=⟨g,k * 5+1,none⟩) h3).trans t1,(hz.cell (p:=⟨g,k * 5+2,none⟩) h3).trans t2,(hz.cell (p:=⟨g,k * 5+3,none⟩) h3).trans t3,(hz.cell (p:=⟨g,k * 5+4,none⟩) h3).trans t4⟩
 have hp1:=h.p1 hF;rw[hfv]at hp1;have hG:=h.lts.1;have HP1:Hid (∀ wz,Below w.heap.size w wz→wz.cell? ⟨F.G,1,none⟩=some (.slice (some ⟨g,0,none⟩) x.f.length c)):=hD fun wz hz=>(hz.cell (p:=⟨F.G,1,none⟩) hG).trans hp1;have HW:=hD h;have HPV:=hD (ep ▸ hpv:Wg (WB F w x) w (.slice Ap y.ps.length cp) y.ps);have HRV:=hD (er ▸ hrv:Wg (WB F w x) w (.slice Ar y.rs.length cr) y.rs);unfold maxLen at h2;clear t t0 t1 t2 t3 t4 hp1 hc hpv hrv ep er hym hy h hfv;generalize x.f.length=m at *;have e1:IntKind.i64.wrap ((m:Int) - 1)=(m:Int) - 1:=IntWalk.i64_in _ (by omega);have e2:IntKind.i64.wrap ((m:Int) - 1 - (n:Int))=(k:Int):=by rw[show(m:Int) - 1 - (n:Int)=(k:Int) by omega];exact IntWalk.i64_in _ (by omega)
 clear hk hn;obtain⟨q,hq⟩:∃ q,(if y.op=3 then y.ps else y.rs)=q:=⟨_,rfl⟩;rw[hq];have HQ:=hD hq;clear hq;go_enter Tryz.func97,Tryz.ntmps97
 go_upto_region 1 with (fail)
 refine We.start (S:=fun wz=>Below w.heap.size w wz) (X:=15) (by kernel_rfl) ?_;show We _ _ _ _ _ _ 16 #[false,false,false,false,false,false,false,false,false,false,false,false,false,false,false,false] _ _;have hS:=(bR w.heap.size w).drew;generalize w.drew=w1 at hS ⊢;refine We.tk 0 6 rfl hS ?_;refine We.tk 1 7 rfl hS ?_;refine We.tk 2 8 rfl hS ?_;refine We.tk 3 9 rfl hS ?_ (hy:=by intro w' hSw;have p1:=HP1.out _ hSw;go_simp;try with_reducible rfl);refine We.tk 4 10 rfl hS ?_;refine We.tk 5 11 rfl hS ?_;refine We.tk 6 12 rfl hS ?_;refine We.tk 7 13 rfl hS ?_ (hy:=by intro w' hSw;have p1:=HP1.out _ hSw;go_simp;try with_reducible rfl);refine We.tk 8 14 rfl hS ?_;refine We.tk 9 15 rfl hS ?_;refine We.tk 10 16 rfl hS ?_;refine We.tk 11 17 rfl hS ?_;refine We.tk 12 18 rfl hS ?_;refine We.tk 13 19 rfl hS ?_ (hy:=by intro w' hSw;obtain⟨t0,t1,t2,t3,t4⟩:=HTC.out _ hSw;go_simp;try with_reducible rfl);refine We.om 14 5 rfl fun K hK=>?_;go_simp;refine hK.out _ _ (.inr (hS.alloc hS.size _)) ?_;clear hK K;try simp only[sA,List.set]
 refine We.on 15 rfl fun K hK=>?_;go_simp;refine hK.out _ _ (.inl rfl) ?_;clear hK K;refine We.done (by kernel_rfl) ?_ _;have hbl:Below w.heap.size w (w1.alloc (.cells #[.int .i64 y.op,.slice Ap y.ps.length cp,.slice Ar y.rs.length cr,.int .i64 (y.h:Int),.bool y.dead] 135)):=hS.alloc hS.size _;have HG2:=hD (HW.out.below hbl);clear hbl hS;by_cases h3:y.op=3
 ·have d3:(y.op==3)=true:=by simpa using h3
  obtain rfl:y.ps=q:=by rw[← HQ.out,if_pos h3]
  clear h3 HQ;go_wp2;go_ret;exact⟨Ap,cp,rfl,HG2.out.1,HG2.out.2,HG2.out.2.ints HPV.out⟩
 ·have d3:(y.op==3)=false:=by simpa using h3
  obtain rfl:y.rs=q:=by rw[← HQ.out,if_neg h3]
  clear h3 HQ;go_wp2;go_ret;exact⟨Ar,cr,rfl,HG2.out.1,HG2.out.2,HG2.out.2.ints HRV.out⟩
end
section
open Go.RowKit
set_option maxHeartbeats 4000000
set_option maxRecDepth 100000
theorem divide_any {F:Wx} {w:World} {x:Ws} (hF:F.prg) (h:Wk F w x) (h0:0<x.f.length) (hs:x.s.length≤900000) (hrl:x.top.rs.length≤100000) (hpl:x.top.ps.length≤100000) (hfl:x.f.length≤900000) (hh:x.top.h≤x.s.length) :
 Calls Tryz.prog 94 #[.pointer (some ⟨F.G,0,none⟩)] w (Vb F w x (divideC x.pl)):=by
 have HFI:=hD (finish_any hF h h0 (by omega) (by omega) hh);have hmem:x.top ∈ x.f:=by
  exact Z9
 have hrv:=(h.reads.fr _ hmem).2;have hpv:=(h.reads.fr _ hmem).1;obtain⟨Ar,cr,er,_⟩:=hrv.form;obtain⟨Ap,cp,ep,_⟩:=hpv.form;have HER:=hD er;have HEP:=hD ep;have HRV:=hD (er ▸ hrv:Wg (WB F w x) w (.slice Ar x.top.rs.length cr) x.top.rs);have HPV:=hD (ep ▸ hpv:Wg (WB F w x) w (.slice Ap x.top.ps.length cp) x.top.ps);have HF:=hD hF;have HLC:Hid (x.cut.length+x.top.ps.length≤1000000∧(x.f.take (x.f.length - 1)).length+1≤1000000):=hD (by unfold Ws.cut;rw[List.length_take,List.length_take];omega);unfold divideC;clear hrv hpv er ep h hF hmem;cases hme:x.mayEnd with
 | false =>
  have HF2:Hid (Calls Tryz.prog 112 #[.pointer (some ⟨F.G,0,none⟩)] w fun e w'=>∃ x',Wk F w' x'∧WE F w x w' x'∧e=.returned (.tuple #[.agg #[.int .i64 0,.slice none 0 0,.slice none 0 0,.int .i64 0,.bool false],.bool false])):=hD (HFI.out.mono fun e w' hp=>by
   obtain⟨x',g1,s1,e1,_⟩:=hp;rw[hme]at e1;exact⟨x',g1,s1,e1⟩)
  rw[finish_no hme];clear HFI hme;go_enter Tryz.func94,Tryz.ntmps94;go_wp2_with (go_at_call 112;refine HF2.out.mono ?_;rintro e w1 ⟨x1,g1,s1,rfl⟩;have HG1:=hD g1;have HS1:=hD s1;clear g1 s1)
  go_ret;have h2:=HG1.out.alloc (.cells #[.int .i64 0,.slice none 0 0,.slice none 0 0,.int .i64 0,.bool false] 135);exact⟨x1,h2.1,HS1.out.trans h2.2,rfl,fun q hq=>(by cases hq)⟩
 | true =>
  have HF2:Hid (Calls Tryz.prog 112 #[.pointer (some ⟨F.G,0,none⟩)] w fun e w'=>∃ x',Wk F w' x'∧WE F w x w' x'∧e=.returned (.tuple #[.agg #[.int .i64 x.top.op,.slice Ap x.top.ps.length cp,.slice Ar x.top.rs.length cr,.int .i64 (x.top.h:Int),.bool x.top.dead],.bool true])∧x'.f=x.f.take (x.f.length - 1)∧x'.s=x.cut):=hD (HFI.out.mono fun e w' hp=>by
   obtain⟨x',g1,s1,e1,hx⟩:=hp;rw[hme,if_pos rfl]at e1;unfold Fv.cells at e1;rw[HER.out,HEP.out]at e1;exact⟨x',g1,s1,e1,hx hme⟩)
  rw[finish_yes hme];clear HFI hme;go_enter Tryz.func94,Tryz.ntmps94
  go_upto_region 3 with (first|(go_at_call 112;refine HF2.out.mono ?_;rintro e w1 ⟨x1,g1,s1,rfl,hxf,hxs⟩;have HG1:=hD g1;have HS1:=hD s1;have HXF:=hD hxf;have HXS:=hD hxs;clear g1 s1 hxf hxs))
  have hg2:=HG1.out.alloc (.cells #[.int .i64 x.top.op,.slice Ap x.top.ps.length cp,.slice Ar x.top.rs.length cr,.int .i64 (x.top.h:Int),.bool x.top.dead] 135);have hc:∀ j:Nat,(w1.alloc (.cells #[.int .i64 x.top.op,.slice Ap x.top.ps.length cp,.slice Ar x.top.rs.length cr,.int .i64 (x.top.h:Int),.bool x.top.dead] 135)).cell? ⟨w1.heap.size,j,none⟩=(#[.int .i64 x.top.op,.slice Ap x.top.ps.length cp,.slice Ar x.top.rs.length cr,.int .i64 (x.top.h:Int),.bool x.top.dead]:Array Value)[j]?:=fun j=>wN ..;have HB2:Hid ((w1.alloc (.cells #[.int .i64 x.top.op,.slice Ap x.top.ps.length cp,.slice Ar x.top.rs.length cr,.int .i64 (x.top.h:Int),.bool x.top.dead] 135)).cell? ⟨w1.heap.size,1,none⟩=some (.slice Ap x.top.ps.length cp)∧(w1.alloc (.cells #[.int .i64 x.top.op,.slice Ap x.top.ps.length cp,.slice Ar x.top.rs.length cr,.int .i64 (x.top.h:Int),.bool x.top.dead] 135)).cell? ⟨w1.heap.size,2,none⟩=some (.slice Ar x.top.rs.length cr)):=hD ⟨hc 1,hc 2⟩;have HFR:=hD (HG1.out.new_free (nR _));have HG2:=hD hg2;clear hg2 hc;generalize w1.alloc (.cells #[.int .i64 x.top.op,.slice Ap x.top.ps.length cp,.slice Ar x.top.rs.length cr,.int .i64 (x.top.h:Int),.bool x.top.dead] 135)=w4 at *;refine wp_region_held_drew (S:=fun wz=>wz.cell? ⟨w1.heap.size,1,none⟩=some (.slice Ap x.top.ps.length cp)∧wz.cell? ⟨w1.heap.size,2,none⟩=some (.slice Ar x.top.rs.length cr)) (by kernel_rfl) HB2.out (fun hS=>?_);show wpAnyH _ _ _ _ _ 6 #[false,false,false,false,false,false] _ _;refine mT 0 13 rfl hS ?_;refine mT 1 14 rfl hS ?_;refine mT 2 15 rfl hS ?_;refine mT 3 16 rfl hS ?_;refine mT 4 17 rfl hS ?_ (hy:=by intro wS hSw;obtain⟨q1,q2⟩:=hSw;go_simp;try with_reducible rfl);have hg3:=HG2.out.1.below ((bR w4.heap.size w4).drew);have hst3:=(HS1.out.trans HG2.out.2).trans hg3.2;have HBG:=hD (begin_any HF.out hg3.1 5 _ _ x.top.ps x.top.rs (hst3.ints HPV.out) (hst3.ints HRV.out) (by rw[HXS.out];exact HLC.out.1) (by rw[HXF.out];exact HLC.out.2));have hlt:w1.heap.size<w4.drew.heap.size:=wL _ _ hS.1;have HS3:=hD hst3;clear hg3 hst3;refine mR 5 18 rfl fun K hK=>?_;go_simp;go_at_call 67;refine HBG.out.mono ?_;rintro e w5 ⟨rfl,x5,g5,s5,hf5,hs5⟩;go_wp2_with fail
  refine hK.out _ _ ⟨(s5.keeps.cell (p:=⟨w1.heap.size,1,none⟩) ⟨hlt,HFR.out⟩).trans hS.1,(s5.keeps.cell (p:=⟨w1.heap.size,2,none⟩) ⟨hlt,HFR.out⟩).trans hS.2⟩ (fun _=>?_);clear hK K;try simp only[sA,List.set]
  refine wpAnyH_done (by kernel_rfl) ?_ _;have HG5:=hD g5;have HS5:=hD s5;have HF5:=hD hf5;have HX5:=hD hs5;clear g5 s5 hf5 hs5 hS;go_wp2;go_ret;refine⟨x5,HG5.out,HS3.out.trans HS5.out,rfl,fun q hq=>?_⟩;obtain rfl:=Option.some.inj hq;show Ws.pl x5=V0 _ _ _ _;unfold Ws.pl V0;rw[HF5.out,HX5.out,HXF.out,HXS.out,List.map_append];rfl
end
section
open Go.RowKit
set_option maxHeartbeats 2000000
set_option maxRecDepth 100000
theorem allI_yes {p:Int→Bool} {l:List Int} (h:∀ j,j<l.length→p (l.getD j 0)=true):l.all p=true:=by
 rw[List.all_eq_true];intro a ha;obtain⟨j,hj,rfl⟩:=List.mem_iff_getElem.1 ha;have:=h j hj
 rwa [List.getD_eq_getElem?_getD,List.getElem?_eq_getElem hj]at this
theorem allI_no {p:Int→Bool} {l:List Int} {j:Nat} (hj:j<l.length) (h:p (l.getD j 0)=false):l.all p=false:=by
 cases hc:l.all p with
 | false=>rfl
 | true =>
  rw[List.all_eq_true]at hc;have:=hc _ (List.getElem_mem hj);rw[List.getD_eq_getElem?_getD,List.getElem?_eq_getElem hj]at h;rw[show(some l[j]).getD 0=l[j] from rfl]at h;rw[h]at this;cases this
theorem labels_any {F:Wx} {w:World} {x:Ws} (hF:F.prg) (h:Wk F w x) (K:Nat→Prop) (lv:Value) (l:List Int) (hl:Wg K w lv l) :
 Calls Tryz.prog 91 #[.pointer (some ⟨F.G,0,none⟩),lv] w (Wo (l.all (fun n=>Wm n x.f.length) && decide (0<l.length)) w):=by
 obtain⟨A,c,hlv,hm,_⟩:=hl.form;obtain⟨Af,cf,hfv⟩:=Wc h.fo;have p1:=h.p1 hF;rw[hfv]at p1;have HL:=hD hl;rw[hlv]at HL ⊢;obtain⟨r,hr⟩:∃ r,(l.all (fun n=>Wm n x.f.length) && decide (0<l.length))=r:=⟨_,rfl⟩;rw[hr];have HR:=hD hr;unfold maxLen at hm;clear hl hlv h hfv hr;generalize x.f.length=m at *;obtain⟨n,hn⟩:∃ n,l.length=n:=⟨_,rfl⟩;have HN:=hD hn;rw[hn]at HL HR hm ⊢;clear hn;go_enter Tryz.func91,Tryz.ntmps91;go_wp2_with fail
 go_loopw [9] (fun i wr=>∃ k:Nat,k≤n∧i=.int .i64 (k:Int)∧wr=w∧Hid (∀ j,j<k→Wm (l.getD j 0) m=true)) (fun i _=>n - (intOf i).toNat)
 case atStart=>exact⟨0,nZ _,rfl,rfl,hD (fun j hj=>absurd hj (Nat.not_lt_zero j))⟩
 case round =>
  obtain⟨k,hk,rfl,rfl,HJ⟩:=hrel;by_cases hkn:k<n
  ·have hkk:(0:Int)≤k:=Int.natCast_nonneg _;have hd:decide ((k:Int)<(n:Int))=true:=by simp;omega
   have hd':decide (k<n)=true:=decide_eq_true hkn;obtain⟨gl,ol,c2,he,_,_⟩:=HL.out.some_ (by rw[HN.out];omega);rw[HN.out]at he;simp only[vI]at he;obtain⟨rfl,-,rfl⟩:=he;have k2:=HL.out.at_ k (by omega);obtain⟨y,hy⟩:∃ y,l.getD k 0=y:=⟨_,rfl⟩;rw[hy]at k2;have HY:=hD hy;have CW:=fun wz=>V7 y m wz;cases hw:Wm y m with
   | false =>
    rw[hw]at CW;have hr:r=false:=by rw[← HR.out,allI_no (p:=fun n=>Wm n m) (j:=k) (by rw[HN.out];exact hkn) (by rw[HY.out];exact hw)];rfl
    subst hr;clear hw hy;go_wp2_with (go_at_call 64;refine(CW _).mono ?_;rintro e w1 ⟨rfl,rfl⟩)
    go_ret;exact⟨rfl,bR _ _⟩
   | true =>
    rw[hw]at CW;have HWW:=hD hw;clear hw hy;go_wp2_with (go_at_call 64;refine(CW _).mono ?_;rintro e w1 ⟨rfl,rfl⟩)
    go_roundw
    case rel=>exact⟨k+1,by omega,by go_num,trivial,hD (fun j hj=>by
     rcases Nat.lt_or_ge j k with h1|h1
     ·exact HJ.out j h1
     ·obtain rfl:j=k:=by omega
      rw[HY.out];exact HWW.out)⟩
    case measure=>simp[intOf];omega
  ·have hd:decide ((k:Int)<(n:Int))=false:=by simp;omega
   have hd':decide (k<n)=false:=decide_eq_false hkn;have hr:r=decide (0<n):=by
    rw[← HR.out,allI_yes (p:=fun n=>Wm n m) (fun j hj=>HJ.out j (by rw[HN.out]at hj;omega)),Bool.true_and]
   subst hr;go_wp2;go_ret;exact⟨rfl,bR _ _⟩
end
section
open Go.RowKit
set_option maxHeartbeats 4000000
set_option maxRecDepth 100000
theorem Zbm {P:Prop}(h:P:=by
 have HB:=hD hb;clear hb;go_wp2
 go_ret2
 exact⟨_,_,rfl,ints_new3 _ HB.out _ _ _,.nil _ _,HB.out.alloc HB.out.size _⟩):P:=h
def EffPost (F:Wx) (w:World) (x:Ws) (q:List Int×List Int) (e:Ending) (w':World):Prop :=
 ∃ p r:Value,e=.returned (.tuple #[p,r])∧Wk F w' x∧WE F w x w' x∧Wg (WB F w' x) w' p q.1∧Wg (WB F w' x) w' r q.2
theorem V1.eff {F:Wx} {w w':World} {x:Ws} {q:List Int×List Int} {e:Ending} (h:Wk F w x) (hp:V1 q w e w'):EffPost F w x q e w':=by
 obtain⟨p,r,he,h1,h2,hb⟩:=hp;exact⟨p,r,he,(h.below hb).1,(h.below hb).2,h.new_ints h1,h.new_ints h2⟩
theorem ints_new3 (w:World) {W:World} (hb:Below w.heap.size w W) (a b c:Int):Wg (fun k=>w.heap.size≤k∧k<(W.alloc (.cells #[.int .i64 a,.int .i64 b,.int .i64 c] 3)).heap.size) (W.alloc (.cells #[.int .i64 a,.int .i64 b,.int .i64 c] 3)) (.slice (some ⟨W.heap.size,0,none⟩) 3 3) [a,b,c] :=
 ⟨_,3,rfl,by unfold maxLen;simp,(fun e=>by cases e),fun _=>⟨W.heap.size,0,rfl,⟨hb.size,by rw[Wq];omega⟩,fun j hj=>by
  have hj2:j<3:=hj;rw[wN]
  match j,hj2 with
  | 0,_=>rfl
  | 1,_=>rfl
  | 2,_=>rfl⟩⟩
theorem effect_63 (P:Value) (w:World) (a b n:Int) (Al:Option Addr) (nl cl:Nat) :
 Calls Tryz.prog 103 #[P,.agg #[.int .i64 63,.int .i64 a,.int .i64 b,.int .u64 n,.slice Al nl cl]] w (V1 ([],[127]) w):=by
 have hb:=(bR w.heap.size w).alloc (nR _) (.cells #[.int .i64 63,.int .i64 a,.int .i64 b,.int .u64 n,.slice Al nl cl] 76);have k0:(w.alloc (.cells #[.int .i64 63,.int .i64 a,.int .i64 b,.int .u64 n,.slice Al nl cl] 76)).cell? ⟨w.heap.size,0,none⟩=some (.int .i64 63):=by rw[wN];rfl
 go_enter Tryz.func103,Tryz.ntmps103
 go_upto_region 1 with (fail)
 generalize w.alloc (.cells #[.int .i64 63,.int .i64 a,.int .i64 b,.int .u64 n,.slice Al nl cl] 76)=W at *;have HB:=hD hb;clear hb;go_wp2
 go_ret2
 exact⟨_,_,rfl,.nil _ _,Vk _ HB.out _,HB.out.alloc HB.out.size _⟩
theorem effect_64 (P:Value) (w:World) (a b n:Int) (Al:Option Addr) (nl cl:Nat) :
 Calls Tryz.prog 103 #[P,.agg #[.int .i64 64,.int .i64 a,.int .i64 b,.int .u64 n,.slice Al nl cl]] w (V1 ([127],[127]) w):=by
 have hb:=(bR w.heap.size w).alloc (nR _) (.cells #[.int .i64 64,.int .i64 a,.int .i64 b,.int .u64 n,.slice Al nl cl] 76);have k0:(w.alloc (.cells #[.int .i64 64,.int .i64 a,.int .i64 b,.int .u64 n,.slice Al nl cl] 76)).cell? ⟨w.heap.size,0,none⟩=some (.int .i64 64):=by rw[wN];rfl
 go_enter Tryz.func103,Tryz.ntmps103
 go_upto_region 1 with (fail)
 generalize w.alloc (.cells #[.int .i64 64,.int .i64 a,.int .i64 b,.int .u64 n,.slice Al nl cl] 76)=W at *;have HB:=hD hb;clear hb;go_wp2
 go_ret2
 have hb3:=HB.out;have hb4:=hb3.alloc hb3.size (.cells #[.int .i64 127] 3);have h1:=Vk w hb3 127;refine⟨_,_,rfl,h1.keep (Wf.below ((bR _ _).alloc (nR _) _) fun k hk=>hk.2) fun k hk=>⟨hk.1,by rw[Wq];have:=hk.2;omega⟩,?_,hb4.alloc hb4.size _⟩;have h2:=Vk w hb4 127;rw[show(W.alloc (.cells #[.int .i64 127] 3)).heap.size=W.heap.size+1 from Wq _ _]at h2;exact h2
theorem effect_64520 (P:Value) (w:World) (a b n:Int) (Al:Option Addr) (nl cl:Nat) :
 Calls Tryz.prog 103 #[P,.agg #[.int .i64 64520,.int .i64 a,.int .i64 b,.int .u64 n,.slice Al nl cl]] w (V1 ([127,127,127],[]) w):=by
 have hb:=(bR w.heap.size w).alloc (nR _) (.cells #[.int .i64 64520,.int .i64 a,.int .i64 b,.int .u64 n,.slice Al nl cl] 76);have k0:(w.alloc (.cells #[.int .i64 64520,.int .i64 a,.int .i64 b,.int .u64 n,.slice Al nl cl] 76)).cell? ⟨w.heap.size,0,none⟩=some (.int .i64 64520):=by rw[wN];rfl
 go_enter Tryz.func103,Tryz.ntmps103
 go_upto_region 1 with (fail)
 generalize w.alloc (.cells #[.int .i64 64520,.int .i64 a,.int .i64 b,.int .u64 n,.slice Al nl cl] 76)=W at *;exact Zbm
theorem effect_64522 (P:Value) (w:World) (a b n:Int) (Al:Option Addr) (nl cl:Nat) :
 Calls Tryz.prog 103 #[P,.agg #[.int .i64 64522,.int .i64 a,.int .i64 b,.int .u64 n,.slice Al nl cl]] w (V1 ([127,127,127],[]) w):=by
 have hb:=(bR w.heap.size w).alloc (nR _) (.cells #[.int .i64 64522,.int .i64 a,.int .i64 b,.int .u64 n,.slice Al nl cl] 76);have k0:(w.alloc (.cells #[.int .i64 64522,.int .i64 a,.int .i64 b,.int .u64 n,.slice Al nl cl] 76)).cell? ⟨w.heap.size,0,none⟩=some (.int .i64 64522):=by rw[wN];rfl
 go_enter Tryz.func103,Tryz.ntmps103
 go_upto_region 1 with (fail)
 generalize w.alloc (.cells #[.int .i64 64522,.int .i64 a,.int .i64 b,.int .u64 n,.slice Al nl cl] 76)=W at *;exact Zbm
theorem effect_64523 (P:Value) (w:World) (a b n:Int) (Al:Option Addr) (nl cl:Nat) :
 Calls Tryz.prog 103 #[P,.agg #[.int .i64 64523,.int .i64 a,.int .i64 b,.int .u64 n,.slice Al nl cl]] w (V1 ([127,127,127],[]) w):=by
 have hb:=(bR w.heap.size w).alloc (nR _) (.cells #[.int .i64 64523,.int .i64 a,.int .i64 b,.int .u64 n,.slice Al nl cl] 76);have k0:(w.alloc (.cells #[.int .i64 64523,.int .i64 a,.int .i64 b,.int .u64 n,.slice Al nl cl] 76)).cell? ⟨w.heap.size,0,none⟩=some (.int .i64 64523):=by rw[wN];rfl
 go_enter Tryz.func103,Tryz.ntmps103
 go_upto_region 1 with (fail)
 generalize w.alloc (.cells #[.int .i64 64523,.int .i64 a,.int .i64 b,.int .u64 n,.slice Al nl cl] 76)=W at *;exact Zbm
theorem follow_eff {F:Wx} {w:World} {x:Ws} (hF:F.prg) (h:Wk F w x) (h0:0<x.f.length) (hs:x.s.length≤900000) (hh:x.top.h≤x.s.length) (op a b n:Int) (l:List Int) (hog:restG op) (Al:Option Addr) (nl cl:Nat) (hql:(Vx F.env x.pl ⟨op,a,b,n,l⟩).1.length≤100000∧(Vx F.env x.pl ⟨op,a,b,n,l⟩).2.length≤100000) (hE:∀ w1,Wk F w1 x→Calls Tryz.prog 103 #[.pointer (some ⟨F.G,0,none⟩),.agg #[.int .i64 op,.int .i64 a,.int .i64 b,.int .u64 n,.slice Al nl cl]] w1 (EffPost F w1 x (Vx F.env x.pl ⟨op,a,b,n,l⟩))) :
 Calls Tryz.prog 71 #[.pointer (some ⟨F.G,0,none⟩),.agg #[.int .i64 op,.int .i64 a,.int .i64 b,.int .u64 n,.slice Al nl cl]] w (Vb F w x (Wr F.env x.pl ⟨op,a,b,n,l⟩)):=by
 rw[restG_is _ _ ⟨op,a,b,n,l⟩ hog];have HEF:=hD hE;clear hE;obtain⟨g0,g1,g2,g3,g4,g5,g6,g7,g8,g9,g10,g11,g12⟩:=hog;have e0:(op==2)=false:=by simpa using g0
 have e1:(op==3)=false:=by simpa using g1
 have e2:(op==4)=false:=by simpa using g2
 have e3:(op==5)=false:=by simpa using g3
 have e4:(op==11)=false:=by simpa using g4
 have e5:(op==0)=false:=by simpa using g5
 have e6:(op==12)=false:=by simpa using g6
 have e7:(op==14)=false:=by simpa using g7
 have e8:(op==15)=false:=by simpa using g8
 have e9:(op==18)=false:=by simpa using g9
 have e10:(op==26)=false:=by simpa using g10
 have e11:(op==27)=false:=by simpa using g11
 have e12:(op==36)=false:=by simpa using g12
 clear g0 g1 g2 g3 g4 g5 g6 g7 g8 g9 g10 g11 g12;generalize Vx F.env x.pl ⟨op,a,b,n,l⟩=q at HEF hql ⊢;obtain⟨W,hW⟩:∃ W,W=w.alloc (.cells #[.int .i64 op,.int .i64 a,.int .i64 b,.int .u64 n,.slice Al nl cl] 76):=⟨_,rfl⟩;have hk:∀ j:Nat,W.cell? ⟨w.heap.size,j,none⟩=(#[.int .i64 op,.int .i64 a,.int .i64 b,.int .u64 n,.slice Al nl cl]:Array Value)[j]?:=fun j=>by rw[hW,wN]
 have k0:=hk 0;have k1:=hk 1;have k2:=hk 2;have k3:=hk 3;have k4:=hk 4;simp only[List.getElem?_toArray,List.getElem?_cons_zero,List.getElem?_cons_succ]at k0 k1 k2 k3 k4;have HG1:=hD (hW ▸ h.alloc (.cells #[.int .i64 op,.int .i64 a,.int .i64 b,.int .u64 n,.slice Al nl cl] 76):Wk F W x∧WE F w x W x);have HW:=hD hW;have HF:=hD hF;have HQL:=hD hql;have HH:=hD (⟨h0,hs,hh⟩:0<x.f.length∧x.s.length≤900000∧x.top.h≤x.s.length);clear hk hW h hF hql h0 hs hh;cases hR:Vn x.top.h x.top.dead x.s q.1 with
 | false =>
  rw[take_no hR];have HTK:Hid (∀ w2 v,Wk F w2 x→Wg (WB F w2 x) w2 v q.1→Calls Tryz.prog 102 #[.pointer (some ⟨F.G,0,none⟩),v] w2 (WPost F w2 x (.bool false) fun _=>True)):=hD fun w2 v g2 hq=>(Un HF.out g2 HH.out.1 (by have:=HH.out.2.1;omega) v q.1 hq (by have:=HQL.out.1;omega) HH.out.2.2).mono fun e w' ⟨h1,x',h2,h3,h4⟩=>by
   rw[hR]at h1;exact⟨h1,x',h2,h3,trivial⟩
  clear hR;go_enter Tryz.func71,Tryz.ntmps71
  go_upto_region 1 with (fail)
  rw[← HW.out];go_wp2_with (first|(go_at_call 103;refine(HEF.out _ HG1.out.1).mono ?_;rintro e w2 ⟨p,r,rfl,g2,s2,hp,hr⟩;have HG2:=hD (And.intro g2 s2);have HP:=hD hp;clear g2 s2 hp hr)|(go_at_call 102;refine(HTK.out _ _ HG2.out.1 HP.out).mono ?_;rintro e w3 ⟨rfl,x3,g3,s3,-⟩;have HG3:=hD g3;have HS3:=hD s3;clear g3 s3))
  exact Zb3
 | true =>
  rw[UF hR];have HTK:Hid (∀ w2 v,Wk F w2 x→Wg (WB F w2 x) w2 v q.1→Calls Tryz.prog 102 #[.pointer (some ⟨F.G,0,none⟩),v] w2 (WPost F w2 x (.bool true) fun x'=>x'.f=x.f∧x'.s=x.s.take (max (x.s.length - q.1.length) x.top.h))):=hD fun w2 v g2 hq=>(Un HF.out g2 HH.out.1 (by have:=HH.out.2.1;omega) v q.1 hq (by have:=HQL.out.1;omega) HH.out.2.2).mono fun e w' ⟨h1,x',h2,h3,h4⟩=>by
   rw[hR]at h1;exact⟨h1,x',h2,h3,h4.1,h4.2 hR⟩
  clear hR;go_enter Tryz.func71,Tryz.ntmps71
  go_upto_region 1 with (fail)
  rw[← HW.out];go_wp2_with (first|(go_at_call 103;refine(HEF.out _ HG1.out.1).mono ?_;rintro e w2 ⟨p,r,rfl,g2,s2,hp,hr⟩;have HG2:=hD (And.intro g2 s2);have HP:=hD hp;have HR:=hD hr;clear g2 s2 hp hr)|(go_at_call 102;refine(HTK.out _ _ HG2.out.1 HP.out).mono ?_;rintro e w3 ⟨rfl,x3,g3,s3,hf3,hs3⟩;have HG3:=hD g3;have HS3:=hD s3;have HF3:=hD hf3;have HX3:=hD hs3;clear g3 s3 hf3 hs3)|(go_at_call 86;refine(give_any HF.out HG3.out _ q.2 (HS3.out.ints HR.out) (by rw[HX3.out,List.length_take];have:=HH.out.2.1;have:=HQL.out.2;omega)).mono ?_;rintro e w4 ⟨rfl,x4,g4,s4,hf4,hs4⟩;have HG4:=hD g4;have HS4:=hD s4;have HF4:=hD hf4;have HX4:=hD hs4;clear g4 s4 hf4 hs4))
  exact Zbq
end
section
open Go.RowKit
set_option maxHeartbeats 4000000
set_option maxRecDepth 100000
theorem ZbO {P:Prop}(h:P:=by
 go_ret;exact⟨x3,HG3.out,HG1.out.2.trans HS3.out,rfl,HP3.out⟩):P:=h
theorem follow_5 {F:Wx} {w:World} {x:Ws} (hF:F.prg) (h:Wk F w x) (h0:0<x.f.length) (hs:x.s.length≤900000) (hrl:x.top.rs.length≤100000) (hpl:x.top.ps.length≤100000) (hfl:x.f.length≤900000) (hh:x.top.h≤x.s.length) (a b n:Int) (l:List Int) (Al:Option Addr) (nl cl:Nat) :
 Calls Tryz.prog 71 #[.pointer (some ⟨F.G,0,none⟩),.agg #[.int .i64 5,.int .i64 a,.int .i64 b,.int .u64 n,.slice Al nl cl]] w (Vb F w x (Wr F.env x.pl ⟨5,a,b,n,l⟩)):=by
 rw[show Wr F.env x.pl ⟨5,a,b,n,l⟩=divideC x.pl by unfold Wr;simp];obtain⟨W,hW⟩:∃ W,W=w.alloc (.cells #[.int .i64 5,.int .i64 a,.int .i64 b,.int .u64 n,.slice Al nl cl] 76):=⟨_,rfl⟩;have k0:W.cell? ⟨w.heap.size,0,none⟩=some (.int .i64 5):=by rw[hW,wN];rfl
 have HG1:=hD (hW ▸ h.alloc (.cells #[.int .i64 5,.int .i64 a,.int .i64 b,.int .u64 n,.slice Al nl cl] 76):Wk F W x∧WE F w x W x);have HW:=hD hW;have HT:=hD (divide_any hF HG1.out.1 h0 hs hrl hpl hfl hh);clear hW h;generalize divideC x.pl=r at HT ⊢;go_enter Tryz.func71,Tryz.ntmps71
 go_upto_region 1 with (fail)
 rw[← HW.out];go_wp2_with (go_at_call 94;refine HT.out.mono ?_;rintro e w3 ⟨x3,g3,s3,rfl,hp3⟩;have HG3:=hD g3;have HS3:=hD s3;have HP3:=hD hp3;clear g3 s3 hp3)
 exact ZbO
theorem follow_27 {F:Wx} {w:World} {x:Ws} (hF:F.prg) (h:Wk F w x) (h0:0<x.f.length) (hs:x.s.length≤900000) (hh:x.top.h≤x.s.length) (a b n:Int) (l:List Int) (Al:Option Addr) (nl cl:Nat) :
 Calls Tryz.prog 71 #[.pointer (some ⟨F.G,0,none⟩),.agg #[.int .i64 27,.int .i64 a,.int .i64 b,.int .u64 n,.slice Al nl cl]] w (Vb F w x (Wr F.env x.pl ⟨27,a,b,n,l⟩)):=by
 rw[show Wr F.env x.pl ⟨27,a,b,n,l⟩=chooseC x.pl by unfold Wr;simp];obtain⟨W,hW⟩:∃ W,W=w.alloc (.cells #[.int .i64 27,.int .i64 a,.int .i64 b,.int .u64 n,.slice Al nl cl] 76):=⟨_,rfl⟩;have k0:W.cell? ⟨w.heap.size,0,none⟩=some (.int .i64 27):=by rw[hW,wN];rfl
 have HG1:=hD (hW ▸ h.alloc (.cells #[.int .i64 27,.int .i64 a,.int .i64 b,.int .u64 n,.slice Al nl cl] 76):Wk F W x∧WE F w x W x);have HW:=hD hW;have HT:=hD (choose_any hF HG1.out.1 h0 hs hh);clear hW h;generalize chooseC x.pl=r at HT ⊢;go_enter Tryz.func71,Tryz.ntmps71
 go_upto_region 1 with (fail)
 rw[← HW.out];go_wp2_with (go_at_call 101;refine HT.out.mono ?_;rintro e w3 ⟨x3,g3,s3,rfl,hp3⟩;have HG3:=hD g3;have HS3:=hD s3;have HP3:=hD hp3;clear g3 s3 hp3)
 exact ZbO
end
end Go.Proofs.YtepgopnnaeoolaaGreatDoor
