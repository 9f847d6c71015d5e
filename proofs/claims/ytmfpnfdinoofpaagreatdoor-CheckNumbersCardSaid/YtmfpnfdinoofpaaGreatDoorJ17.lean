/- A part of the proof. -/
import Derived.Test.YtmfpnfdinoofpaaGreatDoorJ16
namespace Go.Proofs.YtmfpnfdinoofpaaGreatDoor
section
open Go.RowKit
theorem Ws.pl_s (x:Ws):x.pl.s=x.s:=rfl
theorem Ws.pl_f (x:Ws):x.pl.f=x.f.map Fv.fr:=rfl
theorem Ws.pl_top (x:Ws):WT x.pl.f=x.top.fr:=(Ws.top_fr x).symm
theorem U9 {x:Ws} {q:List Int} (h:Vm x.top.h x.top.dead x.s q=true):WI x.pl q=some ⟨x.s.take (max (x.s.length - q.length) x.top.h),x.pl.f⟩:=by
 unfold WI;rw[Ws.pl_top];exact if_pos h
theorem take_no {x:Ws} {q:List Int} (h:Vm x.top.h x.top.dead x.s q=false):WI x.pl q=none:=by
 unfold WI;rw[Ws.pl_top];exact if_neg (by show ¬ Vm x.top.h x.top.dead x.s q=true;rw[h];decide)
theorem deadF_pl (x:Ws):x.deadF.map Fv.fr=x.pl.f.set (x.pl.f.length - 1) { WT x.pl.f with dead:=true }:=by
 rw[Ws.pl_top,Ws.pl_f,List.length_map];unfold Ws.deadF;rw[List.map_set];rfl
theorem leave_yes {x:Ws} {q:List Int} (h:Vm x.top.h x.top.dead x.s q=true):Vo x.pl q=some ⟨x.s.take x.top.h,x.deadF.map Fv.fr⟩:=by
 unfold Vo;rw[U9 h,deadF_pl];show some (VP _)=_;unfold VP;simp only;rw[Ws.pl_top,List.take_take];show some (Pl.mk (List.take (min x.top.h _) x.s) _)=_;rw[Nat.min_eq_left (by omega)]
theorem leave_no {x:Ws} {q:List Int} (h:Vm x.top.h x.top.dead x.s q=false):Vo x.pl q=none:=by
 unfold Vo;rw[take_no h];rfl
theorem finish_yes {x:Ws} (h:x.mayEnd=true):VT x.pl=some (x.top.fr,⟨x.cut,(x.f.take (x.f.length - 1)).map Fv.fr⟩):=by
 unfold Ws.mayEnd at h;rw[Bool.and_eq_true]at h;unfold VT;rw[Ws.pl_top,show x.top.fr.rs=x.top.rs from rfl,U9 h.1];show(if x.cut.length≤x.top.h then _ else _)=_;rw[if_pos (show x.cut.length≤x.top.h from of_decide_eq_true h.2),Ws.pl_f,List.length_map,List.map_take];rfl
theorem finish_no {x:Ws} (h:x.mayEnd=false):VT x.pl=none:=by
 unfold Ws.mayEnd at h;unfold VT;rw[Ws.pl_top,show x.top.fr.rs=x.top.rs from rfl];cases hc:Vm x.top.h x.top.dead x.s x.top.rs with
 | false=>rw[take_no hc];rfl
 | true =>
  rw[hc,Bool.true_and]at h;rw[U9 hc];exact if_neg (of_decide_eq_false h)
theorem close_yes {x:Ws} (h:x.mayShut=true):closeC x.pl=some ⟨x.cut++x.top.rs,(x.f.take (x.f.length - 1)).map Fv.fr⟩:=by
 unfold Ws.mayShut at h;rw[Bool.and_eq_true]at h;unfold closeC;rw[finish_yes h.1];show(if x.top.op=4∧x.top.ps≠x.top.rs then _ else _)=_;rw[if_neg (by
  intro⟨h1,h2⟩;rw[decide_eq_true h1,decide_eq_false h2]at h;exact absurd h.2 (by decide))]
 rfl
theorem close_no {x:Ws} (h:x.mayShut=false):closeC x.pl=none:=by
 unfold Ws.mayShut at h;unfold closeC;cases hm:x.mayEnd with
 | false=>rw[finish_no hm];rfl
 | true =>
  rw[hm,Bool.true_and]at h;rw[finish_yes hm];show(if x.top.op=4∧x.top.ps≠x.top.rs then _ else _)=_;refine if_pos ?_;by_cases h1:x.top.op=4
  ·by_cases h2:x.top.ps=x.top.rs
   ·rw[decide_eq_true h1,decide_eq_true h2]at h;exact absurd h (by decide)
   ·exact⟨h1,h2⟩
  ·rw[decide_eq_false h1]at h;simp at h
def Vy (F:Wx) (w:World) (x:Ws) (r:Option Pl) (e:Ending) (w':World):Prop :=
 ∃ x',Wk F w' x'∧Wz F w x w' x'∧e=.returned (.bool r.isSome)∧∀ q,r=some q→x'.pl=q
end
section
open Go.RowKit
set_option maxHeartbeats 4000000
set_option maxRecDepth 100000
theorem Zw {P:Prop}(h:P:=by
 have HB:=hD hb;clear hb;go_quiet (fail)
 go_wp2_with fail
 go_quiet (first|(go_at_call 79;refine(V7 _ _ _).mono ?_;rintro e w1 ⟨rfl,rfl⟩;exact⟨rfl,_,rfl⟩))
 go_wp2;go_ret;first|exact⟨rfl,Wa HB.out (Wt (Wt (bR _ _) _) _)⟩|exact⟨rfl,Wa HB.out (Wt (bR _ _) _)⟩):P:=h
theorem Z9 {P:Prop}(h:P:=by
 have HB:=hD hb;clear hb;go_quiet (fail)
 go_wp2_with (go_at_call 79;refine(V7 _ _ _).mono ?_;rintro e w1 ⟨rfl,rfl⟩)
 go_ret;exact⟨rfl,Wa HB.out (Wt (bR _ _) _)⟩):P:=h
structure Exi (F:Wx) (W:World) (x:Ws) (B:Nat) (i:Vl) (Al:Option Addr) (nl cl:Nat):Prop where
 k0:W.cell? ⟨B,0,none⟩=some (.int .i64 i.op)
 k1:W.cell? ⟨B,1,none⟩=some (.int .i64 i.a)
 k2:W.cell? ⟨B,2,none⟩=some (.int .i64 i.b)
 k4:W.cell? ⟨B,4,none⟩=some (.slice Al nl cl)
 pf:∃ A c,W.cell? ⟨F.G,1,none⟩=some (.slice A x.f.length c)
 pm:∃ A c,W.cell? ⟨F.G,5,none⟩=some (.slice A F.m.mems.length c)
 pg:∃ A c,W.cell? ⟨F.G,6,none⟩=some (.slice A F.m.globs.length c)
 pd:∃ A c,W.cell? ⟨F.G,8,none⟩=some (.slice A F.m.datas.length c)
 pl:∃ A c,W.cell? ⟨F.G,11,none⟩=some (.slice A F.lo.length c)
theorem Wk.q {F:Wx} {w:World} {x:Ws} (h:Wk F w x) (hF:F.prg):w.cell? ⟨F.G,5,none⟩=some F.v.m3∧w.cell? ⟨F.G,6,none⟩=some F.v.m4∧w.cell? ⟨F.G,8,none⟩=some F.v.m6∧w.cell? ⟨F.G,10,none⟩=some (.int .i64 F.prof)∧w.cell? ⟨F.G,11,none⟩=some F.lov∧w.cell? ⟨F.G,12,none⟩=some F.rv:=by
 refine⟨?_,?_,?_,?_,?_,?_⟩ <;> rw[h.cell] <;> unfold WN <;> rw[hF.1] <;> rfl
theorem Wk.exi {F:Wx} {w:World} {x:Ws} (h:Wk F w x) (hF:F.prg) (i:Vl) (Al:Option Addr) (nl cl:Nat):Exi F (w.alloc (.cells #[.int .i64 i.op,.int .i64 i.a,.int .i64 i.b,.int .u64 i.n,.slice Al nl cl] 25)) x w.heap.size i Al nl cl:=by
 have hg:=(h.alloc (.cells #[.int .i64 i.op,.int .i64 i.a,.int .i64 i.b,.int .u64 i.n,.slice Al nl cl] 25)).1;have hk:∀ j:Nat,(w.alloc (.cells #[.int .i64 i.op,.int .i64 i.a,.int .i64 i.b,.int .u64 i.n,.slice Al nl cl] 25)).cell? ⟨w.heap.size,j,none⟩=(#[.int .i64 i.op,.int .i64 i.a,.int .i64 i.b,.int .u64 i.n,.slice Al nl cl]:Array Value)[j]?:=fun j=>wN ..;obtain⟨q3,q4,q6,_,ql,_⟩:=hg.q hF;have p1:=hg.p1 hF;have hm:=hg.reads.mod;obtain⟨A0,c0,A1,c1,A2,c2,A3,c3,A4,c4,A5,c5,A6,c6,A7,c7,hv⟩:=Wr hm;obtain⟨Af,cf,hfv⟩:=Wy hg.fo;obtain⟨Ao,co,hlo,_⟩:=hg.reads.loc.form;rw[hv]at q3 q4 q6;rw[hfv]at p1;rw[hlo]at ql;exact⟨hk 0,hk 1,hk 2,hk 4,⟨_,_,p1⟩,⟨_,_,q3⟩,⟨_,_,q4⟩,⟨_,_,q6⟩,⟨_,_,ql⟩⟩
def Wx.env (F:Wx):U5:=⟨F.m,F.prof,F.lo,F.ro⟩
theorem exists_12 {F:Wx} {w:World} {x:Ws} (hF:F.prg) (h:Wk F w x) (a b n:Int) (l:List Int) (Al:Option Addr) (nl cl:Nat) :
 Calls Tryz.prog 83 #[.pointer (some ⟨F.G,0,none⟩),.agg #[.int .i64 12,.int .i64 a,.int .i64 b,.int .u64 n,.slice Al nl cl]] w (Wh (Wo F.env x.pl ⟨12,a,b,n,l⟩) w):=by
 rw[show Wo F.env x.pl ⟨12,a,b,n,l⟩=(Wi a x.f.length) by unfold Wo Ws.pl Wx.env;simp];obtain⟨k0,k1,k2,k4,⟨A1,c1,p1⟩,⟨A5,c5,p5⟩,⟨A6,c6,p6⟩,⟨A8,c8,p8⟩,⟨A11,c11,p11⟩⟩:=h.exi hF ⟨12,a,b,n,l⟩ Al nl cl;have hb:=(bR w.heap.size w).alloc (nR _) (.cells #[.int .i64 12,.int .i64 a,.int .i64 b,.int .u64 n,.slice Al nl cl] 25);simp only at k0 k1 k2 k4 p1 p5 p6 p8 p11 hb;generalize x.f.length=nf at *;generalize F.m.mems.length=nm at *;generalize F.m.globs.length=ng at *;generalize F.m.datas.length=nd at *;generalize F.lo.length=no at *;clear h hF;go_enter Tryz.func83,Tryz.ntmps83
 go_upto_region 1 with (fail)
 generalize w.alloc (.cells #[.int .i64 12,.int .i64 a,.int .i64 b,.int .u64 n,.slice Al nl cl] 25)=W at *;exact Zw
theorem exists_13 {F:Wx} {w:World} {x:Ws} (hF:F.prg) (h:Wk F w x) (a b n:Int) (l:List Int) (Al:Option Addr) (nl cl:Nat) :
 Calls Tryz.prog 83 #[.pointer (some ⟨F.G,0,none⟩),.agg #[.int .i64 13,.int .i64 a,.int .i64 b,.int .u64 n,.slice Al nl cl]] w (Wh (Wo F.env x.pl ⟨13,a,b,n,l⟩) w):=by
 rw[show Wo F.env x.pl ⟨13,a,b,n,l⟩=(Wi a x.f.length) by unfold Wo Ws.pl Wx.env;simp];obtain⟨k0,k1,k2,k4,⟨A1,c1,p1⟩,⟨A5,c5,p5⟩,⟨A6,c6,p6⟩,⟨A8,c8,p8⟩,⟨A11,c11,p11⟩⟩:=h.exi hF ⟨13,a,b,n,l⟩ Al nl cl;have hb:=(bR w.heap.size w).alloc (nR _) (.cells #[.int .i64 13,.int .i64 a,.int .i64 b,.int .u64 n,.slice Al nl cl] 25);simp only at k0 k1 k2 k4 p1 p5 p6 p8 p11 hb;generalize x.f.length=nf at *;generalize F.m.mems.length=nm at *;generalize F.m.globs.length=ng at *;generalize F.m.datas.length=nd at *;generalize F.lo.length=no at *;clear h hF;go_enter Tryz.func83,Tryz.ntmps83
 go_upto_region 1 with (fail)
 generalize w.alloc (.cells #[.int .i64 13,.int .i64 a,.int .i64 b,.int .u64 n,.slice Al nl cl] 25)=W at *;exact Zw
theorem exists_32 {F:Wx} {w:World} {x:Ws} (hF:F.prg) (h:Wk F w x) (a b n:Int) (l:List Int) (Al:Option Addr) (nl cl:Nat) :
 Calls Tryz.prog 83 #[.pointer (some ⟨F.G,0,none⟩),.agg #[.int .i64 32,.int .i64 a,.int .i64 b,.int .u64 n,.slice Al nl cl]] w (Wh (Wo F.env x.pl ⟨32,a,b,n,l⟩) w):=by
 rw[show Wo F.env x.pl ⟨32,a,b,n,l⟩=(Wi a F.lo.length) by unfold Wo Ws.pl Wx.env;simp];obtain⟨k0,k1,k2,k4,⟨A1,c1,p1⟩,⟨A5,c5,p5⟩,⟨A6,c6,p6⟩,⟨A8,c8,p8⟩,⟨A11,c11,p11⟩⟩:=h.exi hF ⟨32,a,b,n,l⟩ Al nl cl;have hb:=(bR w.heap.size w).alloc (nR _) (.cells #[.int .i64 32,.int .i64 a,.int .i64 b,.int .u64 n,.slice Al nl cl] 25);simp only at k0 k1 k2 k4 p1 p5 p6 p8 p11 hb;generalize x.f.length=nf at *;generalize F.m.mems.length=nm at *;generalize F.m.globs.length=ng at *;generalize F.m.datas.length=nd at *;generalize F.lo.length=no at *;clear h hF;go_enter Tryz.func83,Tryz.ntmps83
 go_upto_region 1 with (fail)
 generalize w.alloc (.cells #[.int .i64 32,.int .i64 a,.int .i64 b,.int .u64 n,.slice Al nl cl] 25)=W at *;exact Zw
theorem exists_33 {F:Wx} {w:World} {x:Ws} (hF:F.prg) (h:Wk F w x) (a b n:Int) (l:List Int) (Al:Option Addr) (nl cl:Nat) :
 Calls Tryz.prog 83 #[.pointer (some ⟨F.G,0,none⟩),.agg #[.int .i64 33,.int .i64 a,.int .i64 b,.int .u64 n,.slice Al nl cl]] w (Wh (Wo F.env x.pl ⟨33,a,b,n,l⟩) w):=by
 rw[show Wo F.env x.pl ⟨33,a,b,n,l⟩=(Wi a F.lo.length) by unfold Wo Ws.pl Wx.env;simp];obtain⟨k0,k1,k2,k4,⟨A1,c1,p1⟩,⟨A5,c5,p5⟩,⟨A6,c6,p6⟩,⟨A8,c8,p8⟩,⟨A11,c11,p11⟩⟩:=h.exi hF ⟨33,a,b,n,l⟩ Al nl cl;have hb:=(bR w.heap.size w).alloc (nR _) (.cells #[.int .i64 33,.int .i64 a,.int .i64 b,.int .u64 n,.slice Al nl cl] 25);simp only at k0 k1 k2 k4 p1 p5 p6 p8 p11 hb;generalize x.f.length=nf at *;generalize F.m.mems.length=nm at *;generalize F.m.globs.length=ng at *;generalize F.m.datas.length=nd at *;generalize F.lo.length=no at *;clear h hF;go_enter Tryz.func83,Tryz.ntmps83
 go_upto_region 1 with (fail)
 generalize w.alloc (.cells #[.int .i64 33,.int .i64 a,.int .i64 b,.int .u64 n,.slice Al nl cl] 25)=W at *;exact Zw
theorem exists_34 {F:Wx} {w:World} {x:Ws} (hF:F.prg) (h:Wk F w x) (a b n:Int) (l:List Int) (Al:Option Addr) (nl cl:Nat) :
 Calls Tryz.prog 83 #[.pointer (some ⟨F.G,0,none⟩),.agg #[.int .i64 34,.int .i64 a,.int .i64 b,.int .u64 n,.slice Al nl cl]] w (Wh (Wo F.env x.pl ⟨34,a,b,n,l⟩) w):=by
 rw[show Wo F.env x.pl ⟨34,a,b,n,l⟩=(Wi a F.lo.length) by unfold Wo Ws.pl Wx.env;simp];obtain⟨k0,k1,k2,k4,⟨A1,c1,p1⟩,⟨A5,c5,p5⟩,⟨A6,c6,p6⟩,⟨A8,c8,p8⟩,⟨A11,c11,p11⟩⟩:=h.exi hF ⟨34,a,b,n,l⟩ Al nl cl;have hb:=(bR w.heap.size w).alloc (nR _) (.cells #[.int .i64 34,.int .i64 a,.int .i64 b,.int .u64 n,.slice Al nl cl] 25);simp only at k0 k1 k2 k4 p1 p5 p6 p8 p11 hb;generalize x.f.length=nf at *;generalize F.m.mems.length=nm at *;generalize F.m.globs.length=ng at *;generalize F.m.datas.length=nd at *;generalize F.lo.length=no at *;clear h hF;go_enter Tryz.func83,Tryz.ntmps83
 go_upto_region 1 with (fail)
 generalize w.alloc (.cells #[.int .i64 34,.int .i64 a,.int .i64 b,.int .u64 n,.slice Al nl cl] 25)=W at *;exact Zw
theorem exists_35 {F:Wx} {w:World} {x:Ws} (hF:F.prg) (h:Wk F w x) (a b n:Int) (l:List Int) (Al:Option Addr) (nl cl:Nat) :
 Calls Tryz.prog 83 #[.pointer (some ⟨F.G,0,none⟩),.agg #[.int .i64 35,.int .i64 a,.int .i64 b,.int .u64 n,.slice Al nl cl]] w (Wh (Wo F.env x.pl ⟨35,a,b,n,l⟩) w):=by
 rw[show Wo F.env x.pl ⟨35,a,b,n,l⟩=(Wi a F.m.globs.length) by unfold Wo Ws.pl Wx.env;simp];obtain⟨k0,k1,k2,k4,⟨A1,c1,p1⟩,⟨A5,c5,p5⟩,⟨A6,c6,p6⟩,⟨A8,c8,p8⟩,⟨A11,c11,p11⟩⟩:=h.exi hF ⟨35,a,b,n,l⟩ Al nl cl;have hb:=(bR w.heap.size w).alloc (nR _) (.cells #[.int .i64 35,.int .i64 a,.int .i64 b,.int .u64 n,.slice Al nl cl] 25);simp only at k0 k1 k2 k4 p1 p5 p6 p8 p11 hb;generalize x.f.length=nf at *;generalize F.m.mems.length=nm at *;generalize F.m.globs.length=ng at *;generalize F.m.datas.length=nd at *;generalize F.lo.length=no at *;clear h hF;go_enter Tryz.func83,Tryz.ntmps83
 go_upto_region 1 with (fail)
 generalize w.alloc (.cells #[.int .i64 35,.int .i64 a,.int .i64 b,.int .u64 n,.slice Al nl cl] 25)=W at *;exact Zw
theorem exists_36 {F:Wx} {w:World} {x:Ws} (hF:F.prg) (h:Wk F w x) (a b n:Int) (l:List Int) (Al:Option Addr) (nl cl:Nat) :
 Calls Tryz.prog 83 #[.pointer (some ⟨F.G,0,none⟩),.agg #[.int .i64 36,.int .i64 a,.int .i64 b,.int .u64 n,.slice Al nl cl]] w (Wh (Wo F.env x.pl ⟨36,a,b,n,l⟩) w):=by
 rw[show Wo F.env x.pl ⟨36,a,b,n,l⟩=(Wi a F.m.globs.length) by unfold Wo Ws.pl Wx.env;simp];obtain⟨k0,k1,k2,k4,⟨A1,c1,p1⟩,⟨A5,c5,p5⟩,⟨A6,c6,p6⟩,⟨A8,c8,p8⟩,⟨A11,c11,p11⟩⟩:=h.exi hF ⟨36,a,b,n,l⟩ Al nl cl;have hb:=(bR w.heap.size w).alloc (nR _) (.cells #[.int .i64 36,.int .i64 a,.int .i64 b,.int .u64 n,.slice Al nl cl] 25);simp only at k0 k1 k2 k4 p1 p5 p6 p8 p11 hb;generalize x.f.length=nf at *;generalize F.m.mems.length=nm at *;generalize F.m.globs.length=ng at *;generalize F.m.datas.length=nd at *;generalize F.lo.length=no at *;clear h hF;go_enter Tryz.func83,Tryz.ntmps83
 go_upto_region 1 with (fail)
 generalize w.alloc (.cells #[.int .i64 36,.int .i64 a,.int .i64 b,.int .u64 n,.slice Al nl cl] 25)=W at *;exact Zw
theorem exists_63 {F:Wx} {w:World} {x:Ws} (hF:F.prg) (h:Wk F w x) (a b n:Int) (l:List Int) (Al:Option Addr) (nl cl:Nat) :
 Calls Tryz.prog 83 #[.pointer (some ⟨F.G,0,none⟩),.agg #[.int .i64 63,.int .i64 a,.int .i64 b,.int .u64 n,.slice Al nl cl]] w (Wh (Wo F.env x.pl ⟨63,a,b,n,l⟩) w):=by
 rw[show Wo F.env x.pl ⟨63,a,b,n,l⟩=(Wi a F.m.mems.length) by unfold Wo Ws.pl Wx.env;simp];obtain⟨k0,k1,k2,k4,⟨A1,c1,p1⟩,⟨A5,c5,p5⟩,⟨A6,c6,p6⟩,⟨A8,c8,p8⟩,⟨A11,c11,p11⟩⟩:=h.exi hF ⟨63,a,b,n,l⟩ Al nl cl;have hb:=(bR w.heap.size w).alloc (nR _) (.cells #[.int .i64 63,.int .i64 a,.int .i64 b,.int .u64 n,.slice Al nl cl] 25);simp only at k0 k1 k2 k4 p1 p5 p6 p8 p11 hb;generalize x.f.length=nf at *;generalize F.m.mems.length=nm at *;generalize F.m.globs.length=ng at *;generalize F.m.datas.length=nd at *;generalize F.lo.length=no at *;clear h hF;go_enter Tryz.func83,Tryz.ntmps83
 go_upto_region 1 with (fail)
 generalize w.alloc (.cells #[.int .i64 63,.int .i64 a,.int .i64 b,.int .u64 n,.slice Al nl cl] 25)=W at *;exact Z9
theorem exists_64 {F:Wx} {w:World} {x:Ws} (hF:F.prg) (h:Wk F w x) (a b n:Int) (l:List Int) (Al:Option Addr) (nl cl:Nat) :
 Calls Tryz.prog 83 #[.pointer (some ⟨F.G,0,none⟩),.agg #[.int .i64 64,.int .i64 a,.int .i64 b,.int .u64 n,.slice Al nl cl]] w (Wh (Wo F.env x.pl ⟨64,a,b,n,l⟩) w):=by
 rw[show Wo F.env x.pl ⟨64,a,b,n,l⟩=(Wi a F.m.mems.length) by unfold Wo Ws.pl Wx.env;simp];obtain⟨k0,k1,k2,k4,⟨A1,c1,p1⟩,⟨A5,c5,p5⟩,⟨A6,c6,p6⟩,⟨A8,c8,p8⟩,⟨A11,c11,p11⟩⟩:=h.exi hF ⟨64,a,b,n,l⟩ Al nl cl;have hb:=(bR w.heap.size w).alloc (nR _) (.cells #[.int .i64 64,.int .i64 a,.int .i64 b,.int .u64 n,.slice Al nl cl] 25);simp only at k0 k1 k2 k4 p1 p5 p6 p8 p11 hb;generalize x.f.length=nf at *;generalize F.m.mems.length=nm at *;generalize F.m.globs.length=ng at *;generalize F.m.datas.length=nd at *;generalize F.lo.length=no at *;clear h hF;go_enter Tryz.func83,Tryz.ntmps83
 go_upto_region 1 with (fail)
 generalize w.alloc (.cells #[.int .i64 64,.int .i64 a,.int .i64 b,.int .u64 n,.slice Al nl cl] 25)=W at *;exact Z9
theorem exists_64523 {F:Wx} {w:World} {x:Ws} (hF:F.prg) (h:Wk F w x) (a b n:Int) (l:List Int) (Al:Option Addr) (nl cl:Nat) :
 Calls Tryz.prog 83 #[.pointer (some ⟨F.G,0,none⟩),.agg #[.int .i64 64523,.int .i64 a,.int .i64 b,.int .u64 n,.slice Al nl cl]] w (Wh (Wo F.env x.pl ⟨64523,a,b,n,l⟩) w):=by
 rw[show Wo F.env x.pl ⟨64523,a,b,n,l⟩=(Wi a F.m.mems.length) by unfold Wo Ws.pl Wx.env;simp];obtain⟨k0,k1,k2,k4,⟨A1,c1,p1⟩,⟨A5,c5,p5⟩,⟨A6,c6,p6⟩,⟨A8,c8,p8⟩,⟨A11,c11,p11⟩⟩:=h.exi hF ⟨64523,a,b,n,l⟩ Al nl cl;have hb:=(bR w.heap.size w).alloc (nR _) (.cells #[.int .i64 64523,.int .i64 a,.int .i64 b,.int .u64 n,.slice Al nl cl] 25);simp only at k0 k1 k2 k4 p1 p5 p6 p8 p11 hb;generalize x.f.length=nf at *;generalize F.m.mems.length=nm at *;generalize F.m.globs.length=ng at *;generalize F.m.datas.length=nd at *;generalize F.lo.length=no at *;clear h hF;go_enter Tryz.func83,Tryz.ntmps83
 go_upto_region 1 with (fail)
 generalize w.alloc (.cells #[.int .i64 64523,.int .i64 a,.int .i64 b,.int .u64 n,.slice Al nl cl] 25)=W at *;exact Z9
theorem exists_64521 {F:Wx} {w:World} {x:Ws} (hF:F.prg) (h:Wk F w x) (a b n:Int) (l:List Int) (Al:Option Addr) (nl cl:Nat) :
 Calls Tryz.prog 83 #[.pointer (some ⟨F.G,0,none⟩),.agg #[.int .i64 64521,.int .i64 a,.int .i64 b,.int .u64 n,.slice Al nl cl]] w (Wh (Wo F.env x.pl ⟨64521,a,b,n,l⟩) w):=by
 rw[show Wo F.env x.pl ⟨64521,a,b,n,l⟩=(Wi a F.m.datas.length) by unfold Wo Ws.pl Wx.env;simp];obtain⟨k0,k1,k2,k4,⟨A1,c1,p1⟩,⟨A5,c5,p5⟩,⟨A6,c6,p6⟩,⟨A8,c8,p8⟩,⟨A11,c11,p11⟩⟩:=h.exi hF ⟨64521,a,b,n,l⟩ Al nl cl;have hb:=(bR w.heap.size w).alloc (nR _) (.cells #[.int .i64 64521,.int .i64 a,.int .i64 b,.int .u64 n,.slice Al nl cl] 25);simp only at k0 k1 k2 k4 p1 p5 p6 p8 p11 hb;generalize x.f.length=nf at *;generalize F.m.mems.length=nm at *;generalize F.m.globs.length=ng at *;generalize F.m.datas.length=nd at *;generalize F.lo.length=no at *;clear h hF;go_enter Tryz.func83,Tryz.ntmps83
 go_upto_region 1 with (fail)
 generalize w.alloc (.cells #[.int .i64 64521,.int .i64 a,.int .i64 b,.int .u64 n,.slice Al nl cl] 25)=W at *;exact Z9
end
section
open Go.RowKit
set_option maxHeartbeats 4000000
set_option maxRecDepth 100000
def restE (op:Int):Prop:=op≠2∧op≠3∧op≠4∧op≠12∧op≠13∧op≠14∧op≠16∧op≠18∧op≠32∧op≠33∧op≠34∧op≠35∧op≠36∧op≠63∧op≠64∧op≠64523∧op≠64520∧op≠64522∧op≠64521
theorem restE_is (e:U5) (p:Pl) (x:Vl) (h:restE x.op):Wo e p x=(!(WK x.op).2.2.2 || Wi x.a e.m.mems.length):=by
 obtain⟨h1,h2,h3,h4,h5,h6,h7,h8,h9,h10,h11,h12,h13,h14,h15,h16,h17,h18,h19⟩:=h;unfold Wo;simp[h1,h2,h3,h4,h5,h6,h7,h8,h9,h10,h11,h12,h13,h14,h15,h16,h17,h18,h19]
theorem exists_rest {F:Wx} {w:World} {x:Ws} (hF:F.prg) (h:Wk F w x) (op a b n:Int) (l:List Int) (hop:restE op) (Al:Option Addr) (nl cl:Nat) :
 Calls Tryz.prog 83 #[.pointer (some ⟨F.G,0,none⟩),.agg #[.int .i64 op,.int .i64 a,.int .i64 b,.int .u64 n,.slice Al nl cl]] w (Wh (Wo F.env x.pl ⟨op,a,b,n,l⟩) w):=by
 rw[restE_is _ _ ⟨op,a,b,n,l⟩ hop];obtain⟨k0,k1,k2,k4,⟨A1,c1,p1⟩,⟨A5,c5,p5⟩,⟨A6,c6,p6⟩,⟨A8,c8,p8⟩,⟨A11,c11,p11⟩⟩:=h.exi hF ⟨op,a,b,n,l⟩ Al nl cl;have hb:=(bR w.heap.size w).alloc (nR _) (.cells #[.int .i64 op,.int .i64 a,.int .i64 b,.int .u64 n,.slice Al nl cl] 25);unfold Wx.env;simp only at k0 k1 k2 k4 p1 p5 p6 p8 p11 hb ⊢;generalize x.f.length=nf at *;generalize F.m.mems.length=nm at *;generalize F.m.globs.length=ng at *;generalize F.m.datas.length=nd at *;generalize F.lo.length=no at *;obtain⟨h1,h2,h3,h4,h5,h6,h7,h8,h9,h10,h11,h12,h13,h14,h15,h16,h17,h18,h19⟩:=hop;have d1:(op==2)=false:=by simpa using h1
 have d2:(op==3)=false:=by simpa using h2
 have d3:(op==4)=false:=by simpa using h3
 have d4:(op==12)=false:=by simpa using h4
 have d5:(op==13)=false:=by simpa using h5
 have d6:(op==14)=false:=by simpa using h6
 have d7:(op==16)=false:=by simpa using h7
 have d8:(op==18)=false:=by simpa using h8
 have d9:(op==32)=false:=by simpa using h9
 have d10:(op==33)=false:=by simpa using h10
 have d11:(op==34)=false:=by simpa using h11
 have d12:(op==35)=false:=by simpa using h12
 have d13:(op==36)=false:=by simpa using h13
 have d14:(op==63)=false:=by simpa using h14
 have d15:(op==64)=false:=by simpa using h15
 have d16:(op==64523)=false:=by simpa using h16
 have d17:(op==64520)=false:=by simpa using h17
 have d18:(op==64522)=false:=by simpa using h18
 have d19:(op==64521)=false:=by simpa using h19
 clear h1 h2 h3 h4 h5 h6 h7 h8 h9 h10 h11 h12 h13 h14 h15 h16 h17 h18 h19 h hF;have HA:=hD (fun w=>access_any op w);obtain⟨⟨a1,a2,a3,a4⟩,ha⟩:∃ q,WK op=q:=⟨_,rfl⟩;rw[ha]at HA ⊢;unfold AccPost at HA;simp only at HA ⊢;clear ha;go_enter Tryz.func83,Tryz.ntmps83
 go_upto_region 1 with (fail)
 generalize w.alloc (.cells #[.int .i64 op,.int .i64 a,.int .i64 b,.int .u64 n,.slice Al nl cl] 25)=W at *;have HB:=hD hb;have HK1:=hD k1;clear hb;go_quiet (fail)
 have hbd:=Wt (bR W.heap.size W) nq;have HBD:=hD hbd;clear hbd;cases a4 with
 | false =>
  rw[show(!false || Wi a nm)=true from rfl];go_wp2_with (go_at_call 119;refine(HA.out _).mono ?_;rintro e w2 ⟨rfl,hb2⟩;have HB2:=hD hb2;clear hb2)
  go_ret;exact⟨rfl,Wa (Wa HB.out HBD.out) HB2.out⟩
 | true =>
  rw[show(!true || Wi a nm)=Wi a nm from rfl];go_wp2_with (first|(go_at_call 119;refine(HA.out _).mono ?_;rintro e w2 ⟨rfl,hb2⟩;have HB2:=hD hb2;have j1:=(hb2.cell (wL (W.drewN nq) _ HK1.out)).trans HK1.out;clear hb2)|(go_at_call 79;refine(V7 _ _ _).mono ?_;rintro e w3 ⟨rfl,rfl⟩))
  go_ret;exact⟨rfl,Wa (Wa HB.out HBD.out) HB2.out⟩
end
section
open Go.RowKit
set_option maxHeartbeats 4000000
set_option maxRecDepth 100000
def restF (op:Int):Prop:=op≠13∧op≠16∧op≠32∧op≠33∧op≠34∧op≠35∧op≠63∧op≠64∧op≠64520∧op≠64522∧op≠64523
theorem restF_is (e:U5) (p:Pl) (x:Vl) (h:restF x.op):Vi e p x=V0 x.op:=by
 obtain⟨h0,h1,h2,h3,h4,h5,h6,h7,h8,h9,h10⟩:=h;unfold Vi;simp[h0,h1,h2,h3,h4,h5,h6,h7,h8,h9,h10]
theorem effect_rest (P:Value) (w:World) (op a b n:Int) (hop:restF op) (Al:Option Addr) (nl cl:Nat) :
 Calls Tryz.prog 130 #[P,.agg #[.int .i64 op,.int .i64 a,.int .i64 b,.int .u64 n,.slice Al nl cl]] w (Uv (V0 op) w):=by
 obtain⟨h0,h1,h2,h3,h4,h5,h6,h7,h8,h9,h10⟩:=hop;have d0:(op==13)=false:=by simpa using h0
 have d1:(op==16)=false:=by simpa using h1
 have d2:(op==32)=false:=by simpa using h2
 have d3:(op==33)=false:=by simpa using h3
 have d4:(op==34)=false:=by simpa using h4
 have d5:(op==35)=false:=by simpa using h5
 have d6:(op==63)=false:=by simpa using h6
 have d7:(op==64)=false:=by simpa using h7
 have d8:(op==64520)=false:=by simpa using h8
 have d9:(op==64522)=false:=by simpa using h9
 have d10:(op==64523)=false:=by simpa using h10
 clear h0 h1 h2 h3 h4 h5 h6 h7 h8 h9 h10;have HX:=hD (fun w=>fixed_any op w);generalize V0 op=q at HX ⊢;have hb:=(bR w.heap.size w).alloc (nR _) (.cells #[.int .i64 op,.int .i64 a,.int .i64 b,.int .u64 n,.slice Al nl cl] 25);have k0:(w.alloc (.cells #[.int .i64 op,.int .i64 a,.int .i64 b,.int .u64 n,.slice Al nl cl] 25)).cell? ⟨w.heap.size,0,none⟩=some (.int .i64 op):=by rw[wN];rfl
 go_enter Tryz.func130,Tryz.ntmps130
 go_upto_region 1 with (fail)
 generalize w.alloc (.cells #[.int .i64 op,.int .i64 a,.int .i64 b,.int .u64 n,.slice Al nl cl] 25)=W at *;have HB:=hD hb;clear hb;go_wp2_with (go_at_call 160;refine(HX.out _).mono ?_;rintro e w2 ⟨p,r,rfl,hp,hr,hb2⟩;have HB2:=hD hb2;have HP:=hD hp;have HR:=hD hr;clear hb2 hp hr)
 go_ret2
 exact⟨p,r,rfl,HP.out.keep (.refl _ _) fun k hk=>⟨Nat.le_trans HB.out.size hk.1,hk.2⟩,HR.out.keep (.refl _ _) fun k hk=>⟨Nat.le_trans HB.out.size hk.1,hk.2⟩,Wa HB.out HB2.out⟩
end
section
open Go.RowKit
set_option maxHeartbeats 4000000
set_option maxRecDepth 100000
theorem Zci {P:Prop}(h:P:=by
 go_ret;refine⟨x4,HG4.out,((HG1.out.2.trans HG2.out.2).trans HS3.out).trans HS4.out,rfl,fun q' hq=>?_⟩;obtain rfl:=Option.some.inj hq;show Ws.pl x4=Vg _ _;unfold Ws.pl Vg;rw[HF4.out,HX4.out,HF3.out,HX3.out]):P:=h
theorem Zdh {P:Prop}(h:P:=by
 go_ret;exact⟨x3,HG3.out,(HG1.out.2.trans HG2.out.2).trans HS3.out,rfl,fun q hq=>(by cases hq)⟩):P:=h
theorem fixedC_len (op:Int):(V0 op).1.length≤3∧(V0 op).2.length≤3:=by
 unfold V0
 split
 ·simp
 ·split
  ·rename_i h
   have h1:Vw op=List.replicate (VH op).1 (VH op).2.1:=by unfold Vw;rw[h];rfl
   have h2:Vf op=[(VH op).2.2]:=by unfold Vf;rw[h];rfl
   simp only;rw[h1,h2,List.length_replicate];have:=sig_count op h;simp;omega
  ·split
   ·split <;> simp
   ·simp
def restG (op:Int):Prop:=op≠2∧op≠3∧op≠4∧op≠5∧op≠11∧op≠0∧op≠12∧op≠14∧op≠15∧op≠18∧op≠26∧op≠27∧op≠36
theorem restG_is (e:U5) (p:Pl) (x:Vl) (h:restG x.op):Wu e p x=(WI p (Vi e p x).1).map fun q=>Vg q (Vi e p x).2:=by
 obtain⟨g0,g1,g2,g3,g4,g5,g6,g7,g8,g9,g10,g11,g12⟩:=h;unfold Wu;simp[g0,g1,g2,g3,g4,g5,g6,g7,g8,g9,g10,g11,g12]
theorem Wk.new_ints {F:Wx} {w w':World} {x:Ws} (h:Wk F w x) {v:Value} {q:List Int} (hq:Wf (fun k=>w.heap.size≤k∧k<w'.heap.size) w' v q):Wf (Wq F w' x) w' v q :=
 hq.keep (.refl _ _) fun _ hk=>⟨hk.2,h.new_free hk.1⟩
theorem follow_rest {F:Wx} {w:World} {x:Ws} (hF:F.prg) (h:Wk F w x) (h0:0<x.f.length) (hs:x.s.length≤900000) (hh:x.top.h≤x.s.length) (op a b n:Int) (l:List Int) (hop:restF op) (hog:restG op) (Al:Option Addr) (nl cl:Nat) :
 Calls Tryz.prog 84 #[.pointer (some ⟨F.G,0,none⟩),.agg #[.int .i64 op,.int .i64 a,.int .i64 b,.int .u64 n,.slice Al nl cl]] w (Vy F w x (Wu F.env x.pl ⟨op,a,b,n,l⟩)):=by
 rw[restG_is _ _ ⟨op,a,b,n,l⟩ hog,restF_is _ _ ⟨op,a,b,n,l⟩ hop];simp only;have HEF:=hD (fun w=>effect_rest (.pointer (some ⟨F.G,0,none⟩)) w op a b n hop Al nl cl);obtain⟨g0,g1,g2,g3,g4,g5,g6,g7,g8,g9,g10,g11,g12⟩:=hog;have e0:(op==2)=false:=by simpa using g0
 have e1:(op==3)=false:=by simpa using g1
 have e2:(op==4)=false:=by simpa using g2
 have e3:(op==5)=false:=by simpa using g3
 have e4:(op==11)=false:=by simpa using g4
 have e5:(op==0)=false:=by simpa using g5
 have e6:(op==12)=false:=by simpa using g6
 have e7:(op==14)=false:=by simpa using g7
 have e8:(op==15)=false:=by simpa using g8
 have e9:(op==18)=false:=by simpa using g9
 have e10:(op==26)=false:=by simpa using g10
 have e11:(op==27)=false:=by simpa using g11
 have e12:(op==36)=false:=by simpa using g12
 clear g0 g1 g2 g3 g4 g5 g6 g7 g8 g9 g10 g11 g12 hop;have hql:=fixedC_len op;generalize V0 op=q at HEF hql ⊢;obtain⟨W,hW⟩:∃ W,W=w.alloc (.cells #[.int .i64 op,.int .i64 a,.int .i64 b,.int .u64 n,.slice Al nl cl] 25):=⟨_,rfl⟩;have hk:∀ j:Nat,W.cell? ⟨w.heap.size,j,none⟩=(#[.int .i64 op,.int .i64 a,.int .i64 b,.int .u64 n,.slice Al nl cl]:Array Value)[j]?:=fun j=>by rw[hW,wN]
 have k0:=hk 0;have k1:=hk 1;have k2:=hk 2;have k3:=hk 3;have k4:=hk 4;simp only[List.getElem?_toArray,List.getElem?_cons_zero,List.getElem?_cons_succ]at k0 k1 k2 k3 k4;have HG1:=hD (hW ▸ h.alloc (.cells #[.int .i64 op,.int .i64 a,.int .i64 b,.int .u64 n,.slice Al nl cl] 25):Wk F W x∧Wz F w x W x);have HW:=hD hW;have HF:=hD hF;have HQL:=hD hql;have HH:=hD (⟨h0,hs,hh⟩:0<x.f.length∧x.s.length≤900000∧x.top.h≤x.s.length);clear hk hW h hF hql h0 hs hh;cases hR:Vm x.top.h x.top.dead x.s q.1 with
 | false =>
  rw[take_no hR];have HTK:Hid (∀ w2 v,Wk F w2 x→Wf (Wq F w2 x) w2 v q.1→Calls Tryz.prog 129 #[.pointer (some ⟨F.G,0,none⟩),v] w2 (WPost F w2 x (.bool false) fun _=>True)):=hD fun w2 v g2 hq=>(UQ HF.out g2 HH.out.1 (by have:=HH.out.2.1;omega) v q.1 hq (by have:=HQL.out.1;omega) HH.out.2.2).mono fun e w' ⟨h1,x',h2,h3,h4⟩=>by
   rw[hR]at h1;exact⟨h1,x',h2,h3,trivial⟩
  clear hR;go_enter Tryz.func84,Tryz.ntmps84
  go_upto_region 1 with (fail)
  rw[← HW.out];go_wp2_with (first|(go_at_call 130;refine(HEF.out _).mono ?_;rintro e w2 ⟨p,r,rfl,hp,hr,hb2⟩;have HG2:=hD (HG1.out.1.below hb2);have HP:=hD (HG1.out.1.new_ints hp);clear hb2 hp hr)|(go_at_call 129;refine(HTK.out _ _ HG2.out.1 HP.out).mono ?_;rintro e w3 ⟨rfl,x3,g3,s3,-⟩;have HG3:=hD g3;have HS3:=hD s3;clear g3 s3))
  exact Zdh
 | true =>
  rw[U9 hR];have HTK:Hid (∀ w2 v,Wk F w2 x→Wf (Wq F w2 x) w2 v q.1→Calls Tryz.prog 129 #[.pointer (some ⟨F.G,0,none⟩),v] w2 (WPost F w2 x (.bool true) fun x'=>x'.f=x.f∧x'.s=x.s.take (max (x.s.length - q.1.length) x.top.h))):=hD fun w2 v g2 hq=>(UQ HF.out g2 HH.out.1 (by have:=HH.out.2.1;omega) v q.1 hq (by have:=HQL.out.1;omega) HH.out.2.2).mono fun e w' ⟨h1,x',h2,h3,h4⟩=>by
   rw[hR]at h1;exact⟨h1,x',h2,h3,h4.1,h4.2 hR⟩
  clear hR;go_enter Tryz.func84,Tryz.ntmps84
  go_upto_region 1 with (fail)
  rw[← HW.out];go_wp2_with (first|(go_at_call 130;refine(HEF.out _).mono ?_;rintro e w2 ⟨p,r,rfl,hp,hr,hb2⟩;have HG2:=hD (HG1.out.1.below hb2);have HP:=hD (HG1.out.1.new_ints hp);have HR:=hD (HG1.out.1.new_ints hr);clear hb2 hp hr)|(go_at_call 129;refine(HTK.out _ _ HG2.out.1 HP.out).mono ?_;rintro e w3 ⟨rfl,x3,g3,s3,hf3,hs3⟩;have HG3:=hD g3;have HS3:=hD s3;have HF3:=hD hf3;have HX3:=hD hs3;clear g3 s3 hf3 hs3)|(go_at_call 112;refine(give_any HF.out HG3.out _ q.2 (HS3.out.ints HR.out) (by rw[HX3.out,List.length_take];have:=HH.out.2.1;have:=HQL.out.2;omega)).mono ?_;rintro e w4 ⟨rfl,x4,g4,s4,hf4,hs4⟩;have HG4:=hD g4;have HS4:=hD s4;have HF4:=hD hf4;have HX4:=hD hs4;clear g4 s4 hf4 hs4))
  exact Zci
end
section
open Go.RowKit
set_option maxHeartbeats 4000000
set_option maxRecDepth 100000
theorem ZbE {P:Prop}(h:P:=by
 go_ret;refine⟨x3,HG3.out,HG1.out.2.trans HS3.out,rfl,fun q hq=>?_⟩;obtain rfl:=Option.some.inj hq;show Ws.pl x3=_;unfold Ws.pl;rw[HX3.out.1,HX3.out.2]):P:=h
theorem ZbF {P:Prop}(h:P:=by
 go_ret;exact⟨x3,HG3.out,HG1.out.2.trans HS3.out,rfl,fun q hq=>(by cases hq)⟩):P:=h
theorem pop_pl (x:Ws):UD x.pl=if x.s.length≤x.top.h then (if x.top.dead then some (0,x.pl) else none) else some (x.s.getD (x.s.length - 1) 0,⟨x.s.take (x.s.length - 1),x.pl.f⟩):=by
 unfold UD;rw[Ws.pl_top];rfl
theorem follow_0 {F:Wx} {w:World} {x:Ws} (hF:F.prg) (h:Wk F w x) (h0:0<x.f.length) (hs:x.s.length≤900000) (hh:x.top.h≤x.s.length) (a b n:Int) (l:List Int) (Al:Option Addr) (nl cl:Nat) :
 Calls Tryz.prog 84 #[.pointer (some ⟨F.G,0,none⟩),.agg #[.int .i64 0,.int .i64 a,.int .i64 b,.int .u64 n,.slice Al nl cl]] w (Vy F w x (Wu F.env x.pl ⟨0,a,b,n,l⟩)):=by
 rw[show Wu F.env x.pl ⟨0,a,b,n,l⟩=Vo x.pl [] by unfold Wu;simp];obtain⟨W,hW⟩:∃ W,W=w.alloc (.cells #[.int .i64 0,.int .i64 a,.int .i64 b,.int .u64 n,.slice Al nl cl] 25):=⟨_,rfl⟩;have k0:W.cell? ⟨w.heap.size,0,none⟩=some (.int .i64 0):=by rw[hW,wN];rfl
 have HG1:=hD (hW ▸ h.alloc (.cells #[.int .i64 0,.int .i64 a,.int .i64 b,.int .u64 n,.slice Al nl cl] 25):Wk F W x∧Wz F w x W x);have HW:=hD hW;have HT:=hD (wleave_any hF HG1.out.1 h0 (by omega) (.slice none 0 0) [] (Wf.nil _ _) (by simp) hh);clear hW h;cases hR:Vm x.top.h x.top.dead x.s [] with
 | false =>
  rw[leave_no hR];rw[hR]at HT;clear hR;go_enter Tryz.func84,Tryz.ntmps84
  go_upto_region 1 with (fail)
  rw[← HW.out];go_wp2_with (go_at_call 123;refine HT.out.mono ?_;rintro e w3 ⟨rfl,x3,g3,s3,-⟩;have HG3:=hD g3;have HS3:=hD s3;clear g3 s3)
  exact ZbF
 | true =>
  rw[leave_yes hR];rw[hR]at HT;clear hR;go_enter Tryz.func84,Tryz.ntmps84
  go_upto_region 1 with (fail)
  rw[← HW.out];go_wp2_with (go_at_call 123;refine HT.out.mono ?_;rintro e w3 ⟨rfl,x3,g3,s3,hx⟩;have HG3:=hD g3;have HS3:=hD s3;have HX3:=hD (hx rfl);clear g3 s3 hx)
  exact ZbE
theorem follow_11 {F:Wx} {w:World} {x:Ws} (hF:F.prg) (h:Wk F w x) (h0:0<x.f.length) (hs:x.s.length≤900000) (hh:x.top.h≤x.s.length) (hrl:x.top.rs.length≤100000) (a b n:Int) (l:List Int) (Al:Option Addr) (nl cl:Nat) :
 Calls Tryz.prog 84 #[.pointer (some ⟨F.G,0,none⟩),.agg #[.int .i64 11,.int .i64 a,.int .i64 b,.int .u64 n,.slice Al nl cl]] w (Vy F w x (Wu F.env x.pl ⟨11,a,b,n,l⟩)):=by
 rw[show Wu F.env x.pl ⟨11,a,b,n,l⟩=closeC x.pl by unfold Wu;simp];obtain⟨W,hW⟩:∃ W,W=w.alloc (.cells #[.int .i64 11,.int .i64 a,.int .i64 b,.int .u64 n,.slice Al nl cl] 25):=⟨_,rfl⟩;have k0:W.cell? ⟨w.heap.size,0,none⟩=some (.int .i64 11):=by rw[hW,wN];rfl
 have HG1:=hD (hW ▸ h.alloc (.cells #[.int .i64 11,.int .i64 a,.int .i64 b,.int .u64 n,.slice Al nl cl] 25):Wk F W x∧Wz F w x W x);have HW:=hD hW;have HT:=hD (close_any hF HG1.out.1 h0 hs hrl hh);clear hW h;cases hR:x.mayShut with
 | false =>
  rw[close_no hR];rw[hR]at HT;clear hR;go_enter Tryz.func84,Tryz.ntmps84
  go_upto_region 1 with (fail)
  rw[← HW.out];go_wp2_with (go_at_call 122;refine HT.out.mono ?_;rintro e w3 ⟨rfl,x3,g3,s3,-⟩;have HG3:=hD g3;have HS3:=hD s3;clear g3 s3)
  exact ZbF
 | true =>
  rw[close_yes hR];rw[hR]at HT;clear hR;go_enter Tryz.func84,Tryz.ntmps84
  go_upto_region 1 with (fail)
  rw[← HW.out];go_wp2_with (go_at_call 122;refine HT.out.mono ?_;rintro e w3 ⟨rfl,x3,g3,s3,hx⟩;have HG3:=hD g3;have HS3:=hD s3;have HX3:=hD (hx rfl);clear g3 s3 hx)
  exact ZbE
theorem follow_26 {F:Wx} {w:World} {x:Ws} (hF:F.prg) (h:Wk F w x) (h0:0<x.f.length) (hs:x.s.length≤900000) (a b n:Int) (l:List Int) (Al:Option Addr) (nl cl:Nat) :
 Calls Tryz.prog 84 #[.pointer (some ⟨F.G,0,none⟩),.agg #[.int .i64 26,.int .i64 a,.int .i64 b,.int .u64 n,.slice Al nl cl]] w (Vy F w x (Wu F.env x.pl ⟨26,a,b,n,l⟩)):=by
 rw[show Wu F.env x.pl ⟨26,a,b,n,l⟩=(UD x.pl).map fun q=>q.2 by unfold Wu;simp];obtain⟨W,hW⟩:∃ W,W=w.alloc (.cells #[.int .i64 26,.int .i64 a,.int .i64 b,.int .u64 n,.slice Al nl cl] 25):=⟨_,rfl⟩;have k0:W.cell? ⟨w.heap.size,0,none⟩=some (.int .i64 26):=by rw[hW,wN];rfl
 have HG1:=hD (hW ▸ h.alloc (.cells #[.int .i64 26,.int .i64 a,.int .i64 b,.int .u64 n,.slice Al nl cl] 25):Wk F W x∧Wz F w x W x);have HW:=hD hW;have HT:=hD (pop_any hF HG1.out.1 h0 (by omega));clear hW h;rw[pop_pl];by_cases hle:x.s.length≤x.top.h
 ·rw[if_pos hle,if_pos hle]at HT;rw[if_pos hle];cases hd:x.top.dead with
  | false =>
   rw[hd]at HT;clear hd;go_enter Tryz.func84,Tryz.ntmps84
   go_upto_region 1 with (fail)
   rw[← HW.out];go_wp2_with (go_at_call 127;refine HT.out.mono ?_;rintro e w3 ⟨rfl,x3,g3,s3,hf3,hs3⟩;have HG3:=hD g3;have HS3:=hD s3;have HX3:=hD (And.intro hf3 hs3);clear g3 s3 hf3 hs3)
   exact ZbF
  | true =>
   rw[hd]at HT;clear hd;go_enter Tryz.func84,Tryz.ntmps84
   go_upto_region 1 with (fail)
   rw[← HW.out];go_wp2_with (go_at_call 127;refine HT.out.mono ?_;rintro e w3 ⟨rfl,x3,g3,s3,hf3,hs3⟩;have HG3:=hD g3;have HS3:=hD s3;have HX3:=hD (And.intro hf3 hs3);clear g3 s3 hf3 hs3)
   go_ret;refine⟨x3,HG3.out,HG1.out.2.trans HS3.out,rfl,fun q hq=>?_⟩;obtain rfl:=Option.some.inj hq;show Ws.pl x3=Ws.pl x;unfold Ws.pl;rw[HX3.out.1,HX3.out.2]
 ·rw[if_neg hle,if_neg hle]at HT;rw[if_neg hle];go_enter Tryz.func84,Tryz.ntmps84
  go_upto_region 1 with (fail)
  rw[← HW.out];go_wp2_with (go_at_call 127;refine HT.out.mono ?_;rintro e w3 ⟨rfl,x3,g3,s3,hf3,hs3⟩;have HG3:=hD g3;have HS3:=hD s3;have HX3:=hD (And.intro hf3 hs3);clear g3 s3 hf3 hs3)
  exact ZbE
end
end Go.Proofs.YtmfpnfdinoofpaaGreatDoor
