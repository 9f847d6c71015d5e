/- A part of the proof. -/
import Derived.Test.YtgmgcadlkebokaaGreatDoorJ29
import Derived.Lib.AppendZerosOnto
import Derived.Test.YtgmgcadlkebokaaGreatDoorJ25
namespace Go.Proofs.YtgmgcadlkebokaaGreatDoor
section
open Go.RowKit
set_option maxHeartbeats 4000000
set_option maxRecDepth 100000
def GrowPost (w:World) (e:Ending) (w':World):Prop:=∃ v,e=.returned v∧w'.ownsRow 0 3 1 v 0 []∧(∀ g,v.ownBlock=some g→w.heap.size≤g)∧Below w.heap.size w w'
theorem grow_any (w:World) (n:Nat) (hn:n≤1000000):Calls Tryz.prog 109 #[.slice none 0 0,.int .i64 (n:Int)] w (GrowPost w):=by
 have h1:decide ((n:Int)<0)=false:=by simp
 have h2:IntKind.i64.wrap ((n:Int) - 0)=(n:Int):=by rw[Int.sub_zero];exact IntWalk.i64_in _ (by omega)
 have h2':IntKind.i64.wrap (n:Int)=(n:Int):=IntWalk.i64_in _ (by omega);rcases Nat.eq_zero_or_pos n with h0|h0
 ·subst h0;go_enter Tryz.func109,Tryz.ntmps109;go_wp2;go_ret;exact⟨_,rfl,World.ownsRow_nil _ _ _ _,(fun g h=>by cases h),bR _ _⟩
 ·have h3:decide ((0:Int)<(n:Int))=true:=by simp;omega
  obtain⟨i0,hi,hz0,hz1,hz2⟩:=info_parts Tryz.infoInt;have hG:=grownCap_ge w n 0 3;have hG2:=grownCap_le_maxLen w n 0 3 (by unfold maxLen;omega);obtain⟨Z,hZ⟩:∃ Z,Z=Builtin.zeroCells (Value.int .i64 0).cells n++Builtin.zeroCells (Value.int .i64 0).cells (grownCap w n 0 3 - n):=⟨_,rfl⟩;have hZs:Z.size=grownCap w n 0 3:=by rw[hZ];simp[Builtin.zeroCells,Value.cells];omega
  obtain⟨W2,hW2⟩:∃ W2,W2=w.drew.alloc (.cells Z 3):=⟨_,rfl⟩;have hrz:∀ ty,(Builtin.append_ #[22,3] ty #[.slice none 0 0,.int .i64 (n:Int)]).run Tryz.prog w=.ok (.slice (some ⟨w.heap.size,0,none⟩) n (grownCap w n 0 3)) W2:=fun ty=>by
   have h:=Lib.run_append_grow_zeros (P:=Tryz.prog) w 22 3 ty 3 i0 (.int .i64 0) .i64 .i64 Tryz.underlying22 Tryz.underlying3 hi hz0 none 0 0 [] (run_firstCells_none w.drew i0.size 0 0 0) n (by omega) (by rw[hz1];decide) (by omega) (by omega) (by rw[hz2];omega) (by rw[Nat.zero_add];exact growslice_fits (by omega) (by rw[hz2];omega));rw[Nat.zero_add]at h;rw[hW2,hZ];simpa using h
  obtain⟨G,hGe⟩:∃ G,G=grownCap w n 0 3:=⟨_,rfl⟩;rw[← hGe]at hrz hG hG2 hZs;have key:∀ (x:World) (cs:Array Value),(x.alloc (.cells cs 3)).heap[x.heap.size]?=some (.cells cs 3 (0,0)):=fun x cs=>by simp[World.alloc,-World.alloc_eq]
  have hown:W2.ownsRow 0 3 1 (.slice (some ⟨w.heap.size,0,none⟩) 0 G) 0 [] :=
   ⟨rfl,.inr ⟨w.heap.size,G,Z,rfl,nZ _,by rw[hW2];exact key w.drew Z,nZ _,hG2,by rw[hZs,Nat.mul_one],by simp⟩⟩
  have hb:Below w.heap.size w W2:=by rw[hW2];exact(bR w.heap.size w).drew.alloc (nR _) _
  have HO:=hD hown;have HB:=hD hb;clear hown hb hGe hi hz0 hz1 hz2 hZ hW2 hZs key;go_enter Tryz.func109,Tryz.ntmps109;unfold maxLen at hG2;go_wp2_with (at_builtin;refine Lib.wpList_append_run _ rfl _ _ _ _ rfl _ _ rfl rfl _ _ (hrz _) ?_)
  go_ret;exact⟨_,rfl,HO.out,fun g hg=>by
   have e:some w.heap.size=some g:=hg;simp only[Option.some.injEq]at e;omega,HB.out⟩
def OwnI (W wr:World) (v:Value) (q:List Int):Prop:=(∃ A c,v=.slice A q.length c)∧wr.ownsRow 0 3 1 v q.length (q.map (Value.int .i64))∧(∀ g,v.ownBlock=some g→W.heap.size≤g)∧Below W.heap.size W wr
theorem OwnI.push {W wr w':World} {v v':Value} {q more:List Int} (h:OwnI W wr v q) {m:Nat} {xs:List Value} (ho:w'.ownsRow 0 3 1 v' m xs) (hm:m=(q++more).length) (hx:xs=(q++more).map (Value.int .i64)) (hg:wr.grownBy w' v.ownBlock) (hat:v'.ownBlock=v.ownBlock∨v'.ownBlock=some wr.heap.size):OwnI W w' v' (q++more):=by
 subst hm hx;refine⟨Wd ho,ho,fun g hg'=>?_,h.2.2.2.grown hg h.2.2.2.size h.2.2.1⟩;rcases hat with h1|h1
 ·exact h.2.2.1 g (h1 ▸ hg')
 ·have:=h1.symm.trans hg';simp only[Option.some.injEq]at this;have:=h.2.2.2.size;omega
def LocC (l:List Int) (w:World) (e:Ending) (w':World):Prop:=∃ A c,e=.returned (.slice A l.length c)∧l.length≤c∧Wh (fun k=>w.heap.size≤k∧k<w'.heap.size) w' (.slice A l.length c) l∧Below w.heap.size w w'
theorem OwnI.loc {W wr:World} {v:Value} {q:List Int} (h:OwnI W wr v q) (hl:q.length≤1000000):LocC q W (.returned v) wr:=by
 obtain⟨⟨A,c,rfl⟩,ho,hn,hb⟩:=h;refine⟨A,c,rfl,?_,owns_new (w:=W) ho rfl rfl hl hn,hb⟩;rcases ho.2 with ⟨he,h0⟩|⟨g,cap,cur,he,_,_,h3,_⟩
 ·omega
 ·simp only[vI]at he;omega
theorem LocC.nil {w w':World} (hb:Below w.heap.size w w'):LocC [] w (.returned (.slice none 0 0)) w':=⟨none,0,rfl,nR _,Wh.nil _ _,hb⟩
theorem concat_any (w:World) (g:Nat) (v1 v2:Value) (l1 l2:List Int) (k0:w.cell? ⟨g,0,none⟩=some v1) (k1:w.cell? ⟨g,1,none⟩=some v2) (h1:Wh (fun k=>k<w.heap.size) w v1 l1) (h2:Wh (fun k=>k<w.heap.size) w v2 l2) (hl1:l1.length≤100000) (hl2:l2.length≤100000) :
 Calls Tryz.prog 67 #[.slice (some ⟨g,0,none⟩) 2 2] w (LocC (l1++l2) w):=by
 have HN1:=hD (fun wz (hb:Below w.heap.size w wz)=>(h1.keep (K':=fun k=>k<wz.heap.size) (We.below hb fun _ hk=>hk) fun _ hk=>WK hk hb.size).news);have HN2:=hD (fun wz (hb:Below w.heap.size w wz)=>(h2.keep (K':=fun k=>k<wz.heap.size) (We.below hb fun _ hk=>hk) fun _ hk=>WK hk hb.size).news);obtain⟨A1,c1,hv1,_,_⟩:=h1.form;obtain⟨A2,c2,hv2,_,_⟩:=h2.form;rw[hv1]at HN1 k0;rw[hv2]at HN2 k1;clear h1 h2 hv1 hv2;obtain⟨n1,hn1⟩:∃ n,l1.length=n:=⟨_,rfl⟩;obtain⟨n2,hn2⟩:∃ n,l2.length=n:=⟨_,rfl⟩;rw[hn1]at HN1 k0 hl1;rw[hn2]at HN2 k1 hl2;have HL1:=hD hn1;have HL2:=hD hn2;clear hn1 hn2;have e1:IntKind.i64.wrap (0+(n1:Int))=(n1:Int):=by rw[Int.zero_add];exact IntWalk.i64_in _ (by omega)
 have e1':IntKind.i64.wrap (n1:Int)=(n1:Int):=IntWalk.i64_in _ (by omega);have e2:IntKind.i64.wrap ((n1:Int)+(n2:Int))=((n1+n2:Nat):Int):=by rw[show(n1:Int)+(n2:Int)=((n1+n2:Nat):Int) by omega];exact IntWalk.i64_in _ (by omega)
 have HG:=hD (fun wz=>grow_any wz (n1+n2) (by omega));obtain⟨n3,hn3⟩:∃ n,n1+n2=n:=⟨_,rfl⟩;rw[hn3]at e2 HG;have HN3:=hD hn3;clear hn3;have d1:decide ((n1:Int)<0)=false:=by simp
 have d3:decide ((n3:Int)<0)=false:=by simp
 have hkg:=wL _ _ k0;have HK:=hD (fun wz (hb:Below w.heap.size w wz)=>And.intro ((hb.cell (p:=⟨g,0,none⟩) hkg).trans k0) ((hb.cell (p:=⟨g,1,none⟩) hkg).trans k1));go_enter Tryz.func67,Tryz.ntmps67;go_wp2_with fail
 go_loopw [3,11] (fun sz i wr=>wr=w∧((i=.int .i64 0∧sz=.int .i64 0)∨(i=.int .i64 1∧sz=.int .i64 (n1:Int))∨(i=.int .i64 2∧sz=.int .i64 (n3:Int)))) (fun _ i _=>2 - (intOf i).toNat)
 case atStart=>exact⟨rfl,.inl ⟨rfl,rfl⟩⟩
 case round =>
  obtain⟨rfl,hrel⟩:=hrel;rcases hrel with ⟨rfl,rfl⟩|⟨rfl,rfl⟩|⟨rfl,rfl⟩
  ·go_wp2;go_roundw
   case rel=>exact⟨by trivial,.inr (.inl ⟨rfl,rfl⟩)⟩
   case measure=>simp[intOf]
  ·go_wp2;go_roundw
   case rel=>exact⟨by trivial,.inr (.inr ⟨rfl,rfl⟩)⟩
   case measure=>simp[intOf]
  ·obtain⟨w0,rfl⟩:∃ w0,w0=wr:=⟨_,rfl⟩;clear e1 e1' e2 d1 d3;go_wp2_with fail
   go_at_call 109;refine(HG.out w0).mono ?_;rintro e w1 ⟨v,rfl,ho,hnw,hb⟩;obtain⟨B1,b1,rfl⟩:=Wd ho;have HO:Hid (OwnI w0 w1 (.slice B1 0 b1) []):=hD ⟨⟨_,_,rfl⟩,ho,hnw,hb⟩;clear ho hnw hb k0 k1;go_wp2_with fail
   go_loopw [6,27] (fun nv i wr=>∃ (k:Nat) (q:List Int) (A:Option Addr) (c:Nat),i=.int .i64 (k:Int)∧((k=0∧q=[])∨(k=1∧q=l1)∨(k=2∧q=l1++l2))∧nv=.slice A q.length c∧Hid (OwnI w0 wr (.slice A q.length c) q)) (fun _ i _=>2 - (intOf i).toNat)
   case atStart=>exact⟨0,[],B1,b1,rfl,.inl ⟨rfl,rfl⟩,rfl,HO⟩
   case round =>
    obtain⟨k,q,A,c,rfl,hq,rfl,HQ⟩:=hrel;obtain⟨k0,k1⟩:=HK.out _ HQ.out.2.2.2;obtain⟨w2,rfl⟩:∃ w2,w2=wr:=⟨_,rfl⟩;rcases hq with ⟨rfl,rfl⟩|⟨rfl,rfl⟩|⟨rfl,rfl⟩
    ·simp only[List.length_nil]at HQ ⊢;go_wp2_with (at_builtin;refine Wm rfl (.tmp 31) (.tmp 32) 22 3 rfl _ 1 8 Tryz.underlying22 Tryz.infoInt rfl (by decide) (by decide) (.slice A 0 c) 0 [] (by rfl) HQ.out.2.1 _ n1 (l1.map (Value.int .i64)) (by rfl) (by rw[List.length_map,HL1.out,Nat.mul_one]) (HN1.out _ HQ.out.2.2.2) (WV _) (by omega) ?_;intro v3 w3 ho3 hg3 hat3;obtain⟨B3,b3,rfl⟩:=Wd ho3)
     have HP:=hD (HQ.out.push (more:=l1) ho3 (by rw[List.nil_append,HL1.out];omega) (by rw[List.nil_append];rfl) hg3 hat3);rw[List.nil_append]at HP;clear ho3 hg3 hat3;go_roundw
     case rel=>exact⟨1,l1,B3,b3,by go_num,.inr (.inl ⟨rfl,rfl⟩),by rw[HL1.out],by rw[HL1.out];first|exact HP|(rw[Nat.zero_add]at HP;exact HP)⟩
     case measure=>simp[intOf]
    ·rw[HL1.out]at HQ ⊢;go_wp2_with (at_builtin;refine Wm rfl (.tmp 31) (.tmp 32) 22 3 rfl _ 1 8 Tryz.underlying22 Tryz.infoInt rfl (by decide) (by decide) (.slice A n1 c) n1 (q.map (Value.int .i64)) (by rfl) (by have h:=HQ.out.2.1;rw[HL1.out]at h;exact h) _ n2 (l2.map (Value.int .i64)) (by rfl) (by rw[List.length_map,HL2.out,Nat.mul_one]) (HN2.out _ HQ.out.2.2.2) (WV _) (by omega) ?_;intro v3 w3 ho3 hg3 hat3;obtain⟨B3,b3,rfl⟩:=Wd ho3)
     have HP:=hD (HQ.out.push (more:=l2) ho3 (by rw[List.length_append,HL1.out,HL2.out]) (by rw[List.map_append]) hg3 hat3);clear ho3 hg3 hat3;go_roundw
     case rel=>exact⟨2,q++l2,B3,b3,by go_num,.inr (.inr ⟨rfl,rfl⟩),by rw[List.length_append,HL1.out,HL2.out],by rw[List.length_append,HL1.out,HL2.out];exact HP⟩
     case measure=>simp[intOf]
    ·have HF:=hD (HQ.out.loc (by rw[List.length_append,HL1.out,HL2.out];omega));clear HQ;generalize (l1++l2).length=n9 at HF ⊢;go_wp2;go_ret;exact HF.out
theorem locB_none {m:Vz} {f:Int} (h:Ul m f=none):locB m f=[]:=by unfold locB;rw[h]
theorem locB_imp {m:Vz} {f:Int} {t:List Int×List Int} (h:Ul m f=some t) (hf:f<m.imps.length):locB m f=[]:=by unfold locB;rw[h];simp only;rw[if_pos hf]
theorem locB_fun {m:Vz} {d:Nat} {t:List Int×List Int} (h:Ul m ((m.imps.length+d:Nat):Int)=some t):locB m ((m.imps.length+d:Nat):Int)=t.1++(m.funs.getD d WW).loc:=by
 unfold locB;rw[h];simp only;rw[if_neg (by omega),show(((m.imps.length+d:Nat):Int) - m.imps.length).toNat=d by omega]
theorem fsigB_some_lt {m:Vz} {f:Int} {t:List Int×List Int} (h:Ul m f=some t):0≤f∧f<m.imps.length+m.funs.length:=by
 rcases(show(f<0∨(m.imps.length:Int)+m.funs.length≤f)∨(0≤f∧f<m.imps.length+m.funs.length) by omega) with h1|h1
 ·rw[fsigB_none h1]at h;cases h
 ·exact h1
theorem typeB_mem {m:Vz} {k:Int} {t:List Int×List Int} (h:UM m k=some t):t ∈ m.types:=by
 unfold UM at h
 split at h
 ·rename_i hk
  simp only[Option.some.injEq]at h;rw[← h];exact getD_mem' _ _ _ (by omega)
 ·cases h
theorem fsigB_mem {m:Vz} {f:Int} {t:List Int×List Int} (h:Ul m f=some t):t ∈ m.types:=by
 unfold Ul at h
 split at h
 ·cases h
 ·split at h
  ·exact typeB_mem h
  ·exact typeB_mem h
theorem locals_any (w:World) (v:Mv) (m:Vz) (h:WL (fun k=>k<w.heap.size) w v m) (hs:Short m) (f:Int) (hf : -9223372036854775808≤f∧f≤9223372036854775807) :
 Calls Tryz.prog 27 #[.agg v.cells,.int .i64 f] w (LocC (locB m f) w):=by
 have HSG:=hD (fun wz (hb:Below w.heap.size w wz)=>sig_any wz v m (h.keep (We.below hb fun _ hk=>hk) fun _ hk=>WK hk hb.size) hs f hf);have h2:=h.funs;obtain⟨A0,c0,A1,c1,A2,c2,A3,c3,A4,c4,A5,c5,A6,c6,A7,c7,rfl⟩:=WI h;simp only[Mv.cells]at HSG ⊢;simp only at h2;have hl1:=hs.2.1;have hl2:=hs.2.2.1;have HTY:=hD hs.2.2.2.1;have HFL:=hD hs.2.2.2.2;clear h hs;have HLN:=hD (locB_none (m:=m) (f:=f));have HLI:=hD (fun t=>locB_imp (m:=m) (f:=f) (t:=t));have HSL:=hD (fun t=>fsigB_some_lt (m:=m) (f:=f) (t:=t));have HSM:=hD (fun t=>fsigB_mem (m:=m) (f:=f) (t:=t));have HLF:=hD (fun (d:Nat) t (hd:f=((m.imps.length+d:Nat):Int)) (hsg:Ul m f=some t)=>(show locB m f=t.1++(m.funs.getD d WW).loc by subst hd;exact locB_fun hsg));obtain⟨ts,hts⟩:∃ ts,Ul m f=ts:=⟨_,rfl⟩;rw[hts]at HSG HLN HLI HSL HSM HLF;generalize locB m f=lo at HLN HLI HLF ⊢;generalize m.types.length=n0 at *;obtain⟨n1,hn1⟩:∃ n,m.imps.length=n:=⟨_,rfl⟩;obtain⟨n2,hn2⟩:∃ n,m.funs.length=n:=⟨_,rfl⟩;rw[hn1]at hl1 HSG HLI HSL HLF ⊢;rw[hn2]at hl2 HSG HSL ⊢;have HN2:=hD hn2;generalize m.mems.length=n3 at *;generalize m.exps.length=n5 at *;generalize m.globs.length=n4 at *;generalize m.datas.length=n6 at *;generalize m.cus.length=n7 at *;have H2:=hD h2;have hb0:=(bR w.heap.size w).alloc (nR _) (.cells #[.slice A0 n0 c0,.slice A1 n1 c1,.slice A2 n2 c2,.slice A3 n3 c3,.slice A4 n4 c4,.slice A5 n5 c5,.slice A6 n6 c6,.slice A7 n7 c7] 36);have HQ:=hD (HSG.out _ hb0);have HB0:=hD hb0;have HBX:=hD (fun wz hb=>Vb w (.slice A0 n0 c0) (.slice A1 n1 c1) (.slice A2 n2 c2) (.slice A3 n3 c3) (.slice A4 n4 c4) (.slice A5 n5 c5) (.slice A6 n6 c6) (.slice A7 n7 c7) (wz:=wz) hb);clear h2 hn1 hn2 hts hb0 HSG hf;go_enter Tryz.func27,Tryz.ntmps27;go_wp2_with fail
 go_at_call 24;refine HQ.out.mono ?_;rintro e w1 ⟨p',r',rfl,hi1,hi2,hb1⟩;obtain⟨P1,e1,hq1,_,_⟩:=hi1.form;obtain⟨P2,e2,hq2,_,_⟩:=hi2.form;rw[hq1]at hi1 ⊢;rw[hq2]at hi2 ⊢;obtain⟨b0,b1,b2,_⟩:=HBX.out _ (Wg hb1 (.cells #[.slice P1 (ts.getD ([],[])).1.length e1,.slice P2 (ts.getD ([],[])).2.length e2] 68));have HB1:=hD (Wa HB0.out hb1);have HI1:=hD (hi1.keep (K':=fun k=>k<w1.heap.size) (We.refl _ _) fun k hk=>hk.elim False.elim fun h=>h.2);clear hi1 hi2 hq1 hq2 HQ hb1 HB0 HBX;cases ts with
 | none =>
  have HE:=hD (HLN.out rfl);clear HLN HLI HSL HSM HLF;simp only[Option.isSome_none,Option.getD_none,List.length_nil]at *;go_wp2;go_ret;rw[HE.out];exact LocC.nil (Wg HB1.out _)
 | some t =>
  obtain⟨hf0,hf1⟩:=HSL.out t rfl;simp only[Option.isSome_some,Option.getD_some]at *;by_cases hlt:f<n1
  ·have HE:=hD (HLI.out t rfl hlt);have d0:decide (f<(n1:Int))=true:=decide_eq_true hlt;clear HLN HLI HSL HSM HLF hlt;go_wp2;go_ret;rw[HE.out];exact LocC.nil (Wg HB1.out _)
  ·obtain⟨d,hd⟩:∃ d:Nat,f=((n1+d:Nat):Int):=⟨(f - n1).toNat,by omega⟩;have HE:=hD (HLF.out d t hd rfl);have hdn:d<n2:=by omega
   have htm:=HTY.out t (HSM.out t rfl);have hfm:=HFL.out _ (getD_mem' m.funs d WW (by rw[HN2.out];exact hdn));obtain⟨g2,o2,cc2,he,_,_⟩:=Wb.some_ H2.out (by rw[HN2.out];omega);simp only[vI]at he;obtain⟨rfl,-,rfl⟩:=he;obtain⟨u,ku,hu⟩:=Wb.at_ H2.out d 1 (by rw[HN2.out];exact hdn) (by decide);have hul:Wh (fun k=>k<w.heap.size) w u (m.funs.getD d WW).loc:=hu;generalize (m.funs.getD d WW).loc=ll at HE hul hfm;obtain⟨Al,cl,hue,_,_⟩:=hul.form;rw[hue]at ku hul;have d0:decide (f<(n1:Int))=false:=by simp;omega
   have d1:IntKind.i64.wrap (f - (n1:Int))=(d:Int):=by rw[show f - (n1:Int)=(d:Int) by omega];exact IntWalk.i64_in _ (by omega)
   have d2:(0:Int)≤(d:Int)∧(d:Int)<(n2:Int):=by omega
   generalize t.2.length=np2 at *;obtain⟨W,hW⟩:∃ W,W=w1.alloc (.cells #[.slice P1 t.1.length e1,.slice P2 np2 e2] 68):=⟨_,rfl⟩;have hbw1:Below w1.heap.size w1 W:=by rw[hW];exact(bR _ _).alloc (nR _) _
   have hk5:W.cell? ⟨w1.heap.size,0,none⟩=some (.slice P1 t.1.length e1):=by rw[hW,wN];rfl
   have b1':=b1;have b2':=b2;rw[← hW]at b1' b2';have kul:W.cell? ⟨g2,o2+d * 3+1,none⟩=some (.slice Al ll.length cl):=((Wa HB1.out hbw1).cell (p:=⟨g2,o2+d * 3+1,none⟩) (wL _ _ ku)).trans ku;have HBW:=hD (Wa HB1.out hbw1);obtain⟨n8,hn8⟩:∃ n,t.1.length=n:=⟨_,rfl⟩;obtain⟨n9,hn9⟩:∃ n,ll.length=n:=⟨_,rfl⟩;have HCC:=hD (concat_any (W.drew.alloc (.cells #[.slice P1 t.1.length e1,.slice Al ll.length cl] 22)) W.heap.size (.slice P1 t.1.length e1) (.slice Al ll.length cl) t.1 ll (by exact wN W.drew _ _ 0) (by exact wN W.drew _ _ 1)
    (HI1.out.keep (We.below ((Wg hbw1.drew _)) fun _ hk=>hk) fun k hk=>WK hk (Wg hbw1.drew _).size)
    (hul.keep (We.below (Wg HBW.out.drew _) fun _ hk=>hk) fun k hk=>WK hk (Wg HBW.out.drew _).size) htm.1 hfm)
   rw[hn8]at HCC hk5;rw[hn9]at HCC kul;rw[hn8]at hW b1 b2 ⊢;have HF:Hid (∀ wz,Below W.drew.heap.size W.drew wz→wz.cell? ⟨w.heap.size,1,none⟩=some (.slice A1 n1 c1)∧wz.cell? ⟨w.heap.size,2,none⟩=some (.slice (some ⟨g2,o2,none⟩) n2 c2)∧wz.cell? ⟨w1.heap.size,0,none⟩=some (.slice P1 n8 e1)∧wz.cell? ⟨g2,o2+d * 3+1,none⟩=some (.slice Al n9 cl)):=hD fun wz hb =>
    ⟨(hb.cell (p:=⟨w.heap.size,1,none⟩) (wL _ _ b1')).trans b1',(hb.cell (p:=⟨w.heap.size,2,none⟩) (wL _ _ b2')).trans b2',(hb.cell (p:=⟨w1.heap.size,0,none⟩) (wL _ _ hk5)).trans hk5,(hb.cell (p:=⟨g2,o2+d * 3+1,none⟩) (wL _ _ kul)).trans kul⟩
   clear HLN HLI HSL HSM HLF hlt hd H2 ku hul hu hue hbw1 htm hfm HTY HFL hn8 hn9 HI1 hf0 hf1 b0
   go_upto_region 4 with (fail)
   rw[← hW];clear hW;go_wp2_with fail
   go_region_held3 (fun w'=>w'.cell? ⟨w.heap.size,1,none⟩=some (.slice A1 n1 c1)∧w'.cell? ⟨w.heap.size,2,none⟩=some (.slice (some ⟨g2,o2,none⟩) n2 c2)∧w'.cell? ⟨w1.heap.size,0,none⟩=some (.slice P1 n8 e1)∧w'.cell? ⟨g2,o2+d * 3+1,none⟩=some (.slice Al n9 cl))
    (first|exact HF.out _ (Wg (bR _ _) _)|exact HF.out _ (Wa (Wg (bR _ _) _) hb9)|go_keep)
    ((go_at_call 67;refine HCC.out.mono ?_;rintro e w9 ⟨P9,e9,rfl,hc9,hi9,hb9⟩))
   all_goals
    have hsz9:=(Wg (o:=.cells #[.slice P1 n8 e1,.slice Al n9 cl] 22) HBW.out.drew).size;have hfin:LocC lo w (.returned (.slice P9 (t.1++ll).length e9)) w9:=by rw[HE.out];exact⟨_,_,rfl,hc9,Wh.keep hi9 (We.refl _ _) (fun k hk=>And.intro (Nat.le_trans hsz9 hk.1) hk.2),Wa (Wg HBW.out.drew _) hb9⟩
    have HFIN:=hD hfin;clear hfin hsz9 hi9 hb9 hc9;rw[List.length_append]at HFIN;go_wp2;go_ret;exact HFIN.out
end
section
open Go.RowKit
set_option maxHeartbeats 1000000
set_option maxRecDepth 100000
theorem ZR {P:Prop}(h:P:=by
 go_enter Tryz.func17,Tryz.ntmps17;go_wp2;exact bodyPost_ret (v:=.tuple #[.agg #[.slice none 0 0,.slice none 0 0],.bool false]) (by simp[results,Tryz.results17,go_sem]) rfl ⟨rfl,((bR _ _).alloc (nR _) _).alloc (by simp) _⟩):P:=h
theorem ZS {P:Prop}(h:P:=by
 clear HBB HTN HTS h0;go_enter Tryz.func23,Tryz.ntmps23;go_wp2;exact bodyPost_ret (v:=.tuple #[.agg #[.slice none 0 0,.slice (some ⟨w.heap.size+2,0,none⟩) 1 1],.bool true]) (by simp[results,Tryz.results23,go_sem]) rfl ⟨_,_,rfl,Wh.nil _ _,⟨_,_,rfl,by unfold maxLen;simp,(fun h=>by cases h),fun _=>⟨w.heap.size+2,0,rfl,.inr ⟨by omega,by simp⟩,fun j hj=>by
  obtain rfl:j=0:=by simp at hj;omega
  exact cell_third w _ _ _ _ 0⟩⟩,(((bR _ _).alloc (nR _) _).alloc (by simp) _).alloc (by simp;omega) _⟩):P:=h
theorem ZbI {P:Prop}(h:P:=by
 clear hk ha HTN HTS h0;go_enter Tryz.func23,Tryz.ntmps23;go_wp2;exact bodyPost_ret (v:=.tuple #[.agg #[.slice none 0 0,.slice none 0 0],.bool false]) (by simp[results,Tryz.results23,go_sem]) rfl ⟨_,_,rfl,Wh.nil _ _,Wh.nil _ _,((bR _ _).alloc (nR _) _).alloc (by simp) _⟩):P:=h
theorem ZbU {P:Prop}(h:P:=by
 by_cases hz0:z<0
 ·have d0:decide (z<0)=true:=decide_eq_true hz0;clear hz hz0;exact ZR
 ·have d0:decide (z<0)=false:=decide_eq_false hz0;have d1:decide ((nt:Int)≤z)=true:=by simp;omega
  clear hz hz0;exact ZR):P:=h
theorem getD_map' {α β:Type} (l:List α) (f:α→β) (j:Nat) (d:α) (d':β) (h:j<l.length):(l.map f).getD j d'=f (l.getD j d):=by
 rw[List.getD_eq_getElem?_getD,List.getD_eq_getElem?_getD,List.getElem?_map,List.getElem?_eq_getElem h];rfl
theorem Wb.mono' {K:Nat→Prop} {w:World} {v:Value} {n size:Nat} {f f':Nat→Nat→Value→Prop} (h:Wb K w v n size f) (hf:∀ j i u,j<n→i<size→f j i u→f' j i u):Wb K w v n size f':=by
 obtain⟨A,c,rfl,h1,h2,h0,h3⟩:=h;refine⟨A,c,rfl,h1,h2,h0,fun hl=>?_⟩;obtain⟨g,o,rfl,h4,h5⟩:=h3 hl;refine⟨g,o,rfl,h4,fun j i hj hi=>?_⟩;obtain⟨u,h6,h7⟩:=h5 j i hj hi;exact⟨u,h6,hf j i u hj hi h7⟩
theorem imps_fieldK {K:Nat→Prop} {w:World} {v:Value} {l:List (ByteArray×ByteArray×Int)} (h:ImpsK K w v l):VE K w v 3 2 (l.map fun x=>x.2.2):=by
 unfold VE;rw[List.length_map];refine Wb.mono' h fun j i u hj hi hu e=>?_;subst e;rw[getD_map' l _ j (ByteArray.empty,ByteArray.empty,0) 0 hj];exact hu
theorem funs_fieldK {K:Nat→Prop} {w:World} {v:Value} {l:List Fnc} (h:FunsK K w v l):VE K w v 3 0 (l.map Fnc.ty):=by
 unfold VE;rw[List.length_map];refine Wb.mono' h fun j i u hj hi hu e=>?_;subst e;rw[getD_map' l _ j WW 0 hj];exact hu
def NoneC (w:World) (e:Ending) (w':World):Prop:=e=.returned (.tuple #[.agg #[.slice none 0 0,.slice none 0 0],.bool false])∧Below w.heap.size w w'
theorem rsig_far (w:World) (m3 m4 m5 m6 m7:Value) (A0 A1 A2:Option Addr) (c0 c1 c2 nt ni nf:Nat) (hn:ni+nf≤1000000) (f:Int) (hf:f<0∨(ni:Int)+nf≤f) :
 Calls Tryz.prog 17 #[.agg #[.slice A0 nt c0,.slice A1 ni c1,.slice A2 nf c2,m3,m4,m5,m6,m7],.int .i64 f] w (NoneC w):=by
 have e1:IntKind.i64.wrap ((ni:Int)+(nf:Int))=(ni:Int)+(nf:Int):=IntWalk.i64_in _ (by omega);rcases hf with hf|hf
 ·have d2:decide ((0:Int)≤f)=false:=by simp;omega
  clear hf;exact ZR
 ·have d2:decide ((0:Int)≤f)=true:=by simp;omega
  have d3:decide (f<(ni:Int))=false:=by simp;omega
  have d4:decide (f<(ni:Int)+(nf:Int))=false:=by simp;omega
  clear hf;exact ZR
theorem rsig_bad (K:Nat→Prop) (w:World) (m1 m2 m3 m4 m5 m6 m7:Value) (A0:Option Addr) (c0 nt:Nat) (is fs:List Int) (h1:VE K w m1 3 2 is) (h2:VE K w m2 3 0 fs) (hn:nt+is.length+fs.length≤1000000) (f:Nat) (z:Int)
 (hf:(f<is.length∧is.getD f 0=z)∨(is.length≤f∧f<is.length+fs.length∧fs.getD (f - is.length) 0=z)) (hz:z<0∨(nt:Int)≤z) :
 Calls Tryz.prog 17 #[.agg #[.slice A0 nt c0,m1,m2,m3,m4,m5,m6,m7],.int .i64 (f:Int)] w (NoneC w):=by
 have d2:decide ((0:Int)≤(f:Int))=true:=by simp
 rcases hf with ⟨hlt,hft⟩|⟨hge,hlt,hft⟩
 ·obtain⟨g1,o1,c1,rfl,_,_⟩:=Wb.some_ h1 (by omega);have k1:=V2 (h1.at_ f hlt (by omega));rw[hft]at k1;generalize hI:is.length=ni at *;clear hI hft h1 h2;have d3:decide ((f:Int)<(ni:Int))=true:=by simp;omega
  exact ZbU
 ·obtain⟨g2,o2,c2,rfl,_,_⟩:=Wb.some_ h2 (by omega);obtain⟨A1,c1,rfl,_,_⟩:=Wb.form h1;have k1:=V2 (h2.at_ (f - is.length) (by omega) (by omega));rw[hft]at k1;obtain⟨d,hd⟩:∃ d:Nat,f=is.length+d:=⟨f - is.length,by omega⟩;rw[show f - is.length=d by omega]at k1;simp only[Nat.add_zero]at k1;generalize hI:is.length=ni at *;generalize hF:fs.length=nf at *;clear hI hF hft h1 h2;have d3:decide ((f:Int)<(ni:Int))=false:=by simp;omega
  have e1:IntKind.i64.wrap ((ni:Int)+(nf:Int))=(ni:Int)+(nf:Int):=IntWalk.i64_in _ (by omega);have d4:decide ((f:Int)<(ni:Int)+(nf:Int))=true:=by simp;omega
  have e2:IntKind.i64.wrap ((f:Int) - (ni:Int))=(d:Int):=by rw[show(f:Int) - (ni:Int)=(d:Int) by omega];exact IntWalk.i64_in _ (by omega)
  have d5:d<nf:=by omega
  clear hd;exact ZbU
theorem NoneC.typ {K:Nat→Prop} {w w':World} {e:Ending} (h:NoneC w e w'):UN K none w e w' :=
 ⟨_,_,h.1,Wh.nil _ _,Wh.nil _ _,h.2⟩
theorem SigPost.typ {K:Nat→Prop} {t:List Int×List Int} {w w':World} {e:Ending} (hK:∀ k,K k→k<w.heap.size) (h:SigPost K t w e w'):UN K (some t) w e w':=by
 obtain⟨p,r,he,h1,h2,hb⟩:=h;exact⟨p,r,he,h1.keep (We.below hb hK) fun _ hk=>.inl hk,h2.keep (We.below hb hK) fun _ hk=>.inl hk,hb⟩
theorem dsig_any (w:World) (v:Mv) (m:Vz) (h:WL (fun k=>k<w.heap.size) w v m) (hs:Short m) (f:Int) :
 Calls Tryz.prog 17 #[.agg v.cells,.int .i64 f] w (UN (fun k=>k<w.heap.size) (Ul m f) w):=by
 have h0:=h.types;have h1:=imps_fieldK h.imps;have h2:=funs_fieldK h.funs;obtain⟨A0,c0,A1,c1,A2,c2,A3,c3,A4,c4,A5,c5,A6,c6,A7,c7,rfl⟩:=WI h;simp only[Mv.cells]at h0 h1 h2 ⊢;obtain⟨s0,s1,s2,_⟩:=hs;by_cases hr:f<0∨(m.imps.length:Int)+m.funs.length≤f
 ·rw[fsigB_none hr];exact(rsig_far w _ _ _ _ _ A0 A1 A2 c0 c1 c2 _ _ _ (by omega) f hr).mono fun _ _ h=>h.typ
 ·obtain⟨d,rfl⟩:∃ d:Nat,f=d:=⟨f.toNat,by omega⟩;obtain⟨z,hz,hf⟩:∃ z:Int,Ul m (d:Int)=UM m z∧((d<(m.imps.map fun x=>x.2.2).length∧(m.imps.map fun x=>x.2.2).getD d 0=z)∨((m.imps.map fun x=>x.2.2).length≤d∧d<(m.imps.map fun x=>x.2.2).length+(m.funs.map Fnc.ty).length∧(m.funs.map Fnc.ty).getD (d - (m.imps.map fun x=>x.2.2).length) 0=z)):=by
   by_cases hi:d<m.imps.length
   ·exact⟨_,fsigB_imp hi,.inl ⟨by rw[List.length_map];exact hi,getD_map' _ _ d _ 0 hi⟩⟩
   ·obtain⟨e,rfl⟩:∃ e,d=m.imps.length+e:=⟨d - m.imps.length,by omega⟩;have he:e<m.funs.length:=by omega
    exact⟨_,fsigB_fun he,.inr ⟨by rw[List.length_map];omega,by rw[List.length_map,List.length_map];omega,by rw[List.length_map,Nat.add_sub_cancel_left];exact getD_map' _ _ e _ 0 he⟩⟩
  rw[hz];by_cases hk:z<0∨(m.types.length:Int)≤z
  ·rw[typeB_none hk];exact(rsig_bad _ w _ _ _ _ _ _ _ A0 c0 _ _ _ h1 h2 (by rw[List.length_map,List.length_map];omega) d z hf hk).mono fun _ _ h=>h.typ
  ·obtain⟨t,rfl⟩:∃ t:Nat,z=t:=⟨z.toNat,by omega⟩;rw[typeB_some (by omega)];exact(rsig_yes _ w _ _ _ _ _ _ _ _ m.types _ _ h0 h1 h2 (by rw[List.length_map,List.length_map];omega) d t hf (by omega)).mono fun _ _ h=>h.typ fun _ h=>h
theorem dblock_any (w:World) (v:Mv) (m:Vz) (h:WL (fun k=>k<w.heap.size) w v m) (a:Int) :
 Calls Tryz.prog 23 #[.agg v.cells,.int .i64 a] w (UN (fun k=>k<w.heap.size) (UD m a) w):=by
 have h0:=h.types;obtain⟨A0,c0,A1,c1,A2,c2,A3,c3,A4,c4,A5,c5,A6,c6,A7,c7,rfl⟩:=WI h;simp only[Mv.cells]at h0 ⊢;clear h;have HBB:Hid (¬ a = -1→¬ a = -2→¬ a = -3→¬ a = -4→UD m a=UM m a):=hD fun h1 h2 h3 h4=>by unfold UD;rw[if_neg h1,if_neg h2,if_neg h3,if_neg h4]
 have HTN:=hD (fun hk=>typeB_none (m:=m) (k:=a) hk);have HTS:=hD (fun k hk=>typeB_some (m:=m) (k:=k) hk);obtain⟨n0,hn0⟩:∃ n,m.types.length=n:=⟨_,rfl⟩;rw[hn0]at HTN h0 ⊢;have HN0:=hD hn0;generalize m.imps.length=n1 at *;generalize m.funs.length=n2 at *;generalize m.mems.length=n3 at *;generalize m.globs.length=n4 at *;generalize m.exps.length=n5 at *;generalize m.datas.length=n6 at *;generalize m.cus.length=n7 at *;clear hn0;by_cases c1:a = -1
 ·subst c1;rw[show UD m (-1)=some ([],[]) from rfl];clear HBB HTN HTS h0;go_enter Tryz.func23,Tryz.ntmps23;go_wp2;exact bodyPost_ret (v:=.tuple #[.agg #[.slice none 0 0,.slice none 0 0],.bool true]) (by simp[results,Tryz.results23,go_sem]) rfl ⟨_,_,rfl,Wh.nil _ _,Wh.nil _ _,((bR _ _).alloc (nR _) _).alloc (by simp) _⟩
 by_cases c2:a = -2
 ·subst c2;rw[show UD m (-2)=some ([],[127]) from rfl];exact ZS
 by_cases c3:a = -3
 ·subst c3;rw[show UD m (-3)=some ([],[126]) from rfl];exact ZS
 by_cases c4:a = -4
 ·subst c4;rw[show UD m (-4)=some ([],[124]) from rfl];exact ZS
 rw[HBB.out c1 c2 c3 c4];have e1:(a == -1)=false:=by simpa using c1
 have e2:(a == -2)=false:=by simpa using c2
 have e3:(a == -3)=false:=by simpa using c3
 have e4:(a == -4)=false:=by simpa using c4
 clear c1 c2 c3 c4 HBB;by_cases hk:a<0∨(n0:Int)≤a
 ·rw[HTN.out hk];by_cases ha:a<0
  ·have d1:decide ((0:Int)≤a)=false:=by simp;omega
   exact ZbI
  ·have d1:decide ((0:Int)≤a)=true:=by simp;omega
   have d2:decide (a<(n0:Int))=false:=by simp;omega
   exact ZbI
 ·obtain⟨t,rfl⟩:∃ t:Nat,a=t:=⟨a.toNat,by omega⟩;have ht:t<n0:=by omega
  rw[HTS.out t (by rw[HN0.out];exact ht)];obtain⟨g0,o0,cc0,he,_,_⟩:=Wb.some_ h0 (by rw[HN0.out];omega);simp only[vI]at he;obtain⟨rfl,-,rfl⟩:=he;obtain⟨p,r,hp,hr,hip,hir⟩:=Vn.at_ h0 t (by rw[HN0.out];exact ht);obtain⟨Ap,cp,rfl,_,_⟩:=hip.form;obtain⟨Ar,cr,rfl,_,_⟩:=hir.form;have kp:=V2 hp;have kr:=V2 hr;have HP:=hD hip;have HR:=hD hir;generalize m.types.getD t ([],[])=tt at *;generalize hP:tt.1.length=np at kp HP;generalize hR:tt.2.length=nr at kr HR;clear hP hR hk hp hr hip hir h0 HTN HTS HN0;have d1:decide ((t:Int)<(n0:Int))=true:=by simp;omega
  have d2:decide ((0:Int)≤(t:Int))=true:=by simp
  clear e1 e2 e3 e4;go_enter Tryz.func23,Tryz.ntmps23;go_wp2;refine bodyPost_ret (v:=.tuple #[.agg #[.slice Ap np cp,.slice Ar nr cr],.bool true]) (by simp[results,Tryz.results23,go_sem]) rfl
   ⟨_,_,rfl,HP.out.keep (.below ?_ fun _ h=>h) (fun k hk=>.inl hk),HR.out.keep (.below ?_ fun _ h=>h) (fun k hk=>.inl hk),?_⟩
  all_goals exact((bR _ _).alloc (nR _) _).alloc (by simp) _
theorem dloc_none (w:World) (v:Mv) (m:Vz) (h:WL (fun k=>k<w.heap.size) w v m) (hs:Short m) (f:Int) (hf:Ul m f=none∨f<m.imps.length) :
 Calls Tryz.prog 16 #[.agg v.cells,.int .i64 f] w (LocPost [] w):=by
 have HSG:=hD (fun wz (hb:Below w.heap.size w wz)=>dsig_any wz v m (h.keep (We.below hb fun _ hk=>hk) fun _ hk=>WK hk hb.size) hs f);obtain⟨A0,c0,A1,c1,A2,c2,A3,c3,A4,c4,A5,c5,A6,c6,A7,c7,rfl⟩:=WI h;simp only[Mv.cells]at HSG ⊢;clear h hs;generalize Ul m f=t at *;generalize m.types.length=n0 at *;generalize m.imps.length=n1 at *;generalize m.funs.length=n2 at *;generalize m.mems.length=n3 at *;generalize m.globs.length=n4 at *;generalize m.exps.length=n5 at *;generalize m.datas.length=n6 at *;generalize m.cus.length=n7 at *;have hb0:=(bR w.heap.size w).alloc (nR _) (.cells #[.slice A0 n0 c0,.slice A1 n1 c1,.slice A2 n2 c2,.slice A3 n3 c3,.slice A4 n4 c4,.slice A5 n5 c5,.slice A6 n6 c6,.slice A7 n7 c7] 36);have HQ:=hD (HSG.out _ hb0);have HB0:=hD hb0;have HBX:=hD (fun wz hb=>Vb w (.slice A0 n0 c0) (.slice A1 n1 c1) (.slice A2 n2 c2) (.slice A3 n3 c3) (.slice A4 n4 c4) (.slice A5 n5 c5) (.slice A6 n6 c6) (.slice A7 n7 c7) (wz:=wz) hb);have HF:=hD hf;clear hb0 HSG hf;go_enter Tryz.func16,Tryz.ntmps16;go_wp2_with fail
 go_at_call 17;refine HQ.out.mono ?_;rintro e w1 ⟨p',r',rfl,hi1,hi2,hb1⟩;obtain⟨P1,e1,hq1,_,_⟩:=hi1.form;obtain⟨P2,e2,hq2,_,_⟩:=hi2.form;rw[hq1];rw[hq2];obtain⟨b0,b1,b2,_⟩:=HBX.out _ (Wg hb1 (.cells #[.slice P1 (t.getD ([],[])).1.length e1,.slice P2 (t.getD ([],[])).2.length e2] 68));have HB1:=hD (Wa HB0.out hb1);clear hi1 hi2 hq1 hq2 HQ hb1 HB0 HBX;cases t with
 | none =>
  clear HF;simp only[Option.isSome_none,Option.getD_none,List.length_nil]at *;go_wp2;go_ret;exact⟨_,rfl,Wh.nil _ _,Wg HB1.out _⟩
 | some t =>
  have hlt:f<(n1:Int):=HF.out.elim (fun h=>by cases h) fun h=>h;have d0:decide (f<(n1:Int))=true:=decide_eq_true hlt;clear HF hlt;simp only[Option.isSome_some,Option.getD_some]at *;go_wp2;go_ret;exact⟨_,rfl,Wh.nil _ _,Wg HB1.out _⟩
theorem dlocals_any (w:World) (v:Mv) (m:Vz) (h:WL (fun k=>k<w.heap.size) w v m) (hs:Short m) (f:Int) :
 Calls Tryz.prog 16 #[.agg v.cells,.int .i64 f] w (LocPost (locB m f) w):=by
 rcases hn:Ul m f with _|t
 ·rw[locB_none hn];exact dloc_none w v m h hs f (.inl hn)
 ·by_cases hlt:f<m.imps.length
  ·rw[locB_imp hn hlt];exact dloc_none w v m h hs f (.inr hlt)
  ·obtain⟨hf0,hf1⟩:=fsigB_some_lt hn;obtain⟨d,rfl⟩:∃ d:Nat,f=((m.imps.length+d:Nat):Int):=⟨(f - m.imps.length).toNat,by omega⟩;have hd:d<m.funs.length:=by omega
   rw[locB_fun hn];have hq:=hn;rw[fsigB_fun hd]at hq;have hty:0≤(m.funs.getD d WW).ty∧(m.funs.getD d WW).ty<m.types.length∧t=m.types.getD (m.funs.getD d WW).ty.toNat ([],[]):=by
    unfold UM at hq
    split at hq
    ·rename_i h9
     exact⟨h9.1,h9.2,(Option.some.inj hq).symm⟩
    ·cases hq
   obtain⟨h90,h91,rfl⟩:=hty;obtain⟨k,hk⟩:∃ k:Nat,(m.funs.getD d WW).ty=k:=⟨(m.funs.getD d WW).ty.toNat,by omega⟩;rw[hk]at h90 h91 ⊢;rw[Int.toNat_natCast];have hkt:k<m.types.length:=by omega
   obtain⟨s0,s1,s2,s3,s4⟩:=hs;have h0:=h.types;have h1:=imps_fieldK h.imps;have h2:=funs_fieldK h.funs;have h2f:=h.funs;obtain⟨g2,o2,cc2,he,_,_⟩:=Wb.some_ h2f (by omega);obtain⟨u,ku,hu⟩:∃ u,w.cell? ⟨g2,o2+d * 3+1,none⟩=some u∧Wh (fun k=>k<w.heap.size) w u (m.funs.getD d WW).loc:=by
    have h2g:=h2f;rw[he]at h2g;obtain⟨u,ku,hu⟩:=Wb.at_ h2g d 1 hd (by decide);exact⟨u,ku,hu⟩
   have hg:=rloc_gen w (fun k=>k<w.heap.size) (fun _ h=>h) v.m0 v.m1 v.m2 v.m3 v.m4 v.m5 v.m6 v.m7 m.types _ _ h0 h1 h2 (by rw[List.length_map,List.length_map];omega) d k (by rw[List.length_map];exact hd) (by rw[getD_map' _ _ d WW 0 hd];exact hk) hkt ((s3 _ (getD_mem' m.types k ([],[]) hkt)).1) u (m.funs.getD d WW).loc (fun g o n c hm2=>by
    rw[he]at hm2;simp only[vI,Option.some.injEq,Addr.mk.injEq,and_true]at hm2;obtain⟨⟨rfl,rfl⟩,_,_⟩:=hm2;exact ku) hu (s4 _ (getD_mem' m.funs d WW hd))
   rw[List.length_map]at hg;exact hg
end
section
open Go.RowKit
theorem Zcz {P:Prop}(h:P:=by
 rw[show VI op=false from decide_eq_false (by omega)];go_enter Tryz.func35,Tryz.ntmps35;go_wp2;go_ret;exact⟨rfl,rfl⟩):P:=h
theorem WB (op:Int) (w:World) :
 Calls Tryz.prog 86 #[.int .i64 op] w fun e w'=>e=.returned (.int .i64 (VS op))∧w=w':=by
 rcases const_ways op with rfl|rfl|rfl|⟨h,e1,e2,e3⟩
 case inr.inr.inr =>
  rw[h];go_enter Tryz.func86,Tryz.ntmps86;go_wp2;go_ret;exact⟨rfl,rfl⟩
 all_goals
  go_enter Tryz.func86,Tryz.ntmps86;go_wp2;go_ret;exact⟨rfl,rfl⟩
theorem Wo (op:Int) (w:World) :
 Calls Tryz.prog 35 #[.int .i64 op] w fun e w'=>e=.returned (.bool (VI op))∧w=w':=by
 by_cases c:op<2
 ·exact Zcz
 ·by_cases d:op≤4
  ·rw[show VI op=true from decide_eq_true (by omega)];go_enter Tryz.func35,Tryz.ntmps35;go_wp2;go_ret;exact⟨rfl,rfl⟩
  ·exact Zcz
end
section
open Go.RowKit
set_option maxHeartbeats 8000000
set_option maxRecDepth 100000
theorem ZM {P:Prop}(h:P:=by
 have hij:(i:Int)+((j:Int)+1)<(n:Int):=by omega
 have hin2:i+(j+1)<n:=by omega
 cases hcb:VB y with
 | true =>
  have hd:((y:Int) / 64 != 2)=false:=cont_yes hcb;have hat:=hat hcb;have HAC:=hD hac;have HAT:=hD hat;clear hac hat hcb hno;go_wp2;go_round
  case rel=>exact⟨j+1,by omega,by go_num,by rw[HAC.out];go_num,HAT⟩
  case measure=>simp[intOf];omega
 | false =>
  have hd:((y:Int) / 64 != 2)=true:=cont_no hcb;have HN:=hD (HBAD.out (hno hcb) m);clear hac hat hcb hno;go_wp2;go_ret;exact⟨ret_int (by rw[← hj.out,HDR.out,HN.out]),Wn (bR _ _) _⟩):P:=h
theorem Z2 {P:Prop}(h:P:=by
 go_ret;exact⟨ret_int (by rw[← hj.out,HDR.out,HBAD.out (by rw[HR.out];rfl)]),Wn (bR _ _) _⟩):P:=h
theorem Zbf {P:Prop}(h:P:=by
 go_wp2_with fail
 go_quiet (fail)
 go_wp2_with fail
 go_ret;exact⟨ret_int (by rw[← hj.out,HDR.out,HR.out]),Wn (bR _ _) _⟩):P:=h
theorem and31i (x:Nat) (h:x<256):Go.bits .and .i64 (x:Int) 31=(x:Int) % 32 :=
 (by decide +kernel:∀ k:Fin 256,Go.bits .and .i64 (k.val:Int) 31=(k.val:Int) % 32) ⟨x,h⟩
theorem and15i (x:Nat) (h:x<256):Go.bits .and .i64 (x:Int) 15=(x:Int) % 16 :=
 (by decide +kernel:∀ k:Fin 256,Go.bits .and .i64 (k.val:Int) 15=(k.val:Int) % 16) ⟨x,h⟩
theorem and7i (x:Nat) (h:x<256):Go.bits .and .i64 (x:Int) 7=(x:Int) % 8 :=
 (by decide +kernel:∀ k:Fin 256,Go.bits .and .i64 (k.val:Int) 7=(k.val:Int) % 8) ⟨x,h⟩
theorem over_is (V:Nat) (b:Bool) (h:decide ((1114112:Int)≤V)=b):decide ((1114111:Int)<V)=b:=by
 rw[← h];simp only[decide_eq_decide];omega
theorem at_drop {l:List Nat} {i n:Nat} (hl:l.length=n) (h:i<n):l.drop i=l.getD i 0 :: l.drop (i+1):=by
 have e:l.getD i 0=l[i]:=by simp[hl,h]
 rw[e,List.drop_eq_getElem_cons]
theorem hi_class (x:Nat) (hx:x<256) (k:Nat) (hk:WC x=k) (k0:k≠0) (t:List Nat) (hl:k≤t.length) :
 (∀ j,j<k→VB (t.getD j 0)=false→VN (x :: t)=0)∧((t.take k).all VB=true→VN (x :: t)=if badV k (W9 (x % maskB k) (t.take k))=true then 0 else k+1):=by
 subst hk;have hx1:¬ x<128:=by
  intro h;apply k0
  unfold WC;rw[if_neg (by omega),if_neg (by omega),if_neg (by omega)]
 refine⟨fun j hj hcj=>V0 hx1 (.inr (.inr (.inl (all_take_no (by omega) hj hcj)))),fun ha=>?_⟩;cases hbd:badV (WC x) (W9 (x % maskB (WC x)) (t.take (WC x))) with
 | true=>rw[V0 hx1 (.inr (.inr (.inr hbd)))];rfl
 | false=>rw[charB_good hx1 k0 (by omega) ha hbd];rfl
theorem signs_any (A:Option Addr) (n cap:Nat) (l:List Nat) (hl:l.length=n) (hcap:n≤cap) (hn:n≤1000000) (w:World) (hb:Bytes w A l) :
 Calls Tryz.prog 118 #[.slice A n cap] w (CntPost l w):=by
 have HL:=hD hl;have HB:=hD hb;clear hl hb;go_enter Tryz.func118,Tryz.ntmps118;go_wp2;go_loopw [3,4] (fun v s wr=>∃ m i nq:Nat,v=.int .i64 (m:Int)∧s=.int .i64 (i:Int)∧i≤n∧m≤i∧wr=w.drewN nq∧Hid (joinI m (charsB (l.drop i))=cntI l)) (fun _ s _=>n - (intOf s).toNat)
 case atStart=>exact⟨0,0,0,rfl,rfl,nZ _,nR _,rfl,hD rfl⟩
 case round =>
  obtain⟨m,i,nq,rfl,rfl,hi,hmi,rfl,hj⟩:=hrel;by_cases hlt:i<n
  ·obtain⟨g,o,rfl,_,hc⟩:=HB.out.2 (by rw[HL.out];omega);have c0:=hc i (by rw[HL.out];exact hlt);have hx:=getD_lt (by decide) HB.out.1 i;have hdr:=at_drop HL.out hlt;have hct:∀ j,j<n - i - 1→w.cell? ⟨g,o+(i+(j+1)),none⟩=some (.int .u8 ((l.drop (i+1)).getD j 0:Nat)):=fun j hj=>by
    have h:=hc (i+(j+1)) (by rw[HL.out];omega);have e:(l.drop (i+1)).getD j 0=l.getD (i+(j+1)) 0:=by rw[List.getD_eq_getElem?_getD,List.getElem?_drop,← List.getD_eq_getElem?_getD];congr 1;omega
    rw[e,← h]
   have hcb:∀ j,(l.drop (i+1)).getD j 0<256:=fun j=>getD_lt (by decide) (fun y hy=>HB.out.1 y (List.mem_of_mem_drop hy)) j;have htl:(l.drop (i+1)).length=n - i - 1:=by rw[List.length_drop,HL.out];omega
   have hpos:0<(l.drop i).length:=by rw[List.length_drop,HL.out];omega
   have hbad:=joinI_bad hpos;have hstep:=joinI_step hpos;have hdd:∀ c,(l.drop i).drop c=l.drop (i+c):=fun c=>List.drop_drop;rw[hdr]at hbad hstep;have HDR:=hD hdr;generalize l.getD i 0=x at c0 hx hbad hstep HDR;generalize l.drop (i+1)=t at hct hcb htl hbad hstep HDR;have HBAD:=hD hbad;have HSTEP:=hD hstep;have HDD:=hD hdd;have HCT:=hD hct;have HCB:=hD hcb;have HTL:=hD htl;have HX:=hD hx;have hin:decide ((i:Int)<(n:Int))=true:=by simp;omega
   clear hc hdr hbad hstep hdd hct hcb htl hpos;by_cases x1:x<128
   ·have d1:decide ((x:Int)<128)=true:=by simp;omega
    have HR:=hD (charB_one (t:=t) x1);have q1:decide ((n:Int)≤(i:Int))=false:=by simp;omega
    have q2:decide ((x:Int)<0)=false:=by simp
    have q3:decide ((55296:Int)≤(x:Int))=false:=by simp;omega
    have q4:decide ((1114111:Int)<(x:Int))=false:=by simp;omega
    clear x1;go_wp2_with fail
    go_quiet (fail)
    go_wp2_with fail
    go_loop [7,8] (fun v k=>v=.int .i64 (x:Int)∧k=.int .i64 1) (fun _ k=>(intOf k).toNat)
    case atStart=>exact⟨rfl,rfl⟩
    case round =>
     obtain⟨rfl,rfl⟩:=hrel;go_wp2;go_roundw
     case rel=>exact⟨m+1,i+1,_,by go_num,by go_num,by omega,by omega,rfl,hD (by rw[← hj.out,HDR.out,HSTEP.out (by rw[HR.out];decide) m,HR.out,← HDR.out,HDD.out])⟩
     case measure=>simp[intOf];omega
   ·have d1:decide ((x:Int)<128)=false:=by simp;omega
    by_cases hout:x<194∨245≤x
    ·have HR:=hD (HBAD.out (charB_out (t:=t) (by omega) hout hx) m);clear x1;rcases hout with h1|h1
     ·have d2:decide ((194:Int)≤(x:Int))=false:=by simp;omega
      have d3:decide ((224:Int)≤(x:Int))=false:=by simp;omega
      have d4:decide ((240:Int)≤(x:Int))=false:=by simp;omega
      clear h1;exact Zbf
     ·have d2:decide ((194:Int)≤(x:Int))=true:=by simp;omega
      have d3:decide ((x:Int)<224)=false:=by simp;omega
      have d4:decide ((224:Int)≤(x:Int))=true:=by simp;omega
      have d5:decide ((x:Int)<240)=false:=by simp;omega
      have d6:decide ((240:Int)≤(x:Int))=true:=by simp;omega
      have d7:decide ((x:Int)<245)=false:=by simp;omega
      clear h1;exact Zbf
    ·by_cases x2:x<224
     ·have d2:decide ((194:Int)≤(x:Int))=true:=by simp;omega
      have d3:decide ((x:Int)<224)=true:=by simp;omega
      have hmo:WC x=1:=by unfold WC;rw[if_pos (by omega)]
      have han:=and31i x hx;by_cases hlen:n - i - 1<1
      ·have HR:=hD (HBAD.out (V0 (x:=x) (t:=t) x1 (.inr (.inl (by rw[hmo,HTL.out];exact hlen)))) m);have q1:decide ((n:Int)≤(i:Int)+1)=true:=by simp;omega
       clear x1 hout hmo;exact Zbf
      ·have q1:decide ((n:Int)≤(i:Int)+1)=false:=by simp;omega
       obtain⟨hno,hyes⟩:=hi_class x hx 1 hmo (by decide) t (by rw[HTL.out];omega);have hsm:=fun j hj=>accB_small x 1 j t hj;rw[show maskB 1=32 from rfl]at hyes hsm;have HNO:=hD hno;have HYES:=hD hyes;have HSM:=hD hsm;clear hno hyes hsm x1 hout hmo;go_wp2_with fail
       go_quiet (fail)
       go_wp2_with fail
       go_loop [7,8] (fun v k=>∃ j:Nat,j≤1∧k=.int .i64 ((j:Int)+1)∧v=.int .i64 ((W9 (x % 32) (t.take j):Nat):Int)∧Hid ((t.take j).all VB=true)) (fun _ k=>1+1 - (intOf k).toNat)
       case atStart=>exact⟨0,nZ _,rfl,by simp[W9],hD rfl⟩
       case round =>
        obtain⟨j,hj2,rfl,rfl,hall⟩:=hrel;have hV:=HSM.out j (by omega);by_cases hlt2:j<1
        ·have c1:=HCT.out j (by omega);have hy:=HCB.out j;have hac:=accB_take t j (by have:=HTL.out;omega) (x % 32);have hat:=V6 (t:=t) (j:=j) (by have:=HTL.out;omega) hall.out;have hno:=HNO.out j hlt2;generalize t.getD j 0=y at c1 hy hac hat hno;generalize W9 (x % 32) (t.take j)=V at hac hV ⊢;have hor:=or_six V y (by omega);have h63:=and63 y hy;have hl2:decide ((j:Int)+1≤1)=true:=by simp;omega
         exact ZM
        ·obtain rfl:j=1:=by omega
         have hl2:decide (((1:Nat):Int)+1≤1)=false:=by simp
         have HR:=hD (HYES.out hall.out);clear hall;generalize W9 (x % 32) (t.take 1)=V at HR hV ⊢;have hbw:=bad_ways 1 V 128 rfl;clear hV;rcases hbw with ⟨hb,w1⟩|⟨hb,w1,w2,w3⟩|⟨hb,w1,w2,w3,w4⟩|⟨hb,w1,w2,w4⟩|⟨hb,w1,w2,w3,w4⟩
         all_goals
          rw[hb]at HR;clear hb;try have w5:=over_is V _ w4
          go_wp2
         ·exact Z2
         ·exact Z2
         ·exact Z2
         all_goals
          have HR2:Hid (VN (x :: t)=2):=hD HR.out;go_roundw
          case rel=>exact⟨m+1,i+2,_,by go_num,by go_num,by omega,by omega,rfl,hD (by rw[← hj.out,HDR.out,HSTEP.out (by rw[HR2.out];decide) m,HR2.out,← HDR.out,HDD.out])⟩
          case measure=>simp[intOf];omega
     ·have d2:decide ((194:Int)≤(x:Int))=true:=by simp;omega
      have d3:decide ((x:Int)<224)=false:=by simp;omega
      have d4:decide ((224:Int)≤(x:Int))=true:=by simp;omega
      by_cases x3:x<240
      ·have d5:decide ((x:Int)<240)=true:=by simp;omega
       have hmo:WC x=2:=by unfold WC;rw[if_neg (by omega),if_pos (by omega)]
       have han:=and15i x hx;by_cases hlen:n - i - 1<2
       ·have HR:=hD (HBAD.out (V0 (x:=x) (t:=t) x1 (.inr (.inl (by rw[hmo,HTL.out];exact hlen)))) m);have q1:decide ((n:Int)≤(i:Int)+2)=true:=by simp;omega
        clear x1 hout hmo;exact Zbf
       ·have q1:decide ((n:Int)≤(i:Int)+2)=false:=by simp;omega
        obtain⟨hno,hyes⟩:=hi_class x hx 2 hmo (by decide) t (by rw[HTL.out];omega);have hsm:=fun j hj=>accB_small x 2 j t hj;rw[show maskB 2=16 from rfl]at hyes hsm;have HNO:=hD hno;have HYES:=hD hyes;have HSM:=hD hsm;clear hno hyes hsm x1 hout hmo;go_wp2_with fail
        go_quiet (fail)
        go_wp2_with fail
        go_loop [7,8] (fun v k=>∃ j:Nat,j≤2∧k=.int .i64 ((j:Int)+1)∧v=.int .i64 ((W9 (x % 16) (t.take j):Nat):Int)∧Hid ((t.take j).all VB=true)) (fun _ k=>2+1 - (intOf k).toNat)
        case atStart=>exact⟨0,nZ _,rfl,by simp[W9],hD rfl⟩
        case round =>
         obtain⟨j,hj2,rfl,rfl,hall⟩:=hrel;have hV:=HSM.out j (by omega);by_cases hlt2:j<2
         ·have c1:=HCT.out j (by omega);have hy:=HCB.out j;have hac:=accB_take t j (by have:=HTL.out;omega) (x % 16);have hat:=V6 (t:=t) (j:=j) (by have:=HTL.out;omega) hall.out;have hno:=HNO.out j hlt2;generalize t.getD j 0=y at c1 hy hac hat hno;generalize W9 (x % 16) (t.take j)=V at hac hV ⊢;have hor:=or_six V y (by omega);have h63:=and63 y hy;have hl2:decide ((j:Int)+1≤2)=true:=by simp;omega
          exact ZM
         ·obtain rfl:j=2:=by omega
          have hl2:decide (((2:Nat):Int)+1≤2)=false:=by simp
          have HR:=hD (HYES.out hall.out);clear hall;generalize W9 (x % 16) (t.take 2)=V at HR hV ⊢;have hbw:=bad_ways 2 V 2048 rfl;clear hV;rcases hbw with ⟨hb,w1⟩|⟨hb,w1,w2,w3⟩|⟨hb,w1,w2,w3,w4⟩|⟨hb,w1,w2,w4⟩|⟨hb,w1,w2,w3,w4⟩
          all_goals
           rw[hb]at HR;clear hb;try have w5:=over_is V _ w4
           go_wp2
          ·exact Z2
          ·exact Z2
          ·exact Z2
          all_goals
           have HR2:Hid (VN (x :: t)=3):=hD HR.out;go_roundw
           case rel=>exact⟨m+1,i+3,_,by go_num,by go_num,by omega,by omega,rfl,hD (by rw[← hj.out,HDR.out,HSTEP.out (by rw[HR2.out];decide) m,HR2.out,← HDR.out,HDD.out])⟩
           case measure=>simp[intOf];omega
      ·have d5:decide ((x:Int)<240)=false:=by simp;omega
       have d6:decide ((240:Int)≤(x:Int))=true:=by simp;omega
       have d7:decide ((x:Int)<245)=true:=by simp;omega
       have hmo:WC x=3:=by unfold WC;rw[if_neg (by omega),if_neg (by omega),if_pos (by omega)]
       have han:=and7i x hx;by_cases hlen:n - i - 1<3
       ·have HR:=hD (HBAD.out (V0 (x:=x) (t:=t) x1 (.inr (.inl (by rw[hmo,HTL.out];exact hlen)))) m);have q1:decide ((n:Int)≤(i:Int)+3)=true:=by simp;omega
        clear x1 hout hmo;exact Zbf
       ·have q1:decide ((n:Int)≤(i:Int)+3)=false:=by simp;omega
        obtain⟨hno,hyes⟩:=hi_class x hx 3 hmo (by decide) t (by rw[HTL.out];omega);have hsm:=fun j hj=>accB_small x 3 j t hj;rw[show maskB 3=8 from rfl]at hyes hsm;have HNO:=hD hno;have HYES:=hD hyes;have HSM:=hD hsm;clear hno hyes hsm x1 hout hmo;go_wp2_with fail
        go_quiet (fail)
        go_wp2_with fail
        go_loop [7,8] (fun v k=>∃ j:Nat,j≤3∧k=.int .i64 ((j:Int)+1)∧v=.int .i64 ((W9 (x % 8) (t.take j):Nat):Int)∧Hid ((t.take j).all VB=true)) (fun _ k=>3+1 - (intOf k).toNat)
        case atStart=>exact⟨0,nZ _,rfl,by simp[W9],hD rfl⟩
        case round =>
         obtain⟨j,hj2,rfl,rfl,hall⟩:=hrel;have hV:=HSM.out j (by omega);by_cases hlt2:j<3
         ·have c1:=HCT.out j (by omega);have hy:=HCB.out j;have hac:=accB_take t j (by have:=HTL.out;omega) (x % 8);have hat:=V6 (t:=t) (j:=j) (by have:=HTL.out;omega) hall.out;have hno:=HNO.out j hlt2;generalize t.getD j 0=y at c1 hy hac hat hno;generalize W9 (x % 8) (t.take j)=V at hac hV ⊢;have hor:=or_six V y (by omega);have h63:=and63 y hy;have hl2:decide ((j:Int)+1≤3)=true:=by simp;omega
          exact ZM
         ·obtain rfl:j=3:=by omega
          have hl2:decide (((3:Nat):Int)+1≤3)=false:=by simp
          have HR:=hD (HYES.out hall.out);clear hall;generalize W9 (x % 8) (t.take 3)=V at HR hV ⊢;have hbw:=bad_ways 3 V 65536 rfl;clear hV;rcases hbw with ⟨hb,w1⟩|⟨hb,w1,w2,w3⟩|⟨hb,w1,w2,w3,w4⟩|⟨hb,w1,w2,w4⟩|⟨hb,w1,w2,w3,w4⟩
          all_goals
           rw[hb]at HR;clear hb;try have w5:=over_is V _ w4
           go_wp2
          ·exact Z2
          ·exact Z2
          ·exact Z2
          all_goals
           have HR2:Hid (VN (x :: t)=4):=hD HR.out;go_roundw
           case rel=>exact⟨m+1,i+4,_,by go_num,by go_num,by omega,by omega,rfl,hD (by rw[← hj.out,HDR.out,HSTEP.out (by rw[HR2.out];decide) m,HR2.out,← HDR.out,HDD.out])⟩
           case measure=>simp[intOf];omega
  ·obtain rfl:i=n:=by omega
   have hin:decide ((i:Int)<(i:Int))=false:=by simp
   have HE:Hid (joinI m (charsB (l.drop i))=m):=hD (by rw[List.drop_of_length_le (by rw[HL.out];exact nR _)];exact joinI_end m);go_wp2;go_ret;exact⟨ret_int (by rw[← hj.out,HE.out]),Wn (bR _ _) _⟩
end
end Go.Proofs.YtgmgcadlkebokaaGreatDoor
