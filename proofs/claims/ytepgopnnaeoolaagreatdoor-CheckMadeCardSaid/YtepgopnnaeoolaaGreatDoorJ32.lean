/- A part of the proof. -/
import Derived.Test.YtepgopnnaeoolaaGreatDoorJ31
import Derived.Lib.AppendZerosOnto
namespace Go.Proofs.YtepgopnnaeoolaaGreatDoor
open Go.RowKit
set_option maxHeartbeats 4000000
set_option maxRecDepth 100000
def GrowPost (w:World) (e:Ending) (w':World):Prop:=∃ v,e=.returned v∧w'.ownsRow 0 3 1 v 0 []∧(∀ g,v.ownBlock=some g→w.heap.size≤g)∧Below w.heap.size w w'
theorem grow_any (w:World) (n:Nat) (hn:n≤1000000):Calls Tryz.prog 108 #[.slice none 0 0,.int .i64 (n:Int)] w (GrowPost w):=by
 have h1:decide ((n:Int)<0)=false:=by simp
 have h2:IntKind.i64.wrap ((n:Int) - 0)=(n:Int):=by rw[Int.sub_zero];exact IntWalk.i64_in _ (by omega)
 have h2':IntKind.i64.wrap (n:Int)=(n:Int):=IntWalk.i64_in _ (by omega);rcases Nat.eq_zero_or_pos n with h0|h0
 ·subst h0;go_enter Tryz.func108,Tryz.ntmps108;go_wp2;go_ret;exact⟨_,rfl,World.ownsRow_nil _ _ _ _,(fun g h=>by cases h),bR _ _⟩
 ·have h3:decide ((0:Int)<(n:Int))=true:=by simp;omega
  obtain⟨i0,hi,hz0,hz1,hz2⟩:=info_parts Tryz.infoInt;have hG:=grownCap_ge w n 0 3;have hG2:=grownCap_le_maxLen w n 0 3 (by unfold maxLen;omega);obtain⟨Z,hZ⟩:∃ Z,Z=Builtin.zeroCells (Value.int .i64 0).cells n++Builtin.zeroCells (Value.int .i64 0).cells (grownCap w n 0 3 - n):=⟨_,rfl⟩;have hZs:Z.size=grownCap w n 0 3:=by rw[hZ];simp[Builtin.zeroCells,Value.cells];omega
  obtain⟨W2,hW2⟩:∃ W2,W2=w.drew.alloc (.cells Z 3):=⟨_,rfl⟩;have hrz:∀ ty,(Builtin.append_ #[22,3] ty #[.slice none 0 0,.int .i64 (n:Int)]).run Tryz.prog w=.ok (.slice (some ⟨w.heap.size,0,none⟩) n (grownCap w n 0 3)) W2:=fun ty=>by
   have h:=Lib.run_append_grow_zeros (P:=Tryz.prog) w 22 3 ty 3 i0 (.int .i64 0) .i64 .i64 Tryz.underlying22 Tryz.underlying3 hi hz0 none 0 0 [] (run_firstCells_none w.drew i0.size 0 0 0) n (by omega) (by rw[hz1];decide) (by omega) (by omega) (by rw[hz2];omega) (by rw[Nat.zero_add];exact growslice_fits (by omega) (by rw[hz2];omega));rw[Nat.zero_add]at h;rw[hW2,hZ];simpa using h
  obtain⟨G,hGe⟩:∃ G,G=grownCap w n 0 3:=⟨_,rfl⟩;rw[← hGe]at hrz hG hG2 hZs;have key:∀ (x:World) (cs:Array Value),(x.alloc (.cells cs 3)).heap[x.heap.size]?=some (.cells cs 3 (0,0)):=fun x cs=>by simp[World.alloc,-World.alloc_eq]
  have hown:W2.ownsRow 0 3 1 (.slice (some ⟨w.heap.size,0,none⟩) 0 G) 0 [] :=
   ⟨rfl,.inr ⟨w.heap.size,G,Z,rfl,nZ _,by rw[hW2];exact key w.drew Z,nZ _,hG2,by rw[hZs,Nat.mul_one],by simp⟩⟩
  have hb:Below w.heap.size w W2:=by rw[hW2];exact(bR w.heap.size w).drew.alloc (nR _) _
  have HO:=hD hown;have HB:=hD hb;clear hown hb hGe hi hz0 hz1 hz2 hZ hW2 hZs key;go_enter Tryz.func108,Tryz.ntmps108;unfold maxLen at hG2;go_wp2_with (at_builtin;refine Lib.wpList_append_run _ rfl _ _ _ _ rfl _ _ rfl rfl _ _ (hrz _) ?_)
  go_ret;exact⟨_,rfl,HO.out,fun g hg=>by
   have e:some w.heap.size=some g:=hg;simp only[Option.some.injEq]at e;omega,HB.out⟩
def OwnI (W wr:World) (v:Value) (q:List Int):Prop:=(∃ A c,v=.slice A q.length c)∧wr.ownsRow 0 3 1 v q.length (q.map (Value.int .i64))∧(∀ g,v.ownBlock=some g→W.heap.size≤g)∧Below W.heap.size W wr
theorem OwnI.push {W wr w':World} {v v':Value} {q more:List Int} (h:OwnI W wr v q) {m:Nat} {xs:List Value} (ho:w'.ownsRow 0 3 1 v' m xs) (hm:m=(q++more).length) (hx:xs=(q++more).map (Value.int .i64)) (hg:wr.grownBy w' v.ownBlock) (hat:v'.ownBlock=v.ownBlock∨v'.ownBlock=some wr.heap.size):OwnI W w' v' (q++more):=by
 subst hm hx;refine⟨Wc ho,ho,fun g hg'=>?_,h.2.2.2.grown hg h.2.2.2.size h.2.2.1⟩;rcases hat with h1|h1
 ·exact h.2.2.1 g (h1 ▸ hg')
 ·have:=h1.symm.trans hg';simp only[Option.some.injEq]at this;have:=h.2.2.2.size;omega
def LocC (l:List Int) (w:World) (e:Ending) (w':World):Prop:=∃ A c,e=.returned (.slice A l.length c)∧l.length≤c∧Wg (fun k=>w.heap.size≤k∧k<w'.heap.size) w' (.slice A l.length c) l∧Below w.heap.size w w'
theorem OwnI.loc {W wr:World} {v:Value} {q:List Int} (h:OwnI W wr v q) (hl:q.length≤1000000):LocC q W (.returned v) wr:=by
 obtain⟨⟨A,c,rfl⟩,ho,hn,hb⟩:=h;refine⟨A,c,rfl,?_,owns_new (w:=W) ho rfl rfl hl hn,hb⟩;rcases ho.2 with ⟨he,h0⟩|⟨g,cap,cur,he,_,_,h3,_⟩
 ·omega
 ·simp only[vI]at he;omega
theorem LocC.nil {w w':World} (hb:Below w.heap.size w w'):LocC [] w (.returned (.slice none 0 0)) w':=⟨none,0,rfl,nR _,Wg.nil _ _,hb⟩
theorem concat_any (w:World) (g:Nat) (v1 v2:Value) (l1 l2:List Int) (k0:w.cell? ⟨g,0,none⟩=some v1) (k1:w.cell? ⟨g,1,none⟩=some v2) (h1:Wg (fun k=>k<w.heap.size) w v1 l1) (h2:Wg (fun k=>k<w.heap.size) w v2 l2) (hl1:l1.length≤100000) (hl2:l2.length≤100000) :
 Calls Tryz.prog 85 #[.slice (some ⟨g,0,none⟩) 2 2] w (LocC (l1++l2) w):=by
 have HN1:=hD (fun wz (hb:Below w.heap.size w wz)=>(h1.keep (K':=fun k=>k<wz.heap.size) (Wf.below hb fun _ hk=>hk) fun _ hk=>WW hk hb.size).news);have HN2:=hD (fun wz (hb:Below w.heap.size w wz)=>(h2.keep (K':=fun k=>k<wz.heap.size) (Wf.below hb fun _ hk=>hk) fun _ hk=>WW hk hb.size).news);obtain⟨A1,c1,hv1,_,_⟩:=h1.form;obtain⟨A2,c2,hv2,_,_⟩:=h2.form;rw[hv1]at HN1 k0;rw[hv2]at HN2 k1;clear h1 h2 hv1 hv2;obtain⟨n1,hn1⟩:∃ n,l1.length=n:=⟨_,rfl⟩;obtain⟨n2,hn2⟩:∃ n,l2.length=n:=⟨_,rfl⟩;rw[hn1]at HN1 k0 hl1;rw[hn2]at HN2 k1 hl2;have HL1:=hD hn1;have HL2:=hD hn2;clear hn1 hn2;have e1:IntKind.i64.wrap (0+(n1:Int))=(n1:Int):=by rw[Int.zero_add];exact IntWalk.i64_in _ (by omega)
 have e1':IntKind.i64.wrap (n1:Int)=(n1:Int):=IntWalk.i64_in _ (by omega);have e2:IntKind.i64.wrap ((n1:Int)+(n2:Int))=((n1+n2:Nat):Int):=by rw[show(n1:Int)+(n2:Int)=((n1+n2:Nat):Int) by omega];exact IntWalk.i64_in _ (by omega)
 have HG:=hD (fun wz=>grow_any wz (n1+n2) (by omega));obtain⟨n3,hn3⟩:∃ n,n1+n2=n:=⟨_,rfl⟩;rw[hn3]at e2 HG;have HN3:=hD hn3;clear hn3;have d1:decide ((n1:Int)<0)=false:=by simp
 have d3:decide ((n3:Int)<0)=false:=by simp
 have hkg:=wL _ _ k0;have HK:=hD (fun wz (hb:Below w.heap.size w wz)=>And.intro ((hb.cell (p:=⟨g,0,none⟩) hkg).trans k0) ((hb.cell (p:=⟨g,1,none⟩) hkg).trans k1));go_enter Tryz.func85,Tryz.ntmps85;go_wp2_with fail
 go_loopw [3,11] (fun sz i wr=>wr=w∧((i=.int .i64 0∧sz=.int .i64 0)∨(i=.int .i64 1∧sz=.int .i64 (n1:Int))∨(i=.int .i64 2∧sz=.int .i64 (n3:Int)))) (fun _ i _=>2 - (intOf i).toNat)
 case atStart=>exact⟨rfl,.inl ⟨rfl,rfl⟩⟩
 case round =>
  obtain⟨rfl,hrel⟩:=hrel;rcases hrel with ⟨rfl,rfl⟩|⟨rfl,rfl⟩|⟨rfl,rfl⟩
  ·go_wp2;go_roundw
   case rel=>exact⟨by trivial,.inr (.inl ⟨rfl,rfl⟩)⟩
   case measure=>simp[intOf]
  ·go_wp2;go_roundw
   case rel=>exact⟨by trivial,.inr (.inr ⟨rfl,rfl⟩)⟩
   case measure=>simp[intOf]
  ·obtain⟨w0,rfl⟩:∃ w0,w0=wr:=⟨_,rfl⟩;clear e1 e1' e2 d1 d3;go_wp2_with fail
   go_at_call 108;refine(HG.out w0).mono ?_;rintro e w1 ⟨v,rfl,ho,hnw,hb⟩;obtain⟨B1,b1,rfl⟩:=Wc ho;have HO:Hid (OwnI w0 w1 (.slice B1 0 b1) []):=hD ⟨⟨_,_,rfl⟩,ho,hnw,hb⟩;clear ho hnw hb k0 k1;go_wp2_with fail
   go_loopw [6,27] (fun nv i wr=>∃ (k:Nat) (q:List Int) (A:Option Addr) (c:Nat),i=.int .i64 (k:Int)∧((k=0∧q=[])∨(k=1∧q=l1)∨(k=2∧q=l1++l2))∧nv=.slice A q.length c∧Hid (OwnI w0 wr (.slice A q.length c) q)) (fun _ i _=>2 - (intOf i).toNat)
   case atStart=>exact⟨0,[],B1,b1,rfl,.inl ⟨rfl,rfl⟩,rfl,HO⟩
   case round =>
    obtain⟨k,q,A,c,rfl,hq,rfl,HQ⟩:=hrel;obtain⟨k0,k1⟩:=HK.out _ HQ.out.2.2.2;obtain⟨w2,rfl⟩:∃ w2,w2=wr:=⟨_,rfl⟩;rcases hq with ⟨rfl,rfl⟩|⟨rfl,rfl⟩|⟨rfl,rfl⟩
    ·simp only[List.length_nil]at HQ ⊢;go_wp2_with (at_builtin;refine Wl rfl (.tmp 31) (.tmp 32) 22 3 rfl _ 1 8 Tryz.underlying22 Tryz.infoInt rfl (by decide) (by decide) (.slice A 0 c) 0 [] (by rfl) HQ.out.2.1 _ n1 (l1.map (Value.int .i64)) (by rfl) (by rw[List.length_map,HL1.out,Nat.mul_one]) (HN1.out _ HQ.out.2.2.2) (WP _) (by omega) ?_;intro v3 w3 ho3 hg3 hat3;obtain⟨B3,b3,rfl⟩:=Wc ho3)
     have HP:=hD (HQ.out.push (more:=l1) ho3 (by rw[List.nil_append,HL1.out];omega) (by rw[List.nil_append];rfl) hg3 hat3);rw[List.nil_append]at HP;clear ho3 hg3 hat3;go_roundw
     case rel=>exact⟨1,l1,B3,b3,by go_num,.inr (.inl ⟨rfl,rfl⟩),by rw[HL1.out],by rw[HL1.out];first|exact HP|(rw[Nat.zero_add]at HP;exact HP)⟩
     case measure=>simp[intOf]
    ·rw[HL1.out]at HQ ⊢;go_wp2_with (at_builtin;refine Wl rfl (.tmp 31) (.tmp 32) 22 3 rfl _ 1 8 Tryz.underlying22 Tryz.infoInt rfl (by decide) (by decide) (.slice A n1 c) n1 (q.map (Value.int .i64)) (by rfl) (by have h:=HQ.out.2.1;rw[HL1.out]at h;exact h) _ n2 (l2.map (Value.int .i64)) (by rfl) (by rw[List.length_map,HL2.out,Nat.mul_one]) (HN2.out _ HQ.out.2.2.2) (WP _) (by omega) ?_;intro v3 w3 ho3 hg3 hat3;obtain⟨B3,b3,rfl⟩:=Wc ho3)
     have HP:=hD (HQ.out.push (more:=l2) ho3 (by rw[List.length_append,HL1.out,HL2.out]) (by rw[List.map_append]) hg3 hat3);clear ho3 hg3 hat3;go_roundw
     case rel=>exact⟨2,q++l2,B3,b3,by go_num,.inr (.inr ⟨rfl,rfl⟩),by rw[List.length_append,HL1.out,HL2.out],by rw[List.length_append,HL1.out,HL2.out];exact HP⟩
     case measure=>simp[intOf]
    ·have HF:=hD (HQ.out.loc (by rw[List.length_append,HL1.out,HL2.out];omega));clear HQ;generalize (l1++l2).length=n9 at HF ⊢;go_wp2;go_ret;exact HF.out
theorem locB_none {m:W8} {f:Int} (h:WT m f=none):locB m f=[]:=by unfold locB;rw[h]
theorem locB_imp {m:W8} {f:Int} {t:List Int×List Int} (h:WT m f=some t) (hf:f<m.imps.length):locB m f=[]:=by unfold locB;rw[h];simp only;rw[if_pos hf]
theorem locB_fun {m:W8} {d:Nat} {t:List Int×List Int} (h:WT m ((m.imps.length+d:Nat):Int)=some t):locB m ((m.imps.length+d:Nat):Int)=t.1++(m.funs.getD d VF).loc:=by
 unfold locB;rw[h];simp only;rw[if_neg (by omega),show(((m.imps.length+d:Nat):Int) - m.imps.length).toNat=d by omega]
theorem fsigB_some_lt {m:W8} {f:Int} {t:List Int×List Int} (h:WT m f=some t):0≤f∧f<m.imps.length+m.funs.length:=by
 rcases(show(f<0∨(m.imps.length:Int)+m.funs.length≤f)∨(0≤f∧f<m.imps.length+m.funs.length) by omega) with h1|h1
 ·rw[fsigB_none h1]at h;cases h
 ·exact h1
theorem typeB_mem {m:W8} {k:Int} {t:List Int×List Int} (h:typeB m k=some t):t ∈ m.types:=by
 unfold typeB at h
 split at h
 ·rename_i hk
  simp only[Option.some.injEq]at h;rw[← h];exact Ve _ _ _ (by omega)
 ·cases h
theorem fsigB_mem {m:W8} {f:Int} {t:List Int×List Int} (h:WT m f=some t):t ∈ m.types:=by
 unfold WT at h
 split at h
 ·cases h
 ·split at h
  ·exact typeB_mem h
  ·exact typeB_mem h
theorem locals_any (w:World) (v:Mv) (m:W8) (h:WQ (fun k=>k<w.heap.size) w v m) (hs:VI m) (f:Int) (hf : -9223372036854775808≤f∧f≤9223372036854775807) :
 Calls Tryz.prog 66 #[.agg v.cells,.int .i64 f] w (LocC (locB m f) w):=by
 have HSG:=hD (fun wz (hb:Below w.heap.size w wz)=>sig_any wz v m (h.keep (Wf.below hb fun _ hk=>hk) fun _ hk=>WW hk hb.size) hs f hf);have h2:=h.funs;obtain⟨A0,c0,A1,c1,A2,c2,A3,c3,A4,c4,A5,c5,A6,c6,A7,c7,rfl⟩:=WC h;simp only[Mv.cells]at HSG ⊢;simp only at h2;have hl1:=hs.2.1;have hl2:=hs.2.2.1;have HTY:=hD hs.2.2.2.1;have HFL:=hD hs.2.2.2.2;clear h hs;have HLN:=hD (locB_none (m:=m) (f:=f));have HLI:=hD (fun t=>locB_imp (m:=m) (f:=f) (t:=t));have HSL:=hD (fun t=>fsigB_some_lt (m:=m) (f:=f) (t:=t));have HSM:=hD (fun t=>fsigB_mem (m:=m) (f:=f) (t:=t));have HLF:=hD (fun (d:Nat) t (hd:f=((m.imps.length+d:Nat):Int)) (hsg:WT m f=some t)=>(show locB m f=t.1++(m.funs.getD d VF).loc by subst hd;exact locB_fun hsg));obtain⟨ts,hts⟩:∃ ts,WT m f=ts:=⟨_,rfl⟩;rw[hts]at HSG HLN HLI HSL HSM HLF;generalize locB m f=lo at HLN HLI HLF ⊢;generalize m.types.length=n0 at *;obtain⟨n1,hn1⟩:∃ n,m.imps.length=n:=⟨_,rfl⟩;obtain⟨n2,hn2⟩:∃ n,m.funs.length=n:=⟨_,rfl⟩;rw[hn1]at hl1 HSG HLI HSL HLF ⊢;rw[hn2]at hl2 HSG HSL ⊢;have HN2:=hD hn2;generalize m.mems.length=n3 at *;generalize m.exps.length=n5 at *;generalize m.globs.length=n4 at *;generalize m.datas.length=n6 at *;generalize m.cus.length=n7 at *;have H2:=hD h2;have hb0:=(bR w.heap.size w).alloc (nR _) (.cells #[.slice A0 n0 c0,.slice A1 n1 c1,.slice A2 n2 c2,.slice A3 n3 c3,.slice A4 n4 c4,.slice A5 n5 c5,.slice A6 n6 c6,.slice A7 n7 c7] 33);have HQ:=hD (HSG.out _ hb0);have HB0:=hD hb0;have HBX:=hD (fun wz hb=>Vq w (.slice A0 n0 c0) (.slice A1 n1 c1) (.slice A2 n2 c2) (.slice A3 n3 c3) (.slice A4 n4 c4) (.slice A5 n5 c5) (.slice A6 n6 c6) (.slice A7 n7 c7) (wz:=wz) hb);clear h2 hn1 hn2 hts hb0 HSG hf;go_enter Tryz.func66,Tryz.ntmps66;go_wp2_with fail
 go_at_call 65;refine HQ.out.mono ?_;rintro e w1 ⟨p',r',rfl,hi1,hi2,hb1⟩;obtain⟨P1,e1,hq1,_,_⟩:=hi1.form;obtain⟨P2,e2,hq2,_,_⟩:=hi2.form;rw[hq1]at hi1 ⊢;rw[hq2]at hi2 ⊢;obtain⟨b0,b1,b2,_⟩:=HBX.out _ (Wi hb1 (.cells #[.slice P1 (ts.getD ([],[])).1.length e1,.slice P2 (ts.getD ([],[])).2.length e2] 66));have HB1:=hD (Wa HB0.out hb1);have HI1:=hD (hi1.keep (K':=fun k=>k<w1.heap.size) (Wf.refl _ _) fun k hk=>hk.elim False.elim fun h=>h.2);clear hi1 hi2 hq1 hq2 HQ hb1 HB0 HBX;cases ts with
 | none =>
  have HE:=hD (HLN.out rfl);clear HLN HLI HSL HSM HLF;simp only[Option.isSome_none,Option.getD_none,List.length_nil]at *;go_wp2;go_ret;rw[HE.out];exact LocC.nil (Wi HB1.out _)
 | some t =>
  obtain⟨hf0,hf1⟩:=HSL.out t rfl;simp only[Option.isSome_some,Option.getD_some]at *;by_cases hlt:f<n1
  ·have HE:=hD (HLI.out t rfl hlt);have d0:decide (f<(n1:Int))=true:=decide_eq_true hlt;clear HLN HLI HSL HSM HLF hlt;go_wp2;go_ret;rw[HE.out];exact LocC.nil (Wi HB1.out _)
  ·obtain⟨d,hd⟩:∃ d:Nat,f=((n1+d:Nat):Int):=⟨(f - n1).toNat,by omega⟩;have HE:=hD (HLF.out d t hd rfl);have hdn:d<n2:=by omega
   have htm:=HTY.out t (HSM.out t rfl);have hfm:=HFL.out _ (Ve m.funs d VF (by rw[HN2.out];exact hdn));obtain⟨g2,o2,cc2,he,_,_⟩:=Wd.some_ H2.out (by rw[HN2.out];omega);simp only[vI]at he;obtain⟨rfl,-,rfl⟩:=he;obtain⟨u,ku,hu⟩:=Wd.at_ H2.out d 1 (by rw[HN2.out];exact hdn) (by decide);have hul:Wg (fun k=>k<w.heap.size) w u (m.funs.getD d VF).loc:=hu;generalize (m.funs.getD d VF).loc=ll at HE hul hfm;obtain⟨Al,cl,hue,_,_⟩:=hul.form;rw[hue]at ku hul;have d0:decide (f<(n1:Int))=false:=by simp;omega
   have d1:IntKind.i64.wrap (f - (n1:Int))=(d:Int):=by rw[show f - (n1:Int)=(d:Int) by omega];exact IntWalk.i64_in _ (by omega)
   have d2:(0:Int)≤(d:Int)∧(d:Int)<(n2:Int):=by omega
   generalize t.2.length=np2 at *;obtain⟨W,hW⟩:∃ W,W=w1.alloc (.cells #[.slice P1 t.1.length e1,.slice P2 np2 e2] 66):=⟨_,rfl⟩;have hbw1:Below w1.heap.size w1 W:=by rw[hW];exact(bR _ _).alloc (nR _) _
   have hk5:W.cell? ⟨w1.heap.size,0,none⟩=some (.slice P1 t.1.length e1):=by rw[hW,wN];rfl
   have b1':=b1;have b2':=b2;rw[← hW]at b1' b2';have kul:W.cell? ⟨g2,o2+d * 3+1,none⟩=some (.slice Al ll.length cl):=((Wa HB1.out hbw1).cell (p:=⟨g2,o2+d * 3+1,none⟩) (wL _ _ ku)).trans ku;have HBW:=hD (Wa HB1.out hbw1);obtain⟨n8,hn8⟩:∃ n,t.1.length=n:=⟨_,rfl⟩;obtain⟨n9,hn9⟩:∃ n,ll.length=n:=⟨_,rfl⟩;have HCC:=hD (concat_any (W.drew.alloc (.cells #[.slice P1 t.1.length e1,.slice Al ll.length cl] 22)) W.heap.size (.slice P1 t.1.length e1) (.slice Al ll.length cl) t.1 ll (by exact wN W.drew _ _ 0) (by exact wN W.drew _ _ 1)
    (HI1.out.keep (Wf.below ((Wi hbw1.drew _)) fun _ hk=>hk) fun k hk=>WW hk (Wi hbw1.drew _).size)
    (hul.keep (Wf.below (Wi HBW.out.drew _) fun _ hk=>hk) fun k hk=>WW hk (Wi HBW.out.drew _).size) htm.1 hfm)
   rw[hn8]at HCC hk5;rw[hn9]at HCC kul;rw[hn8]at hW b1 b2 ⊢;have HF:Hid (∀ wz,Below W.drew.heap.size W.drew wz→wz.cell? ⟨w.heap.size,1,none⟩=some (.slice A1 n1 c1)∧wz.cell? ⟨w.heap.size,2,none⟩=some (.slice (some ⟨g2,o2,none⟩) n2 c2)∧wz.cell? ⟨w1.heap.size,0,none⟩=some (.slice P1 n8 e1)∧wz.cell? ⟨g2,o2+d * 3+1,none⟩=some (.slice Al n9 cl)):=hD fun wz hb =>
    ⟨(hb.cell (p:=⟨w.heap.size,1,none⟩) (wL _ _ b1')).trans b1',(hb.cell (p:=⟨w.heap.size,2,none⟩) (wL _ _ b2')).trans b2',(hb.cell (p:=⟨w1.heap.size,0,none⟩) (wL _ _ hk5)).trans hk5,(hb.cell (p:=⟨g2,o2+d * 3+1,none⟩) (wL _ _ kul)).trans kul⟩
   clear HLN HLI HSL HSM HLF hlt hd H2 ku hul hu hue hbw1 htm hfm HTY HFL hn8 hn9 HI1 hf0 hf1 b0
   go_upto_region 4 with (fail)
   rw[← hW];clear hW;go_wp2_with fail
   go_region_held3 (fun w'=>w'.cell? ⟨w.heap.size,1,none⟩=some (.slice A1 n1 c1)∧w'.cell? ⟨w.heap.size,2,none⟩=some (.slice (some ⟨g2,o2,none⟩) n2 c2)∧w'.cell? ⟨w1.heap.size,0,none⟩=some (.slice P1 n8 e1)∧w'.cell? ⟨g2,o2+d * 3+1,none⟩=some (.slice Al n9 cl))
    (first|exact HF.out _ (Wi (bR _ _) _)|exact HF.out _ (Wa (Wi (bR _ _) _) hb9)|go_keep)
    ((go_at_call 85;refine HCC.out.mono ?_;rintro e w9 ⟨P9,e9,rfl,hc9,hi9,hb9⟩))
   all_goals
    have hsz9:=(Wi (o:=.cells #[.slice P1 n8 e1,.slice Al n9 cl] 22) HBW.out.drew).size;have hfin:LocC lo w (.returned (.slice P9 (t.1++ll).length e9)) w9:=by rw[HE.out];exact⟨_,_,rfl,hc9,Wg.keep hi9 (Wf.refl _ _) (fun k hk=>And.intro (Nat.le_trans hsz9 hk.1) hk.2),Wa (Wi HBW.out.drew _) hb9⟩
    have HFIN:=hD hfin;clear hfin hsz9 hi9 hb9 hc9;rw[List.length_append]at HFIN;go_wp2;go_ret;exact HFIN.out
end Go.Proofs.YtepgopnnaeoolaaGreatDoor
