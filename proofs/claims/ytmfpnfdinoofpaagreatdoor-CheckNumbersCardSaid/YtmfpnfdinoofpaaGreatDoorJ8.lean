/- A part of the proof. -/
import Derived.Test.YtmfpnfdinoofpaaGreatDoorJ6
import Derived.Lib.AppendZerosOnto
import Derived.Test.YtmfpnfdinoofpaaGreatDoorJ7
import Derived.Test.YtmfpnfdinoofpaaGreatDoorJ5
import Derived.Lib.ConvBytes
namespace Go.Proofs.YtmfpnfdinoofpaaGreatDoor
section
open Go.RowKit
set_option maxHeartbeats 4000000
set_option maxRecDepth 100000
def GrowPost (w:World) (e:Ending) (w':World):Prop:=∃ v,e=.returned v∧w'.ownsRow 0 3 1 v 0 []∧(∀ g,v.ownBlock=some g→w.heap.size≤g)∧Below w.heap.size w w'
theorem grow_any (w:World) (n:Nat) (hn:n≤1000000):Calls Tryz.prog 142 #[.slice none 0 0,.int .i64 (n:Int)] w (GrowPost w):=by
 have h1:decide ((n:Int)<0)=false:=by simp
 have h2:IntKind.i64.wrap ((n:Int) - 0)=(n:Int):=by rw[Int.sub_zero];exact IntWalk.i64_in _ (by omega)
 have h2':IntKind.i64.wrap (n:Int)=(n:Int):=IntWalk.i64_in _ (by omega);rcases Nat.eq_zero_or_pos n with h0|h0
 ·subst h0;go_enter Tryz.func142,Tryz.ntmps142;go_wp2;go_ret;exact⟨_,rfl,World.ownsRow_nil _ _ _ _,(fun g h=>by cases h),bR _ _⟩
 ·have h3:decide ((0:Int)<(n:Int))=true:=by simp;omega
  obtain⟨i0,hi,hz0,hz1,hz2⟩:=info_parts Tryz.infoInt;have hG:=grownCap_ge w n 0 3;have hG2:=grownCap_le_maxLen w n 0 3 (by unfold maxLen;omega);obtain⟨Z,hZ⟩:∃ Z,Z=Builtin.zeroCells (Value.int .i64 0).cells n++Builtin.zeroCells (Value.int .i64 0).cells (grownCap w n 0 3 - n):=⟨_,rfl⟩;have hZs:Z.size=grownCap w n 0 3:=by rw[hZ];simp[Builtin.zeroCells,Value.cells];omega
  obtain⟨W2,hW2⟩:∃ W2,W2=w.drew.alloc (.cells Z 3):=⟨_,rfl⟩;have hrz:∀ ty,(Builtin.append_ #[23,3] ty #[.slice none 0 0,.int .i64 (n:Int)]).run Tryz.prog w=.ok (.slice (some ⟨w.heap.size,0,none⟩) n (grownCap w n 0 3)) W2:=fun ty=>by
   have h:=Lib.run_append_grow_zeros (P:=Tryz.prog) w 23 3 ty 3 i0 (.int .i64 0) .i64 .i64 Tryz.underlying23 Tryz.underlying3 hi hz0 none 0 0 [] (run_firstCells_none w.drew i0.size 0 0 0) n (by omega) (by rw[hz1];decide) (by omega) (by omega) (by rw[hz2];omega) (by rw[Nat.zero_add];exact growslice_fits (by omega) (by rw[hz2];omega));rw[Nat.zero_add]at h;rw[hW2,hZ];simpa using h
  obtain⟨G,hGe⟩:∃ G,G=grownCap w n 0 3:=⟨_,rfl⟩;rw[← hGe]at hrz hG hG2 hZs;have key:∀ (x:World) (cs:Array Value),(x.alloc (.cells cs 3)).heap[x.heap.size]?=some (.cells cs 3 (0,0)):=fun x cs=>by simp[World.alloc,-World.alloc_eq]
  have hown:W2.ownsRow 0 3 1 (.slice (some ⟨w.heap.size,0,none⟩) 0 G) 0 [] :=
   ⟨rfl,.inr ⟨w.heap.size,G,Z,rfl,nZ _,by rw[hW2];exact key w.drew Z,nZ _,hG2,by rw[hZs,Nat.mul_one],by simp⟩⟩
  have hb:Below w.heap.size w W2:=by rw[hW2];exact(bR w.heap.size w).drew.alloc (nR _) _
  have HO:=hD hown;have HB:=hD hb;clear hown hb hGe hi hz0 hz1 hz2 hZ hW2 hZs key;go_enter Tryz.func142,Tryz.ntmps142;unfold maxLen at hG2;go_wp2_with (at_builtin;refine Lib.wpList_append_run _ rfl _ _ _ _ rfl _ _ rfl rfl _ _ (hrz _) ?_)
  go_ret;exact⟨_,rfl,HO.out,fun g hg=>by
   have e:some w.heap.size=some g:=hg;simp only[Option.some.injEq]at e;omega,HB.out⟩
def OwnI (W wr:World) (v:Value) (q:List Int):Prop:=(∃ A c,v=.slice A q.length c)∧wr.ownsRow 0 3 1 v q.length (q.map (Value.int .i64))∧(∀ g,v.ownBlock=some g→W.heap.size≤g)∧Below W.heap.size W wr
theorem OwnI.push {W wr w':World} {v v':Value} {q more:List Int} (h:OwnI W wr v q) {m:Nat} {xs:List Value} (ho:w'.ownsRow 0 3 1 v' m xs) (hm:m=(q++more).length) (hx:xs=(q++more).map (Value.int .i64)) (hg:wr.grownBy w' v.ownBlock) (hat:v'.ownBlock=v.ownBlock∨v'.ownBlock=some wr.heap.size):OwnI W w' v' (q++more):=by
 subst hm hx;refine⟨Wy ho,ho,fun g hg'=>?_,h.2.2.2.grown hg h.2.2.2.size h.2.2.1⟩;rcases hat with h1|h1
 ·exact h.2.2.1 g (h1 ▸ hg')
 ·have:=h1.symm.trans hg';simp only[Option.some.injEq]at this;have:=h.2.2.2.size;omega
def LocC (l:List Int) (w:World) (e:Ending) (w':World):Prop:=∃ A c,e=.returned (.slice A l.length c)∧l.length≤c∧Wf (fun k=>w.heap.size≤k∧k<w'.heap.size) w' (.slice A l.length c) l∧Below w.heap.size w w'
theorem OwnI.loc {W wr:World} {v:Value} {q:List Int} (h:OwnI W wr v q) (hl:q.length≤1000000):LocC q W (.returned v) wr:=by
 obtain⟨⟨A,c,rfl⟩,ho,hn,hb⟩:=h;refine⟨A,c,rfl,?_,owns_new (w:=W) ho rfl rfl hl hn,hb⟩;rcases ho.2 with ⟨he,h0⟩|⟨g,cap,cur,he,_,_,h3,_⟩
 ·omega
 ·simp only[vI]at he;omega
theorem LocC.nil {w w':World} (hb:Below w.heap.size w w'):LocC [] w (.returned (.slice none 0 0)) w':=⟨none,0,rfl,nR _,Wf.nil _ _,hb⟩
theorem concat_any (w:World) (g:Nat) (v1 v2:Value) (l1 l2:List Int) (k0:w.cell? ⟨g,0,none⟩=some v1) (k1:w.cell? ⟨g,1,none⟩=some v2) (h1:Wf (fun k=>k<w.heap.size) w v1 l1) (h2:Wf (fun k=>k<w.heap.size) w v2 l2) (hl1:l1.length≤100000) (hl2:l2.length≤100000) :
 Calls Tryz.prog 92 #[.slice (some ⟨g,0,none⟩) 2 2] w (LocC (l1++l2) w):=by
 have HN1:=hD (fun wz (hb:Below w.heap.size w wz)=>(h1.keep (K':=fun k=>k<wz.heap.size) (We.below hb fun _ hk=>hk) fun _ hk=>Ve hk hb.size).news);have HN2:=hD (fun wz (hb:Below w.heap.size w wz)=>(h2.keep (K':=fun k=>k<wz.heap.size) (We.below hb fun _ hk=>hk) fun _ hk=>Ve hk hb.size).news);obtain⟨A1,c1,hv1,_,_⟩:=h1.form;obtain⟨A2,c2,hv2,_,_⟩:=h2.form;rw[hv1]at HN1 k0;rw[hv2]at HN2 k1;clear h1 h2 hv1 hv2;obtain⟨n1,hn1⟩:∃ n,l1.length=n:=⟨_,rfl⟩;obtain⟨n2,hn2⟩:∃ n,l2.length=n:=⟨_,rfl⟩;rw[hn1]at HN1 k0 hl1;rw[hn2]at HN2 k1 hl2;have HL1:=hD hn1;have HL2:=hD hn2;clear hn1 hn2;have e1:IntKind.i64.wrap (0+(n1:Int))=(n1:Int):=by rw[Int.zero_add];exact IntWalk.i64_in _ (by omega)
 have e1':IntKind.i64.wrap (n1:Int)=(n1:Int):=IntWalk.i64_in _ (by omega);have e2:IntKind.i64.wrap ((n1:Int)+(n2:Int))=((n1+n2:Nat):Int):=by rw[show(n1:Int)+(n2:Int)=((n1+n2:Nat):Int) by omega];exact IntWalk.i64_in _ (by omega)
 have HG:=hD (fun wz=>grow_any wz (n1+n2) (by omega));obtain⟨n3,hn3⟩:∃ n,n1+n2=n:=⟨_,rfl⟩;rw[hn3]at e2 HG;have HN3:=hD hn3;clear hn3;have d1:decide ((n1:Int)<0)=false:=by simp
 have d3:decide ((n3:Int)<0)=false:=by simp
 have hkg:=wL _ _ k0;have HK:=hD (fun wz (hb:Below w.heap.size w wz)=>And.intro ((hb.cell (p:=⟨g,0,none⟩) hkg).trans k0) ((hb.cell (p:=⟨g,1,none⟩) hkg).trans k1));go_enter Tryz.func92,Tryz.ntmps92;go_wp2_with fail
 go_loopw [3,11] (fun sz i wr=>wr=w∧((i=.int .i64 0∧sz=.int .i64 0)∨(i=.int .i64 1∧sz=.int .i64 (n1:Int))∨(i=.int .i64 2∧sz=.int .i64 (n3:Int)))) (fun _ i _=>2 - (intOf i).toNat)
 case atStart=>exact⟨rfl,.inl ⟨rfl,rfl⟩⟩
 case round =>
  obtain⟨rfl,hrel⟩:=hrel;rcases hrel with ⟨rfl,rfl⟩|⟨rfl,rfl⟩|⟨rfl,rfl⟩
  ·go_wp2;go_roundw
   case rel=>exact⟨by trivial,.inr (.inl ⟨rfl,rfl⟩)⟩
   case measure=>simp[intOf]
  ·go_wp2;go_roundw
   case rel=>exact⟨by trivial,.inr (.inr ⟨rfl,rfl⟩)⟩
   case measure=>simp[intOf]
  ·obtain⟨w0,rfl⟩:∃ w0,w0=wr:=⟨_,rfl⟩;clear e1 e1' e2 d1 d3;go_wp2_with fail
   go_at_call 142;refine(HG.out w0).mono ?_;rintro e w1 ⟨v,rfl,ho,hnw,hb⟩;obtain⟨B1,b1,rfl⟩:=Wy ho;have HO:Hid (OwnI w0 w1 (.slice B1 0 b1) []):=hD ⟨⟨_,_,rfl⟩,ho,hnw,hb⟩;clear ho hnw hb k0 k1;go_wp2_with fail
   go_loopw [6,27] (fun nv i wr=>∃ (k:Nat) (q:List Int) (A:Option Addr) (c:Nat),i=.int .i64 (k:Int)∧((k=0∧q=[])∨(k=1∧q=l1)∨(k=2∧q=l1++l2))∧nv=.slice A q.length c∧Hid (OwnI w0 wr (.slice A q.length c) q)) (fun _ i _=>2 - (intOf i).toNat)
   case atStart=>exact⟨0,[],B1,b1,rfl,.inl ⟨rfl,rfl⟩,rfl,HO⟩
   case round =>
    obtain⟨k,q,A,c,rfl,hq,rfl,HQ⟩:=hrel;obtain⟨k0,k1⟩:=HK.out _ HQ.out.2.2.2;obtain⟨w2,rfl⟩:∃ w2,w2=wr:=⟨_,rfl⟩;rcases hq with ⟨rfl,rfl⟩|⟨rfl,rfl⟩|⟨rfl,rfl⟩
    ·simp only[List.length_nil]at HQ ⊢;go_wp2_with (at_builtin;refine WE rfl (.tmp 31) (.tmp 32) 23 3 rfl _ 1 8 Tryz.underlying23 Tryz.infoInt rfl (by decide) (by decide) (.slice A 0 c) 0 [] (by rfl) HQ.out.2.1 _ n1 (l1.map (Value.int .i64)) (by rfl) (by rw[List.length_map,HL1.out,Nat.mul_one]) (HN1.out _ HQ.out.2.2.2) (UR _) (by omega) ?_;intro v3 w3 ho3 hg3 hat3;obtain⟨B3,b3,rfl⟩:=Wy ho3)
     have HP:=hD (HQ.out.push (more:=l1) ho3 (by rw[List.nil_append,HL1.out];omega) (by rw[List.nil_append];rfl) hg3 hat3);rw[List.nil_append]at HP;clear ho3 hg3 hat3;go_roundw
     case rel=>exact⟨1,l1,B3,b3,by go_num,.inr (.inl ⟨rfl,rfl⟩),by rw[HL1.out],by rw[HL1.out];first|exact HP|(rw[Nat.zero_add]at HP;exact HP)⟩
     case measure=>simp[intOf]
    ·rw[HL1.out]at HQ ⊢;go_wp2_with (at_builtin;refine WE rfl (.tmp 31) (.tmp 32) 23 3 rfl _ 1 8 Tryz.underlying23 Tryz.infoInt rfl (by decide) (by decide) (.slice A n1 c) n1 (q.map (Value.int .i64)) (by rfl) (by have h:=HQ.out.2.1;rw[HL1.out]at h;exact h) _ n2 (l2.map (Value.int .i64)) (by rfl) (by rw[List.length_map,HL2.out,Nat.mul_one]) (HN2.out _ HQ.out.2.2.2) (UR _) (by omega) ?_;intro v3 w3 ho3 hg3 hat3;obtain⟨B3,b3,rfl⟩:=Wy ho3)
     have HP:=hD (HQ.out.push (more:=l2) ho3 (by rw[List.length_append,HL1.out,HL2.out]) (by rw[List.map_append]) hg3 hat3);clear ho3 hg3 hat3;go_roundw
     case rel=>exact⟨2,q++l2,B3,b3,by go_num,.inr (.inr ⟨rfl,rfl⟩),by rw[List.length_append,HL1.out,HL2.out],by rw[List.length_append,HL1.out,HL2.out];exact HP⟩
     case measure=>simp[intOf]
    ·have HF:=hD (HQ.out.loc (by rw[List.length_append,HL1.out,HL2.out];omega));clear HQ;generalize (l1++l2).length=n9 at HF ⊢;go_wp2;go_ret;exact HF.out
theorem locB_none {m:Vt} {f:Int} (h:WB m f=none):locB m f=[]:=by unfold locB;rw[h]
theorem locB_imp {m:Vt} {f:Int} {t:List Int×List Int} (h:WB m f=some t) (hf:f<m.imps.length):locB m f=[]:=by unfold locB;rw[h];simp only;rw[if_pos hf]
theorem locB_fun {m:Vt} {d:Nat} {t:List Int×List Int} (h:WB m ((m.imps.length+d:Nat):Int)=some t):locB m ((m.imps.length+d:Nat):Int)=t.1++(m.funs.getD d WW).loc:=by
 unfold locB;rw[h];simp only;rw[if_neg (by omega),show(((m.imps.length+d:Nat):Int) - m.imps.length).toNat=d by omega]
theorem fsigB_some_lt {m:Vt} {f:Int} {t:List Int×List Int} (h:WB m f=some t):0≤f∧f<m.imps.length+m.funs.length:=by
 rcases(show(f<0∨(m.imps.length:Int)+m.funs.length≤f)∨(0≤f∧f<m.imps.length+m.funs.length) by omega) with h1|h1
 ·rw[fsigB_none h1]at h;cases h
 ·exact h1
theorem typeB_mem {m:Vt} {k:Int} {t:List Int×List Int} (h:Uo m k=some t):t ∈ m.types:=by
 unfold Uo at h
 split at h
 ·rename_i hk
  simp only[Option.some.injEq]at h;rw[← h];exact WA _ _ _ (by omega)
 ·cases h
theorem fsigB_mem {m:Vt} {f:Int} {t:List Int×List Int} (h:WB m f=some t):t ∈ m.types:=by
 unfold WB at h
 split at h
 ·cases h
 ·split at h
  ·exact typeB_mem h
  ·exact typeB_mem h
theorem locals_any (w:World) (v:Mv) (m:Vt) (h:W7 (fun k=>k<w.heap.size) w v m) (hs:Vq m) (f:Int) (hf : -9223372036854775808≤f∧f≤9223372036854775807) :
 Calls Tryz.prog 55 #[.agg v.cells,.int .i64 f] w (LocC (locB m f) w):=by
 have HSG:=hD (fun wz (hb:Below w.heap.size w wz)=>sig_any wz v m (h.keep (We.below hb fun _ hk=>hk) fun _ hk=>Ve hk hb.size) hs f hf);have h2:=h.funs;obtain⟨A0,c0,A1,c1,A2,c2,A3,c3,A4,c4,A5,c5,A6,c6,A7,c7,rfl⟩:=Wr h;simp only[Mv.cells]at HSG ⊢;simp only at h2;have hl1:=hs.2.1;have hl2:=hs.2.2.1;have HTY:=hD hs.2.2.2.1;have HFL:=hD hs.2.2.2.2;clear h hs;have HLN:=hD (locB_none (m:=m) (f:=f));have HLI:=hD (fun t=>locB_imp (m:=m) (f:=f) (t:=t));have HSL:=hD (fun t=>fsigB_some_lt (m:=m) (f:=f) (t:=t));have HSM:=hD (fun t=>fsigB_mem (m:=m) (f:=f) (t:=t));have HLF:=hD (fun (d:Nat) t (hd:f=((m.imps.length+d:Nat):Int)) (hsg:WB m f=some t)=>(show locB m f=t.1++(m.funs.getD d WW).loc by subst hd;exact locB_fun hsg));obtain⟨ts,hts⟩:∃ ts,WB m f=ts:=⟨_,rfl⟩;rw[hts]at HSG HLN HLI HSL HSM HLF;generalize locB m f=lo at HLN HLI HLF ⊢;generalize m.types.length=n0 at *;obtain⟨n1,hn1⟩:∃ n,m.imps.length=n:=⟨_,rfl⟩;obtain⟨n2,hn2⟩:∃ n,m.funs.length=n:=⟨_,rfl⟩;rw[hn1]at hl1 HSG HLI HSL HLF ⊢;rw[hn2]at hl2 HSG HSL ⊢;have HN2:=hD hn2;generalize m.mems.length=n3 at *;generalize m.exps.length=n5 at *;generalize m.globs.length=n4 at *;generalize m.datas.length=n6 at *;generalize m.cus.length=n7 at *;have H2:=hD h2;have hb0:=(bR w.heap.size w).alloc (nR _) (.cells #[.slice A0 n0 c0,.slice A1 n1 c1,.slice A2 n2 c2,.slice A3 n3 c3,.slice A4 n4 c4,.slice A5 n5 c5,.slice A6 n6 c6,.slice A7 n7 c7] 37);have HQ:=hD (HSG.out _ hb0);have HB0:=hD hb0;have HBX:=hD (fun wz hb=>UB w (.slice A0 n0 c0) (.slice A1 n1 c1) (.slice A2 n2 c2) (.slice A3 n3 c3) (.slice A4 n4 c4) (.slice A5 n5 c5) (.slice A6 n6 c6) (.slice A7 n7 c7) (wz:=wz) hb);clear h2 hn1 hn2 hts hb0 HSG hf;go_enter Tryz.func55,Tryz.ntmps55;go_wp2_with fail
 go_at_call 52;refine HQ.out.mono ?_;rintro e w1 ⟨p',r',rfl,hi1,hi2,hb1⟩;obtain⟨P1,e1,hq1,_,_⟩:=hi1.form;obtain⟨P2,e2,hq2,_,_⟩:=hi2.form;rw[hq1]at hi1 ⊢;rw[hq2]at hi2 ⊢;obtain⟨b0,b1,b2,_⟩:=HBX.out _ (Wb hb1 (.cells #[.slice P1 (ts.getD ([],[])).1.length e1,.slice P2 (ts.getD ([],[])).2.length e2] 40));have HB1:=hD (Wa HB0.out hb1);have HI1:=hD (hi1.keep (K':=fun k=>k<w1.heap.size) (We.refl _ _) fun k hk=>hk.elim False.elim fun h=>h.2);clear hi1 hi2 hq1 hq2 HQ hb1 HB0 HBX;cases ts with
 | none =>
  have HE:=hD (HLN.out rfl);clear HLN HLI HSL HSM HLF;simp only[Option.isSome_none,Option.getD_none,List.length_nil]at *;go_wp2;go_ret;rw[HE.out];exact LocC.nil (Wb HB1.out _)
 | some t =>
  obtain⟨hf0,hf1⟩:=HSL.out t rfl;simp only[Option.isSome_some,Option.getD_some]at *;by_cases hlt:f<n1
  ·have HE:=hD (HLI.out t rfl hlt);have d0:decide (f<(n1:Int))=true:=decide_eq_true hlt;clear HLN HLI HSL HSM HLF hlt;go_wp2;go_ret;rw[HE.out];exact LocC.nil (Wb HB1.out _)
  ·obtain⟨d,hd⟩:∃ d:Nat,f=((n1+d:Nat):Int):=⟨(f - n1).toNat,by omega⟩;have HE:=hD (HLF.out d t hd rfl);have hdn:d<n2:=by omega
   have htm:=HTY.out t (HSM.out t rfl);have hfm:=HFL.out _ (WA m.funs d WW (by rw[HN2.out];exact hdn));obtain⟨g2,o2,cc2,he,_,_⟩:=Wd.some_ H2.out (by rw[HN2.out];omega);simp only[vI]at he;obtain⟨rfl,-,rfl⟩:=he;obtain⟨u,ku,hu⟩:=Wd.at_ H2.out d 1 (by rw[HN2.out];exact hdn) (by decide);have hul:Wf (fun k=>k<w.heap.size) w u (m.funs.getD d WW).loc:=hu;generalize (m.funs.getD d WW).loc=ll at HE hul hfm;obtain⟨Al,cl,hue,_,_⟩:=hul.form;rw[hue]at ku hul;have d0:decide (f<(n1:Int))=false:=by simp;omega
   have d1:IntKind.i64.wrap (f - (n1:Int))=(d:Int):=by rw[show f - (n1:Int)=(d:Int) by omega];exact IntWalk.i64_in _ (by omega)
   have d2:(0:Int)≤(d:Int)∧(d:Int)<(n2:Int):=by omega
   generalize t.2.length=np2 at *;obtain⟨W,hW⟩:∃ W,W=w1.alloc (.cells #[.slice P1 t.1.length e1,.slice P2 np2 e2] 40):=⟨_,rfl⟩;have hbw1:Below w1.heap.size w1 W:=by rw[hW];exact(bR _ _).alloc (nR _) _
   have hk5:W.cell? ⟨w1.heap.size,0,none⟩=some (.slice P1 t.1.length e1):=by rw[hW,wN];rfl
   have b1':=b1;have b2':=b2;rw[← hW]at b1' b2';have kul:W.cell? ⟨g2,o2+d * 3+1,none⟩=some (.slice Al ll.length cl):=((Wa HB1.out hbw1).cell (p:=⟨g2,o2+d * 3+1,none⟩) (wL _ _ ku)).trans ku;have HBW:=hD (Wa HB1.out hbw1);obtain⟨n8,hn8⟩:∃ n,t.1.length=n:=⟨_,rfl⟩;obtain⟨n9,hn9⟩:∃ n,ll.length=n:=⟨_,rfl⟩;have HCC:=hD (concat_any (W.drew.alloc (.cells #[.slice P1 t.1.length e1,.slice Al ll.length cl] 23)) W.heap.size (.slice P1 t.1.length e1) (.slice Al ll.length cl) t.1 ll (by exact wN W.drew _ _ 0) (by exact wN W.drew _ _ 1)
    (HI1.out.keep (We.below ((Wb hbw1.drew _)) fun _ hk=>hk) fun k hk=>Ve hk (Wb hbw1.drew _).size)
    (hul.keep (We.below (Wb HBW.out.drew _) fun _ hk=>hk) fun k hk=>Ve hk (Wb HBW.out.drew _).size) htm.1 hfm)
   rw[hn8]at HCC hk5;rw[hn9]at HCC kul;rw[hn8]at hW b1 b2 ⊢;have HF:Hid (∀ wz,Below W.drew.heap.size W.drew wz→wz.cell? ⟨w.heap.size,1,none⟩=some (.slice A1 n1 c1)∧wz.cell? ⟨w.heap.size,2,none⟩=some (.slice (some ⟨g2,o2,none⟩) n2 c2)∧wz.cell? ⟨w1.heap.size,0,none⟩=some (.slice P1 n8 e1)∧wz.cell? ⟨g2,o2+d * 3+1,none⟩=some (.slice Al n9 cl)):=hD fun wz hb =>
    ⟨(hb.cell (p:=⟨w.heap.size,1,none⟩) (wL _ _ b1')).trans b1',(hb.cell (p:=⟨w.heap.size,2,none⟩) (wL _ _ b2')).trans b2',(hb.cell (p:=⟨w1.heap.size,0,none⟩) (wL _ _ hk5)).trans hk5,(hb.cell (p:=⟨g2,o2+d * 3+1,none⟩) (wL _ _ kul)).trans kul⟩
   clear HLN HLI HSL HSM HLF hlt hd H2 ku hul hu hue hbw1 htm hfm HTY HFL hn8 hn9 HI1 hf0 hf1 b0
   go_upto_region 4 with (fail)
   rw[← hW];clear hW;go_wp2_with fail
   go_region_held3 (fun w'=>w'.cell? ⟨w.heap.size,1,none⟩=some (.slice A1 n1 c1)∧w'.cell? ⟨w.heap.size,2,none⟩=some (.slice (some ⟨g2,o2,none⟩) n2 c2)∧w'.cell? ⟨w1.heap.size,0,none⟩=some (.slice P1 n8 e1)∧w'.cell? ⟨g2,o2+d * 3+1,none⟩=some (.slice Al n9 cl))
    (first|exact HF.out _ (Wb (bR _ _) _)|exact HF.out _ (Wa (Wb (bR _ _) _) hb9)|go_keep)
    ((go_at_call 92;refine HCC.out.mono ?_;rintro e w9 ⟨P9,e9,rfl,hc9,hi9,hb9⟩))
   all_goals
    have hsz9:=(Wb (o:=.cells #[.slice P1 n8 e1,.slice Al n9 cl] 23) HBW.out.drew).size;have hfin:LocC lo w (.returned (.slice P9 (t.1++ll).length e9)) w9:=by rw[HE.out];exact⟨_,_,rfl,hc9,Wf.keep hi9 (We.refl _ _) (fun k hk=>And.intro (Nat.le_trans hsz9 hk.1) hk.2),Wa (Wb HBW.out.drew _) hb9⟩
    have HFIN:=hD hfin;clear hfin hsz9 hi9 hb9 hc9;rw[List.length_append]at HFIN;go_wp2;go_ret;exact HFIN.out
end
section
open Go.RowKit
theorem Zc2 {P:Prop}(h:P:=by
 rw[show WF op=false from decide_eq_false (by omega)];go_enter Tryz.func87,Tryz.ntmps87;go_wp2;go_ret;exact⟨rfl,rfl⟩):P:=h
theorem WD (op:Int) (w:World) :
 Calls Tryz.prog 138 #[.int .i64 op] w fun e w'=>e=.returned (.int .i64 (WZ op))∧w=w':=by
 rcases const_ways op with rfl|rfl|rfl|⟨h,e1,e2,e3⟩
 case inr.inr.inr =>
  rw[h];go_enter Tryz.func138,Tryz.ntmps138;go_wp2;go_ret;exact⟨rfl,rfl⟩
 all_goals
  go_enter Tryz.func138,Tryz.ntmps138;go_wp2;go_ret;exact⟨rfl,rfl⟩
theorem Wl (op:Int) (w:World) :
 Calls Tryz.prog 87 #[.int .i64 op] w fun e w'=>e=.returned (.bool (WF op))∧w=w':=by
 by_cases c:op<2
 ·exact Zc2
 ·by_cases d:op≤4
  ·rw[show WF op=true from decide_eq_true (by omega)];go_enter Tryz.func87,Tryz.ntmps87;go_wp2;go_ret;exact⟨rfl,rfl⟩
  ·exact Zc2
end
section
open Go.RowKit
structure Pl where
 s:List Int
 f:List Fr
def fr0:Fr:=⟨0,[],[],0,false⟩
def WT (f:List Fr):Fr:=f.getD (f.length - 1) fr0
def UE (t want:Int):Bool:=t==want || t==0
def Vm (h:Nat) (dead:Bool) (s q:List Int):Bool:=(List.range q.length).all fun k=>if s.length+k<h+q.length then dead else UE (s.getD (s.length+k - q.length) 0) (q.getD k 0)
def WI (p:Pl) (q:List Int):Option Pl:=if Vm (WT p.f).h (WT p.f).dead p.s q then some ⟨p.s.take (max (p.s.length - q.length) (WT p.f).h),p.f⟩ else none
def Vg (p:Pl) (q:List Int):Pl:=⟨p.s++q,p.f⟩
def WY (p:Pl) (op:Int) (ps rs:List Int):Pl:=⟨p.s++ps,p.f++[⟨op,ps,rs,p.s.length,false⟩]⟩
def VT (p:Pl):Option (Fr×Pl):=(WI p (WT p.f).rs).bind fun p1=>if p1.s.length≤(WT p.f).h then some (WT p.f,⟨p1.s,p.f.take (p.f.length - 1)⟩) else none
def VP (p:Pl):Pl:=⟨p.s.take (WT p.f).h,p.f.set (p.f.length - 1) { WT p.f with dead:=true }⟩
def Vo (p:Pl) (q:List Int):Option Pl:=(WI p q).map VP
def UD (p:Pl):Option (Int×Pl):=if p.s.length≤(WT p.f).h then (if (WT p.f).dead then some (0,p) else none) else some (p.s.getD (p.s.length - 1) 0,⟨p.s.take (p.s.length - 1),p.f⟩)
def Ww (p:Pl) (n:Nat):List Int:=if (p.f.getD (p.f.length - 1 - n) fr0).op=3 then (p.f.getD (p.f.length - 1 - n) fr0).ps else (p.f.getD (p.f.length - 1 - n) fr0).rs
def Wi (n:Int) (l:Nat):Bool:=decide (0≤n) && decide (n<(l:Int))
structure U5 where
 m:Vt
 prof:Int
 lo:List Int
 ro:List Int
def richI (x:Vl):Bool:=richB x.op || (WF x.op && decide (0≤x.a))
def Vc (p:Pl) (op:Int):Bool:=if p.f.length=0 then false else if op=5 then decide ((WT p.f).op=4) else W9 op
def Wo (e:U5) (p:Pl) (x:Vl):Bool :=
 if x.op=2∨x.op=3∨x.op=4 then (Wv e.m x.a).isSome
 else if x.op=12∨x.op=13 then Wi x.a p.f.length
 else if x.op=14 then x.l.all (fun n=>Wi n p.f.length) && decide (0<x.l.length)
 else if x.op=16∨x.op=18 then (WB e.m x.a).isSome
 else if x.op=32∨x.op=33∨x.op=34 then Wi x.a e.lo.length
 else if x.op=35∨x.op=36 then Wi x.a e.m.globs.length
 else if x.op=63∨x.op=64∨x.op=64523 then Wi x.a e.m.mems.length
 else if x.op=64520 then Wi x.a e.m.mems.length && Wi x.b e.m.datas.length
 else if x.op=64522 then Wi x.a e.m.mems.length && Wi x.b e.m.mems.length
 else if x.op=64521 then Wi x.a e.m.datas.length
 else !(WK x.op).2.2.2 || Wi x.a e.m.mems.length
def V0 (op:Int):List Int×List Int :=
 if WZ op≠0 then ([],[WZ op]) else if WS op then (Vw op,Vf op)
 else if (WK op).2.2.2 then (if 54≤op then ([127,(WK op).2.1],[]) else ([127],[(WK op).2.1])) else ([],[])
def glob0:Int×Bool×Int:=(0,false,0)
def Vi (e:U5) (p:Pl) (x:Vl):List Int×List Int :=
 if x.op=13 then (Ww p x.a.toNat++[127],Ww p x.a.toNat)
 else if x.op=16 then (WB e.m x.a).getD ([],[])
 else if x.op=32 then ([],[e.lo.getD x.a.toNat 0])
 else if x.op=33 then ([e.lo.getD x.a.toNat 0],[])
 else if x.op=34 then ([e.lo.getD x.a.toNat 0],[e.lo.getD x.a.toNat 0])
 else if x.op=35 then ([],[(e.m.globs.getD x.a.toNat glob0).1])
 else if x.op=63 then ([],[127])
 else if x.op=64 then ([127],[127])
 else if x.op=64520∨x.op=64522∨x.op=64523 then ([127,127,127],[])
 else V0 x.op
def openC (e:U5) (p:Pl) (x:Vl):Option Pl :=
 (if x.op=4 then WI p [127] else some p).bind fun p1=>(WI p1 ((Wv e.m x.a).getD ([],[])).1).map fun p2=>WY p2 x.op ((Wv e.m x.a).getD ([],[])).1 ((Wv e.m x.a).getD ([],[])).2
def divideC (p:Pl):Option Pl:=(VT p).map fun q=>WY q.2 5 q.1.ps q.1.rs
def closeC (p:Pl):Option Pl:=(VT p).bind fun q=>if q.1.op=4∧q.1.ps≠q.1.rs then none else some (Vg q.2 q.1.rs)
def Uw (p:Pl) (l:List Int):Option Pl:=(WI p [127]).bind fun p1 =>
 if l.all (fun n=>(Ww p1 n.toNat).length==(Ww p1 (l.getD (l.length - 1) 0).toNat).length && Vm (WT p1.f).h (WT p1.f).dead p1.s (Ww p1 n.toNat)) then Vo p1 (Ww p1 (l.getD (l.length - 1) 0).toNat) else none
def Uu (p:Pl):Option Pl:=(WI p [127]).bind fun p1=>(UD p1).bind fun u=>(UD u.2).bind fun l=>if UE l.1 u.1 then some (Vg l.2 [u.1]) else none
def Wu (e:U5) (p:Pl) (x:Vl):Option Pl :=
 if x.op=2∨x.op=3∨x.op=4 then openC e p x
 else if x.op=5 then divideC p
 else if x.op=11 then closeC p
 else if x.op=0 then Vo p []
 else if x.op=12 then Vo p (Ww p x.a.toNat)
 else if x.op=14 then Uw p x.l
 else if x.op=15 then Vo p e.ro
 else if x.op=18 then (if ((WB e.m x.a).getD ([],[])).2=e.ro then Vo p ((WB e.m x.a).getD ([],[])).1 else none)
 else if x.op=26 then (UD p).map fun q=>q.2
 else if x.op=27 then Uu p
 else if x.op=36 then (if (e.m.globs.getD x.a.toNat glob0).2.1 then WI p [(e.m.globs.getD x.a.toNat glob0).1] else none)
 else (WI p (Vi e p x).1).map fun q=>Vg q (Vi e p x).2
def Vr (e:U5) (p:Pl) (x:Vl):Int×Pl :=
 if Vc p x.op=false then (12,p)
 else if e.prof=1∧richI x=true then (24,p)
 else if Wo e p x=false then (23,p)
 else match Wu e p x with
  | none=>(14,p)
  | some q=>(0,q)
def walkC (e:U5):List Vl→Nat→Pl→Int×Int
 | [],_,p=>if 0<p.f.length then (-1,12) else (-1,0)
 | x :: l,k,p=>if (Vr e p x).1=0 then walkC e l (k+1) (Vr e p x).2 else ((k:Int),(Vr e p x).1)
def UI (m:Vt) (f:Nat) (prof:Int):U5:=⟨m,prof,locB m ((m.imps.length:Int)+f),((WB m ((m.imps.length:Int)+f)).getD ([],[])).2⟩
def Uq (m:Vt) (f:Int) (prof:Int):Int×Int :=
 if Wi f m.funs.length=false then (-1,1)
 else if (WB m ((m.imps.length:Int)+f)).isSome=false then (-1,23)
 else walkC (UI m f.toNat prof) (m.funs.getD f.toNat WW).code 0 (WY ⟨[],[]⟩ 2 [] (UI m f.toNat prof).ro)
end
section
open Go.RowKit
section
variable {P:Program} {md:Region.Mode} {ops:Array Oper} {Q:Exit→Act→World→Prop} {S:World→Prop} {X:Nat}
theorem Wm.tk (i d:Nat) {o1:Op} {o2:TypeId} {o3:String} {o4:Array Edge} {o5:Option (Nat×Bool)} {n:Nat} {v:Value} {L l2:Array Bool} {a a2:Act} {w:World} (hi:ops[i]?=some ⟨some d,o1,o2,o3,o4,o5⟩) (hS:S w)
 (h:Wm P md ops Q S X n l2 a2 w) (hw:Region.wanted ⟨some d,o1,o2,o3,o4,o5⟩ (yielded ops a.tmps)=true:=by rfl) (hy:∀ w',S w'→(execOp a.eval ⟨some d,o1,o2,o3,o4,o5⟩).run P w'=.ok (.value v) w':=by intro w' hSw;go_simp;try with_reducible rfl)
 (hl:L.setIfInBounds i true=l2:=by simp only[List.setIfInBounds_toArray,List.set] <;> rfl) (ha:a.put (some d) v=a2:=by simp only[Act.put,List.setIfInBounds_toArray,List.set] <;> rfl)
 (hs:Region.noSelect ops=true:=by kernel_rfl) (hf:Region.free md ops L i=true:=by kernel_rfl) (hr:(Region.ready md ops L).contains i=true:=by kernel_rfl) (hX:waits md ops X i=true:=by kernel_rfl)
 (hQ:∀ c a w,Q (.panic c) (a.put (some d) v) w→Q (.panic c) a w:=by exact fun _ _ _ h=>h):Wm P md ops Q S X (n+1) L a w:=Wm.take hi hs hf hr hX hQ (.inl ⟨hw,hy⟩) hS (by rw[hl,ha];exact h)
theorem Wm.om (i d:Nat) {o1:Op} {o2:TypeId} {o3:String} {o4:Array Edge} {o5:Option (Nat×Bool)} {n:Nat} {L:Array Bool} {a:Act} {w:World} (ho:ops[i]?=some ⟨some d,o1,o2,o3,o4,o5⟩)
 (h:∀ K:Act→World→Prop,Hid (∀ a w,(i=X∨S w)→Wm P md ops Q S X n (L.setIfInBounds i true) a w→K a w)→if Region.wanted ⟨some d,o1,o2,o3,o4,o5⟩ (yielded ops a.tmps)=true then Oper.wp P ⟨some d,o1,o2,o3,o4,o5⟩ a w K Q else K (a.put (some d) undef) w)
 (hr:Region.ready md ops L=[i]:=by kernel_rfl):Wm P md ops Q S X (n+1) L a w:=.one hr (.mk ho h)
theorem Wm.on (i:Nat) {o1:Op} {o2:TypeId} {o3:String} {o4:Array Edge} {o5:Option (Nat×Bool)} {n:Nat} {L:Array Bool} {a:Act} {w:World} (ho:ops[i]?=some ⟨none,o1,o2,o3,o4,o5⟩)
 (h:∀ K:Act→World→Prop,Hid (∀ a w,(i=X∨S w)→Wm P md ops Q S X n (L.setIfInBounds i true) a w→K a w)→if Region.wanted ⟨none,o1,o2,o3,o4,o5⟩ (yielded ops a.tmps)=true then Oper.wp P ⟨none,o1,o2,o3,o4,o5⟩ a w K Q else K (a.put none undef) w)
 (hr:Region.ready md ops L=[i]:=by kernel_rfl):Wm P md ops Q S X (n+1) L a w:=.one hr (.mk ho h)
theorem Comes.m (d:Nat) {o1:Op} {o2:TypeId} {o3:String} {o4:Array Edge} {o5:Option (Nat×Bool)} {i n:Nat} {L:Array Bool} {a:Act} {w:World} (ho:ops[i]?=some ⟨some d,o1,o2,o3,o4,o5⟩)
 (h:∀ K:Act→World→Prop,Hid (∀ a w,(i=X∨S w)→Wm P md ops Q S X n (L.setIfInBounds i true) a w→K a w)→if Region.wanted ⟨some d,o1,o2,o3,o4,o5⟩ (yielded ops a.tmps)=true then Oper.wp P ⟨some d,o1,o2,o3,o4,o5⟩ a w K Q else K (a.put (some d) undef) w):Comes P md ops Q S X n L a w i:=.mk ho h
theorem Comes.n {o1:Op} {o2:TypeId} {o3:String} {o4:Array Edge} {o5:Option (Nat×Bool)} {i n:Nat} {L:Array Bool} {a:Act} {w:World} (ho:ops[i]?=some ⟨none,o1,o2,o3,o4,o5⟩)
 (h:∀ K:Act→World→Prop,Hid (∀ a w,(i=X∨S w)→Wm P md ops Q S X n (L.setIfInBounds i true) a w→K a w)→if Region.wanted ⟨none,o1,o2,o3,o4,o5⟩ (yielded ops a.tmps)=true then Oper.wp P ⟨none,o1,o2,o3,o4,o5⟩ a w K Q else K (a.put none undef) w):Comes P md ops Q S X n L a w i:=.mk ho h
end
end
section
open Go.RowKit
section
variable {P:Program} {ops:Array Oper} {Q:Exit→Act→World→Prop} {md:Region.Mode}
theorem undone_lt {L:Array Bool} {i:Nat} (h:L.getD i true=false):i<L.size:=by
 rcases Nat.lt_or_ge i L.size with h1|h1
 ·exact h1
 ·rw[Array.getD_eq_getD_getElem?,Array.getElem?_eq_none h1]at h;cases h
def undone (L:Array Bool):Nat:=(List.range L.size).countP fun j=>!(L.getD j true)
theorem undone_set {L:Array Bool} {i:Nat} (h:L.getD i true=false):undone (L.setIfInBounds i true)<undone L:=by
 have hi:=undone_lt h;unfold undone;rw[Array.size_setIfInBounds];have h1:∀ (l:List Nat),l.countP (fun j=>!((L.setIfInBounds i true).getD j true))≤l.countP (fun j=>!(L.getD j true))∧(i ∈ l→l.countP (fun j=>!((L.setIfInBounds i true).getD j true))<l.countP (fun j=>!(L.getD j true))):=by
  intro l;induction l with
  | nil=>exact⟨nR _,fun h=>by cases h⟩
  | cons j l ih =>
   rw[List.countP_cons,List.countP_cons];by_cases hj:i=j
   ·subst hj;have e1:(L.setIfInBounds i true).getD i true=true:=by simp[Array.getD_eq_getD_getElem?,hi]
    rw[e1,h];have:=ih.1;exact⟨by show _+0≤_+1;omega,fun _=>by show _+0<_+1;omega⟩
   ·have e1:(L.setIfInBounds i true).getD j true=L.getD j true:=by simp[Array.getD_eq_getD_getElem?,hj]
    rw[e1];exact⟨by have:=ih.1;omega,fun hm=>by rcases List.mem_cons.1 hm with h2|h2;exact absurd h2 hj;have:=ih.2 h2;omega⟩
 exact(h1 _).2 (List.mem_range.2 hi)
theorem undone_pos {L:Array Bool} {i:Nat} (h:L.getD i true=false):0<undone L:=Nat.lt_of_le_of_lt (nZ _) (undone_set h)
theorem undone_le (L:Array Bool):undone L≤L.size:=by
 unfold undone;have:=List.countP_le_length (p:=fun j=>!(L.getD j true)) (l:=List.range L.size)
 rwa [List.length_range]at this
theorem wpAny_inv {Ur:Array Bool→Act→World→Prop} (hd:∀ L a w,Ur L a w→Region.ready md ops L=[]→Q .normal a w)
 (hs:∀ L a w i,Ur L a w→i ∈ Region.ready md ops L→wpOp P ops Q i (fun a' w'=>Ur (L.setIfInBounds i true) a' w') a w) :
 ∀ (n:Nat) (L:Array Bool) (a:Act) (w:World),Ur L a w→undone L≤n→wpAny P md ops Q n L a w
 | 0,L,a,w,hI,hn=>by
  have hr:Region.ready md ops L=[]:=by
   cases hr:Region.ready md ops L with
   | nil=>rfl
   | cons i l =>
    have:=undone_pos (mem_ready.1 (show i ∈ Region.ready md ops L by rw[hr];simp)).1;omega
  exact⟨hr,hd _ _ _ hI hr⟩
 | n+1,L,a,w,hI,hn=>⟨fun hr=>hd _ _ _ hI hr,fun i hi=>wpOp_mono (fun a' w' h=>wpAny_inv hd hs n _ a' w' h (by have:=undone_set (mem_ready.1 hi).1;omega)) (hs L a w i hI hi)⟩
theorem region_inv {id:Nat} {a:Act} {w:World} (hm:P.follows .mixedOrders=true) {Ur:Array Bool→Act→World→Prop} (h0:Ur (Array.replicate ops.size false) a w.drew) (hd:∀ L a w,Ur L a w→Region.ready .any ops L=[]→Q .normal a w)
 (hs:∀ L a w i,Ur L a w→i ∈ Region.ready .any ops L→wpOp P ops Q i (fun a' w'=>Ur (L.setIfInBounds i true) a' w') a w):(Code.region id ops true).wp P Q a w :=
 wp_region_any hm (wpAny_inv hd hs _ _ _ _ h0 (by have:=undone_le (Array.replicate ops.size false);rwa [Array.size_replicate]at this))
theorem WQ {L:Array Bool} {i d:Nat} (h:i ∈ Region.ready md ops L) (hw:waits md ops i d=true):L.getD d false=true:=by
 obtain⟨_,o,ho,hall⟩:=mem_ready.1 h;unfold waits at hw;rw[ho]at hw;obtain⟨e,he,hb⟩:=Array.any_eq_true'.1 hw;rw[Bool.and_eq_true,beq_iff_eq]at hb;have:=hall e he hb.1
 rwa [hb.2]at this
def upward (md:Region.Mode) (ops:Array Oper):Bool:=(List.range ops.size).all fun i=>match ops[i]? with
 | some o=>o.after.all fun e=>!(Region.binds md e) || decide (e.on<i)
 | none=>true
theorem ready_all {L:Array Bool} (hu:upward md ops=true) (hr:Region.ready md ops L=[]) (hl:L.size=ops.size):∀ i,i<ops.size→L.getD i false=true:=by
 intro i;induction i using Nat.strongRecOn with
 | _ i ih =>
  intro hi;cases hc:L.getD i false with
  | true=>rfl
  | false =>
   have hc':L.getD i true=false:=by
    rw[Array.getD_eq_getD_getElem?,Array.getElem?_eq_getElem (by omega)]at hc ⊢;exact hc
   have ho:ops[i]?=some ops[i]:=Array.getElem?_eq_getElem hi;have hm:i ∈ Region.ready md ops L:=mem_ready.2 ⟨hc',_,ho,fun e he hb=>by
    have h1:=List.all_eq_true.1 hu i (List.mem_range.2 hi);rw[ho]at h1;have h2:=Array.all_eq_true'.1 h1 e he;rw[hb]at h2;have h3:e.on<i:=by simpa using h2
    exact ih _ h3 (by omega)⟩
   rw[hr]at hm;cases hm
theorem getD_done {L:Array Bool} {i j:Nat} (hj:(L.setIfInBounds i true).getD j false=true) (hne:j≠i):L.getD j false=true:=by
 rw[Array.getD_eq_getD_getElem?,Array.getElem?_setIfInBounds,if_neg (fun e=>hne e.symm),← Array.getD_eq_getD_getElem?]at hj;exact hj
theorem not_done {L:Array Bool} {i:Nat} (h:L.getD i true=false):L.getD i false=false:=by
 have:=undone_lt h;rw[Array.getD_eq_getD_getElem?,Array.getElem?_eq_getElem this]at h ⊢;exact h
end
def VK (s:Nat→Value) (k:Nat) (v:Value):Nat→Value:=fun j=>if j=k then v else s j
theorem slot_at (s:Nat→Value) (k:Nat) (v:Value):VK s k v k=v:=if_pos rfl
theorem slot_off (s:Nat→Value) {k j:Nat} (v:Value) (h:j≠k):VK s k v j=s j:=if_neg h
end
section
open Go.RowKit
theorem below_bytes (w:World) (e:TypeId) (s:ByteArray):Below w.heap.size w (Lib.bytesWorld w e s):=by
 unfold Lib.bytesWorld;refine Lib.below_freeze ((Wt (bR _ _) 1).alloc ?_ _) (p:=⟨w.heap.size,_,none⟩) (nR _) 1;exact nR _
theorem bytes_conv (w:World) (s:ByteArray):Bytes (Lib.bytesWorld w 5 s) (some ⟨w.heap.size,0,none⟩) (VR s):=by
 refine⟨nums_lt s,fun h=>⟨w.heap.size,0,rfl,by rw[Lib.bytesWorld_size];omega,fun j hj=>?_⟩⟩;rw[nums_length]at hj;rw[Nat.zero_add,Lib.bytesWorld_cell w _ s j hj]
 congr 2
 unfold VR;rw[Lib.size_eq,Array.length_toList]at hj;cases h2:s.data[j]? with
 | none=>rw[Array.getElem?_eq_none_iff]at h2;omega
 | some b=>simp[List.getD,h2]
theorem conv_any (w:World) (s:ByteArray):(convert 9 59 (.string s)).run Tryz.prog w=.ok (.slice (some ⟨w.heap.size,0,none⟩) s.size (grownCap w s.size 0 5)) (Lib.bytesWorld w 5 s) :=
 Lib.run_convert_string_bytes w 9 59 5 s Tryz.underlying9 Tryz.underlying59 Tryz.underlying5
end
end Go.Proofs.YtmfpnfdinoofpaaGreatDoor
