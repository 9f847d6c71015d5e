/- A part of the proof. -/
import Derived.Test.YtmfpnfdinoofpaaGreatDoorJ4
namespace Go.Proofs.YtmfpnfdinoofpaaGreatDoor
open Go.RowKit
set_option maxHeartbeats 4000000
set_option maxRecDepth 100000
theorem ZQ {P:Prop}(h:P:=by
 clear HTA HBB;go_enter Tryz.func117,Tryz.ntmps117;go_wp2;exact bodyPost_ret (v:=.tuple #[.agg #[.slice none 0 0,.slice (some ⟨w.heap.size+2,0,none⟩) 1 1],.bool true]) (by simp[results,Tryz.results117,go_sem]) rfl ⟨_,_,rfl,Wf.nil _ _,⟨_,_,rfl,by unfold maxLen;simp,(fun h=>by cases h),fun _=>⟨w.heap.size+2,0,rfl,.inr ⟨by omega,by simp⟩,fun j hj=>by
  obtain rfl:j=0:=by simp at hj;omega
  exact cell_third' w _ _ _ _ 0⟩⟩,(((bR _ _).alloc (nR _) _).alloc (by simp) _).alloc (by simp;omega) _⟩):P:=h
theorem Zbq {P:Prop}(h:P:=by
 exact⟨fun a b=>⟨(hx.far hne a b).1,(hx.far hne a b).2.1,(hx.far hne a b).2.2.1,(hx.far hne a b).2.2.2.1,(hx.far hne a b).2.2.2.2.1,(hx.far hne a b).2.2.2.2.2.1,(hx.far hne a b).2.2.2.2.2.2.1,(hx.far hne a b).2.2.2.2.2.2.2,far2 hcy hcn⟩,⟨hx.1,hx.2.1,hx.2.2.1,hx.2.2.2.1,hx.2.2.2.2.1,hx.2.2.2.2.2.1,hx.2.2.2.2.2.2.1,hx.2.2.2.2.2.2.2,hcy⟩,Ug.below (w:=W.drew) hz (by show w.heap.size+1<W.heap.size;omega) hb⟩):P:=h
theorem ZbJ {P:Prop}(h:P:=by
 clear h1 h2 hn1 hn2 hf hf0 HTA;go_enter Tryz.func52,Tryz.ntmps52;go_wp2;exact bodyPost_ret (v:=.tuple #[.agg #[.slice none 0 0,.slice none 0 0],.bool false]) (by simp[results,Tryz.results52,go_sem]) rfl ⟨_,_,rfl,Wf.nil _ _,Wf.nil _ _,((bR _ _).alloc (nR _) _).alloc (by simp) _⟩):P:=h
theorem Wr {K:Nat→Prop} {w:World} {v:Mv} {m:Vt} (h:W7 K w v m):∃ A0 c0 A1 c1 A2 c2 A3 c3 A4 c4 A5 c5 A6 c6 A7 c7,v=⟨.slice A0 m.types.length c0,.slice A1 m.imps.length c1,.slice A2 m.funs.length c2,.slice A3 m.mems.length c3,.slice A4 m.globs.length c4,.slice A5 m.exps.length c5,.slice A6 m.datas.length c6,.slice A7 m.cus.length c7⟩:=by
 obtain⟨v0,v1,v2,v3,v4,v5,v6,v7⟩:=v;obtain⟨A0,c0,h0,_⟩:=h.types;obtain⟨A1,c1,h1,_⟩:=h.imps;obtain⟨A2,c2,h2,_⟩:=h.funs;obtain⟨A3,c3,h3,_⟩:=h.mems;obtain⟨A4,c4,h4,_⟩:=h.globs;obtain⟨A5,c5,h5,_⟩:=h.exps;obtain⟨A6,c6,h6,_⟩:=h.datas;obtain⟨A7,c7,h7,_⟩:=h.cus;simp only at h0 h1 h2 h3 h4 h5 h6 h7;subst h0 h1 h2 h3 h4 h5 h6 h7;exact⟨A0,c0,A1,c1,A2,c2,A3,c3,A4,c4,A5,c5,A6,c6,A7,c7,rfl⟩
def Box8 (w':World) (B:Nat) (v0 v1 v2 v3 v4 v5 v6 v7:Value):Prop:=w'.cell? ⟨B,0,none⟩=some v0∧w'.cell? ⟨B,1,none⟩=some v1∧w'.cell? ⟨B,2,none⟩=some v2∧w'.cell? ⟨B,3,none⟩=some v3∧w'.cell? ⟨B,4,none⟩=some v4∧w'.cell? ⟨B,5,none⟩=some v5∧w'.cell? ⟨B,6,none⟩=some v6∧w'.cell? ⟨B,7,none⟩=some v7
theorem UB (w:World) (v0 v1 v2 v3 v4 v5 v6 v7:Value) {wz:World} (hb:Below (w.alloc (.cells #[v0,v1,v2,v3,v4,v5,v6,v7] 37)).heap.size (w.alloc (.cells #[v0,v1,v2,v3,v4,v5,v6,v7] 37)) wz):Box8 wz w.heap.size v0 v1 v2 v3 v4 v5 v6 v7:=by
 have h:∀ i,wz.cell? ⟨w.heap.size,i,none⟩=(#[v0,v1,v2,v3,v4,v5,v6,v7]:Array Value)[i]?:=fun i=>(hb.cell (p:=⟨w.heap.size,i,none⟩) (by simp)).trans (wN w _ _ i);exact⟨h 0,h 1,h 2,h 3,h 4,h 5,h 6,h 7⟩
theorem Vv (w:World) (v0 v1 v2 v3 v4 v5 v6 v7:Value):∃ W,W=w.alloc (.cells #[v0,v1,v2,v3,v4,v5,v6,v7] 37)∧Below w.heap.size w W∧∀ wz,Below W.heap.size W wz→Box8 wz w.heap.size v0 v1 v2 v3 v4 v5 v6 v7:=⟨_,rfl,(bR _ _).alloc (nR _) _,fun _ hz=>UB w _ _ _ _ _ _ _ _ hz⟩
theorem Box8.far {w':World} {B C:Nat} {v0 v1 v2 v3 v4 v5 v6 v7:Value} (h:Box8 w' B v0 v1 v2 v3 v4 v5 v6 v7) (hne:B≠C) (a b:Value):Box8 ((w'.setCell ⟨C,0,none⟩ a).setCell ⟨C,1,none⟩ b) B v0 v1 v2 v3 v4 v5 v6 v7 :=
 ⟨far2 h.1 hne,far2 h.2.1 hne,far2 h.2.2.1 hne,far2 h.2.2.2.1 hne,far2 h.2.2.2.2.1 hne,far2 h.2.2.2.2.2.1 hne,far2 h.2.2.2.2.2.2.1 hne,far2 h.2.2.2.2.2.2.2 hne⟩
theorem typ_fill {w W w1:World} {B:Nat} {t:Option (List Int×List Int)} {A1 A2:Option Addr} {n1 n2 e1 e2:Nat} (hW:Below w.heap.size w W) (hB:w.heap.size≤B) (hB2:B<W.heap.size) (hi1:Wf (fun k=>False∨(W.heap.size≤k∧k<w1.heap.size)) w1 (.slice A1 n1 e1) (t.getD ([],[])).1) (hi2:Wf (fun k=>False∨(W.heap.size≤k∧k<w1.heap.size)) w1 (.slice A2 n2 e2) (t.getD ([],[])).2) (hb1:Below W.heap.size W w1) :
 TypPost (fun _=>False) t w (.returned (.tuple #[.agg #[.slice A1 n1 e1,.slice A2 n2 e2],.bool t.isSome])) ((w1.setCell ⟨B,0,none⟩ (.slice A1 n1 e1)).setCell ⟨B,1,none⟩ (.slice A2 n2 e2)):=by
 have hw:((w1.setCell ⟨B,0,none⟩ (.slice A1 n1 e1)).setCell ⟨B,1,none⟩ (.slice A2 n2 e2)).heap.size=w1.heap.size:=by simp[World.setCell]
 have hws:=hW.size;refine⟨_,_,rfl,UY hi1 (fun hk=>?_) (fun k hk=>.inr ?_),UY hi2 (fun hk=>?_) (fun k hk=>.inr ?_),WL (Wa hW hb1) hB⟩
 ·rcases hk with h|h
  ·exact h
  ·omega
 ·rcases hk with h|h
  ·exact h.elim
  ·exact⟨by omega,by rw[hw];exact h.2⟩
 ·rcases hk with h|h
  ·exact h
  ·omega
 ·rcases hk with h|h
  ·exact h.elim
  ·exact⟨by omega,by rw[hw];exact h.2⟩
theorem fsigB_none {m:Vt} {f:Int} (h:f<0∨(m.imps.length:Int)+m.funs.length≤f):WB m f=none:=by unfold WB;rw[if_pos h]
theorem fsigB_imp {m:Vt} {f:Nat} (h:f<m.imps.length):WB m (f:Int)=Uo m (m.imps.getD f (ByteArray.empty,ByteArray.empty,0)).2.2:=by
 unfold WB;rw[if_neg (by omega),if_pos (by omega),Int.toNat_natCast]
theorem fsigB_fun {m:Vt} {d:Nat} (h:d<m.funs.length):WB m ((m.imps.length+d:Nat):Int)=Uo m (m.funs.getD d WW).ty:=by
 unfold WB;rw[if_neg (by omega),if_neg (by omega),show(((m.imps.length+d:Nat):Int) - m.imps.length).toNat=d by omega]
theorem Box8.below {w wz:World} {B:Nat} {v0 v1 v2 v3 v4 v5 v6 v7:Value} (h:Box8 w B v0 v1 v2 v3 v4 v5 v6 v7) (hB:B<w.heap.size) (hb:Below w.heap.size w wz):Box8 wz B v0 v1 v2 v3 v4 v5 v6 v7:=by
 have hc:∀ i,wz.cell? ⟨B,i,none⟩=w.cell? ⟨B,i,none⟩:=fun i=>hb.cell (p:=⟨B,i,none⟩) hB;unfold Box8;simp only[hc];exact h
theorem sig_any (w:World) (v:Mv) (m:Vt) (h:W7 (fun k=>k<w.heap.size) w v m) (hs:Vq m) (f:Int) (hf : -9223372036854775808≤f∧f≤9223372036854775807) :
 Calls Tryz.prog 52 #[.agg v.cells,.int .i64 f] w (TypPost (fun _=>False) (WB m f) w):=by
 have HTA:=hD (fun wz (hb:Below w.heap.size w wz) k=>typeAt_any wz v m (h.keep (We.below hb fun _ hk=>hk) fun _ hk=>Ve hk hb.size) hs k);have h1:=h.imps;have h2:=h.funs;obtain⟨A0,c0,A1,c1,A2,c2,A3,c3,A4,c4,A5,c5,A6,c6,A7,c7,rfl⟩:=Wr h;simp only[Mv.cells]at HTA ⊢;simp only at h1 h2;have hs1:=hs.2.1;have hs2:=hs.2.2.1;clear h hs;generalize m.types.length=n0 at *;obtain⟨n1,hn1⟩:∃ n,m.imps.length=n:=⟨_,rfl⟩;obtain⟨n2,hn2⟩:∃ n,m.funs.length=n:=⟨_,rfl⟩;generalize m.mems.length=n3 at *;generalize m.globs.length=n4 at *;generalize m.exps.length=n5 at *;generalize m.datas.length=n6 at *;generalize m.cus.length=n7 at *;rcases(show f<0∨(m.imps.length:Int)+m.funs.length≤f∨(0≤f∧f<m.imps.length)∨((m.imps.length:Int)≤f∧f<m.imps.length+m.funs.length) by omega) with hf0|hf0|hf0|hf0
 ·rw[fsigB_none (.inl hf0)];rw[hn1]at h1 hs1 ⊢;rw[hn2]at h2 hs2 ⊢;have d0:decide (f<0)=true:=by simp;omega
  exact ZbJ
 ·rw[fsigB_none (.inr hf0)];rw[hn1,hn2]at hf0;rw[hn1]at h1 hs1 ⊢;rw[hn2]at h2 hs2 ⊢;have d0:decide (f<0)=false:=by simp;omega
  have d1:IntKind.i64.wrap (f - (n1:Int))=f - (n1:Int):=IntWalk.i64_in _ (by omega);have d2:decide ((n2:Int)≤f - (n1:Int))=true:=by simp;omega
  exact ZbJ
 ·obtain⟨f,rfl⟩:∃ j:Nat,f=(j:Int):=⟨f.toNat,by omega⟩;rw[fsigB_imp (by omega)];have hlt:f<m.imps.length:=by omega
  obtain⟨g1,o1,cc1,he,_,_⟩:=Wd.some_ h1 (by omega);simp only[vI]at he;obtain⟨rfl,-,rfl⟩:=he;obtain⟨u,ki,hu⟩:=Wd.at_ h1 f 2 hlt (by decide);obtain rfl:u=.int .i64 (m.imps.getD f (ByteArray.empty,ByteArray.empty,0)).2.2:=hu;rw[hn1]at hlt HTA ⊢;rw[hn2]at HTA ⊢;obtain⟨k,hk⟩:∃ k,(m.imps.getD f (ByteArray.empty,ByteArray.empty,0)).2.2=k:=⟨_,rfl⟩;rw[hk]at ki ⊢;have d0:decide ((f:Int)<0)=false:=by simp
  have d1:IntKind.i64.wrap ((f:Int) - (n1:Int))=(f:Int) - (n1:Int):=IntWalk.i64_in _ (by omega);have d2:decide ((n2:Int)≤(f:Int) - (n1:Int))=false:=by simp;omega
  have d3:decide ((f:Int) - (n1:Int)<0)=true:=by simp;omega
  have d4:(0:Int)≤(f:Int)∧(f:Int)<(n1:Int):=by omega
  clear h1 h2 hn1 hn2 hf hf0 hk hs1 hs2;obtain⟨W,hW⟩:∃ W,W=(w.alloc (.cells #[.slice A0 n0 c0,.slice (some ⟨g1,o1,none⟩) n1 c1,.slice A2 n2 c2,.slice A3 n3 c3,.slice A4 n4 c4,.slice A5 n5 c5,.slice A6 n6 c6,.slice A7 n7 c7] 37)).alloc (.cells #[.slice none 0 0,.slice none 0 0] 40):=⟨_,rfl⟩;have hsz:W.heap.size=w.heap.size+2:=by rw[hW];simp
  have hbw:Below w.heap.size w W:=by rw[hW];exact((bR w.heap.size w).alloc (nR _) _).alloc (by simp) _
  have hz:Ug (w.heap.size+1) W:=by
   have h:=Ug.new (w.alloc (.cells #[.slice A0 n0 c0,.slice (some ⟨g1,o1,none⟩) n1 c1,.slice A2 n2 c2,.slice A3 n3 c3,.slice A4 n4 c4,.slice A5 n5 c5,.slice A6 n6 c6,.slice A7 n7 c7] 37));rw[show(w.alloc (.cells #[.slice A0 n0 c0,.slice (some ⟨g1,o1,none⟩) n1 c1,.slice A2 n2 c2,.slice A3 n3 c3,.slice A4 n4 c4,.slice A5 n5 c5,.slice A6 n6 c6,.slice A7 n7 c7] 37)).heap.size=w.heap.size+1 by simp]at h;rw[hW];exact h
  have hbx:Box8 W w.heap.size (.slice A0 n0 c0) (.slice (some ⟨g1,o1,none⟩) n1 c1) (.slice A2 n2 c2) (.slice A3 n3 c3) (.slice A4 n4 c4) (.slice A5 n5 c5) (.slice A6 n6 c6) (.slice A7 n7 c7):=by rw[hW];exact UB w _ _ _ _ _ _ _ _ ((bR _ _).alloc (nR _) _)
  have hcx:W.drew.cell? ⟨g1,o1+f * 3+2,none⟩=some (.int .i64 k):=(hbw.cell (p:=⟨g1,o1+f * 3+2,none⟩) (wL _ _ ki)).trans ki;have hbd:Below w.heap.size w W.drew:=hbw.drew;have hne:w.heap.size≠w.heap.size+1:=by omega
  have HF:Hid (∀ wz,Below W.drew.heap.size W.drew wz→(∀ a b,(fun w'=>w'.cell? ⟨w.heap.size,0,none⟩=some (.slice A0 n0 c0)∧w'.cell? ⟨w.heap.size,1,none⟩=some (.slice (some ⟨g1,o1,none⟩) n1 c1)∧w'.cell? ⟨w.heap.size,2,none⟩=some (.slice A2 n2 c2)∧w'.cell? ⟨w.heap.size,3,none⟩=some (.slice A3 n3 c3)∧w'.cell? ⟨w.heap.size,4,none⟩=some (.slice A4 n4 c4)∧w'.cell? ⟨w.heap.size,5,none⟩=some (.slice A5 n5 c5)∧w'.cell? ⟨w.heap.size,6,none⟩=some (.slice A6 n6 c6)∧w'.cell? ⟨w.heap.size,7,none⟩=some (.slice A7 n7 c7)∧w'.cell? ⟨g1,o1+f * 3+2,none⟩=some (.int .i64 k)) ((wz.setCell ⟨w.heap.size+1,0,none⟩ a).setCell ⟨w.heap.size+1,1,none⟩ b))∧(fun w'=>w'.cell? ⟨w.heap.size,0,none⟩=some (.slice A0 n0 c0)∧w'.cell? ⟨w.heap.size,1,none⟩=some (.slice (some ⟨g1,o1,none⟩) n1 c1)∧w'.cell? ⟨w.heap.size,2,none⟩=some (.slice A2 n2 c2)∧w'.cell? ⟨w.heap.size,3,none⟩=some (.slice A3 n3 c3)∧w'.cell? ⟨w.heap.size,4,none⟩=some (.slice A4 n4 c4)∧w'.cell? ⟨w.heap.size,5,none⟩=some (.slice A5 n5 c5)∧w'.cell? ⟨w.heap.size,6,none⟩=some (.slice A6 n6 c6)∧w'.cell? ⟨w.heap.size,7,none⟩=some (.slice A7 n7 c7)∧w'.cell? ⟨g1,o1+f * 3+2,none⟩=some (.int .i64 k)) wz∧Ug (w.heap.size+1) wz):=hD fun wz hb=>by
   have hx:Box8 wz w.heap.size (.slice A0 n0 c0) (.slice (some ⟨g1,o1,none⟩) n1 c1) (.slice A2 n2 c2) (.slice A3 n3 c3) (.slice A4 n4 c4) (.slice A5 n5 c5) (.slice A6 n6 c6) (.slice A7 n7 c7):=hbx.below (w:=W.drew) (by show w.heap.size<W.heap.size;omega) hb;have hcy:wz.cell? ⟨g1,o1+f * 3+2,none⟩=some (.int .i64 k):=(hb.cell (p:=⟨g1,o1+f * 3+2,none⟩) (wL _ _ hcx)).trans hcx;have hcn:g1≠w.heap.size+1:=by have h9:=wL _ _ ki;simp only at h9;omega
   exact Zbq
  have HQ:=hD (HTA.out _ hbd k);generalize Uo m k=t at HQ ⊢;obtain⟨b0,b1,b2,b3,b4,b5,b6,b7,b8⟩:=(HF.out _ (bR _ _)).2.1;have HBW:=hD hbd;have HSZ:=hD hsz;clear hbw hbd hz hbx hne hsz HTA hcx ki;go_enter Tryz.func52,Tryz.ntmps52
  go_upto_region 5 with (fail)
  rw[← hW];clear hW
  go_region_held3 (fun w'=>w'.cell? ⟨w.heap.size,0,none⟩=some (.slice A0 n0 c0)∧w'.cell? ⟨w.heap.size,1,none⟩=some (.slice (some ⟨g1,o1,none⟩) n1 c1)∧w'.cell? ⟨w.heap.size,2,none⟩=some (.slice A2 n2 c2)∧w'.cell? ⟨w.heap.size,3,none⟩=some (.slice A3 n3 c3)∧w'.cell? ⟨w.heap.size,4,none⟩=some (.slice A4 n4 c4)∧w'.cell? ⟨w.heap.size,5,none⟩=some (.slice A5 n5 c5)∧w'.cell? ⟨w.heap.size,6,none⟩=some (.slice A6 n6 c6)∧w'.cell? ⟨w.heap.size,7,none⟩=some (.slice A7 n7 c7)∧w'.cell? ⟨g1,o1+f * 3+2,none⟩=some (.int .i64 k))
   (first|exact(HF.out _ hb1).1 (.slice P1 (t.getD ([],[])).1.length e1) (.slice P2 (t.getD ([],[])).2.length e2)|exact(HF.out _ hb1).2.1|go_keep)
   ((go_at_call 90;refine HQ.out.mono ?_;rintro e w1 ⟨p',r',rfl,hi1,hi2,hb1⟩;obtain⟨P1,e1,hq1,_,_⟩:=hi1.form;obtain⟨P2,e2,hq2,_,_⟩:=hi2.form;rw[hq1]at hi1 ⊢;rw[hq2]at hi2 ⊢;obtain⟨z0,z1,f0,f1⟩:=(HF.out _ hb1).2.2.all))
  all_goals
   skip
   have HFL:=hD ((HF.out _ hb1).2.2.fill (.slice P1 (t.getD ([],[])).1.length e1) (.slice P2 (t.getD ([],[])).2.length e2));have HFIN:=hD (typ_fill (w:=w) (W:=W.drew) (B:=w.heap.size+1) HBW.out (Nat.le_succ _) (by have:=HSZ.out;show w.heap.size+1<W.heap.size;omega) hi1 hi2 hb1);clear hb1 hi1 hi2 hq1 hq2 z0 z1 f0 f1;go_wp2;have hfl:=HFL.out;exact bodyPost_ret (v:=.tuple #[.agg #[.slice P1 (t.getD ([],[])).1.length e1,.slice P2 (t.getD ([],[])).2.length e2],.bool t.isSome]) (by simp[results,Tryz.results52,go_sem,World.cell?,hfl]) rfl HFIN.out
 ·obtain⟨d,rfl⟩:∃ d:Nat,f=((m.imps.length+d:Nat):Int):=⟨(f - m.imps.length).toNat,by omega⟩;have hlt:d<m.funs.length:=by omega
  rw[fsigB_fun hlt];obtain⟨g2,o2,cc2,he,_,_⟩:=Wd.some_ h2 (by omega);simp only[vI]at he;obtain⟨rfl,-,rfl⟩:=he;obtain⟨u,ki,hu⟩:=Wd.at_ h2 d 0 hlt (by decide);obtain rfl:u=.int .i64 (m.funs.getD d WW).ty:=hu;rw[Nat.add_zero]at ki;rw[hn2]at hlt HTA ⊢;rw[hn1]at HTA hf ⊢;obtain⟨k,hk⟩:∃ k,(m.funs.getD d WW).ty=k:=⟨_,rfl⟩;rw[hk]at ki ⊢;rw[hn1]at hs1;rw[hn2]at hs2;obtain⟨fv,hfv⟩:∃ fv:Nat,fv=n1+d:=⟨_,rfl⟩;rw[← hfv];have d0:decide ((fv:Int)<0)=false:=by simp
  have d1:IntKind.i64.wrap ((fv:Int) - (n1:Int))=(d:Int):=by rw[show(fv:Int) - (n1:Int)=(d:Int) by omega];exact IntWalk.i64_in _ (by omega)
  have d2:decide ((n2:Int)≤(d:Int))=false:=by simp;omega
  have d3:decide ((d:Int)<0)=false:=by simp
  have d4:(0:Int)≤(d:Int)∧(d:Int)<(n2:Int):=by omega
  clear h1 h2 hn1 hn2 hf hf0 hk hfv hs1 hs2;obtain⟨W,hW⟩:∃ W,W=(w.alloc (.cells #[.slice A0 n0 c0,.slice A1 n1 c1,.slice (some ⟨g2,o2,none⟩) n2 c2,.slice A3 n3 c3,.slice A4 n4 c4,.slice A5 n5 c5,.slice A6 n6 c6,.slice A7 n7 c7] 37)).alloc (.cells #[.slice none 0 0,.slice none 0 0] 40):=⟨_,rfl⟩;have hsz:W.heap.size=w.heap.size+2:=by rw[hW];simp
  have hbw:Below w.heap.size w W:=by rw[hW];exact((bR w.heap.size w).alloc (nR _) _).alloc (by simp) _
  have hz:Ug (w.heap.size+1) W:=by
   have h:=Ug.new (w.alloc (.cells #[.slice A0 n0 c0,.slice A1 n1 c1,.slice (some ⟨g2,o2,none⟩) n2 c2,.slice A3 n3 c3,.slice A4 n4 c4,.slice A5 n5 c5,.slice A6 n6 c6,.slice A7 n7 c7] 37));rw[show(w.alloc (.cells #[.slice A0 n0 c0,.slice A1 n1 c1,.slice (some ⟨g2,o2,none⟩) n2 c2,.slice A3 n3 c3,.slice A4 n4 c4,.slice A5 n5 c5,.slice A6 n6 c6,.slice A7 n7 c7] 37)).heap.size=w.heap.size+1 by simp]at h;rw[hW];exact h
  have hbx:Box8 W w.heap.size (.slice A0 n0 c0) (.slice A1 n1 c1) (.slice (some ⟨g2,o2,none⟩) n2 c2) (.slice A3 n3 c3) (.slice A4 n4 c4) (.slice A5 n5 c5) (.slice A6 n6 c6) (.slice A7 n7 c7):=by rw[hW];exact UB w _ _ _ _ _ _ _ _ ((bR _ _).alloc (nR _) _)
  have hcx:W.drew.cell? ⟨g2,o2+d * 3,none⟩=some (.int .i64 k):=(hbw.cell (p:=⟨g2,o2+d * 3,none⟩) (wL _ _ ki)).trans ki;have hbd:Below w.heap.size w W.drew:=hbw.drew;have hne:w.heap.size≠w.heap.size+1:=by omega
  have HF:Hid (∀ wz,Below W.drew.heap.size W.drew wz→(∀ a b,(fun w'=>w'.cell? ⟨w.heap.size,0,none⟩=some (.slice A0 n0 c0)∧w'.cell? ⟨w.heap.size,1,none⟩=some (.slice A1 n1 c1)∧w'.cell? ⟨w.heap.size,2,none⟩=some (.slice (some ⟨g2,o2,none⟩) n2 c2)∧w'.cell? ⟨w.heap.size,3,none⟩=some (.slice A3 n3 c3)∧w'.cell? ⟨w.heap.size,4,none⟩=some (.slice A4 n4 c4)∧w'.cell? ⟨w.heap.size,5,none⟩=some (.slice A5 n5 c5)∧w'.cell? ⟨w.heap.size,6,none⟩=some (.slice A6 n6 c6)∧w'.cell? ⟨w.heap.size,7,none⟩=some (.slice A7 n7 c7)∧w'.cell? ⟨g2,o2+d * 3,none⟩=some (.int .i64 k)) ((wz.setCell ⟨w.heap.size+1,0,none⟩ a).setCell ⟨w.heap.size+1,1,none⟩ b))∧(fun w'=>w'.cell? ⟨w.heap.size,0,none⟩=some (.slice A0 n0 c0)∧w'.cell? ⟨w.heap.size,1,none⟩=some (.slice A1 n1 c1)∧w'.cell? ⟨w.heap.size,2,none⟩=some (.slice (some ⟨g2,o2,none⟩) n2 c2)∧w'.cell? ⟨w.heap.size,3,none⟩=some (.slice A3 n3 c3)∧w'.cell? ⟨w.heap.size,4,none⟩=some (.slice A4 n4 c4)∧w'.cell? ⟨w.heap.size,5,none⟩=some (.slice A5 n5 c5)∧w'.cell? ⟨w.heap.size,6,none⟩=some (.slice A6 n6 c6)∧w'.cell? ⟨w.heap.size,7,none⟩=some (.slice A7 n7 c7)∧w'.cell? ⟨g2,o2+d * 3,none⟩=some (.int .i64 k)) wz∧Ug (w.heap.size+1) wz):=hD fun wz hb=>by
   have hx:Box8 wz w.heap.size (.slice A0 n0 c0) (.slice A1 n1 c1) (.slice (some ⟨g2,o2,none⟩) n2 c2) (.slice A3 n3 c3) (.slice A4 n4 c4) (.slice A5 n5 c5) (.slice A6 n6 c6) (.slice A7 n7 c7):=hbx.below (w:=W.drew) (by show w.heap.size<W.heap.size;omega) hb;have hcy:wz.cell? ⟨g2,o2+d * 3,none⟩=some (.int .i64 k):=(hb.cell (p:=⟨g2,o2+d * 3,none⟩) (wL _ _ hcx)).trans hcx;have hcn:g2≠w.heap.size+1:=by have h9:=wL _ _ ki;simp only at h9;omega
   exact Zbq
  have HQ:=hD (HTA.out _ hbd k);generalize Uo m k=t at HQ ⊢;obtain⟨b0,b1,b2,b3,b4,b5,b6,b7,b8⟩:=(HF.out _ (bR _ _)).2.1;have HBW:=hD hbd;have HSZ:=hD hsz;clear hbw hbd hz hbx hne hsz HTA hcx ki;go_enter Tryz.func52,Tryz.ntmps52
  go_upto_region 6 with (fail)
  rw[← hW];clear hW
  go_region_held3 (fun w'=>w'.cell? ⟨w.heap.size,0,none⟩=some (.slice A0 n0 c0)∧w'.cell? ⟨w.heap.size,1,none⟩=some (.slice A1 n1 c1)∧w'.cell? ⟨w.heap.size,2,none⟩=some (.slice (some ⟨g2,o2,none⟩) n2 c2)∧w'.cell? ⟨w.heap.size,3,none⟩=some (.slice A3 n3 c3)∧w'.cell? ⟨w.heap.size,4,none⟩=some (.slice A4 n4 c4)∧w'.cell? ⟨w.heap.size,5,none⟩=some (.slice A5 n5 c5)∧w'.cell? ⟨w.heap.size,6,none⟩=some (.slice A6 n6 c6)∧w'.cell? ⟨w.heap.size,7,none⟩=some (.slice A7 n7 c7)∧w'.cell? ⟨g2,o2+d * 3,none⟩=some (.int .i64 k))
   (first|exact(HF.out _ hb1).1 (.slice P1 (t.getD ([],[])).1.length e1) (.slice P2 (t.getD ([],[])).2.length e2)|exact(HF.out _ hb1).2.1|go_keep)
   ((go_at_call 90;refine HQ.out.mono ?_;rintro e w1 ⟨p',r',rfl,hi1,hi2,hb1⟩;obtain⟨P1,e1,hq1,_,_⟩:=hi1.form;obtain⟨P2,e2,hq2,_,_⟩:=hi2.form;rw[hq1]at hi1 ⊢;rw[hq2]at hi2 ⊢;obtain⟨z0,z1,f0,f1⟩:=(HF.out _ hb1).2.2.all))
  all_goals
   skip
   have HFL:=hD ((HF.out _ hb1).2.2.fill (.slice P1 (t.getD ([],[])).1.length e1) (.slice P2 (t.getD ([],[])).2.length e2));have HFIN:=hD (typ_fill (w:=w) (W:=W.drew) (B:=w.heap.size+1) HBW.out (Nat.le_succ _) (by have:=HSZ.out;show w.heap.size+1<W.heap.size;omega) hi1 hi2 hb1);clear hb1 hi1 hi2 hq1 hq2 z0 z1 f0 f1;go_wp2;have hfl:=HFL.out;exact bodyPost_ret (v:=.tuple #[.agg #[.slice P1 (t.getD ([],[])).1.length e1,.slice P2 (t.getD ([],[])).2.length e2],.bool t.isSome]) (by simp[results,Tryz.results52,go_sem,World.cell?,hfl]) rfl HFIN.out
theorem cell_third' (w:World) (a b:Obj) (cs:Array Value) (t:TypeId) (j:Nat):(((w.alloc a).alloc b).alloc (.cells cs t)).cell? ⟨w.heap.size+2,j,none⟩=cs[j]?:=by
 exact Zc1
theorem block_any6 (w:World) (v:Mv) (m:Vt) (h:W7 (fun k=>k<w.heap.size) w v m) (hs:Vq m) (a:Int) :
 Calls Tryz.prog 117 #[.agg v.cells,.int .i64 a] w (TypPost (fun _=>False) (Wv m a) w):=by
 have HTA:=hD (fun wz (hb:Below w.heap.size w wz) k=>typeAt_any wz v m (h.keep (We.below hb fun _ hk=>hk) fun _ hk=>Ve hk hb.size) hs k);have h1:=h.imps;have h2:=h.funs;obtain⟨A0,c0,A1,c1,A2,c2,A3,c3,A4,c4,A5,c5,A6,c6,A7,c7,rfl⟩:=Wr h;simp only[Mv.cells]at HTA ⊢;simp only at h1 h2;have hs1:=hs.2.1;have hs2:=hs.2.2.1;clear h hs;generalize m.types.length=n0 at *;obtain⟨n1,hn1⟩:∃ n,m.imps.length=n:=⟨_,rfl⟩;obtain⟨n2,hn2⟩:∃ n,m.funs.length=n:=⟨_,rfl⟩;generalize m.mems.length=n3 at *;generalize m.globs.length=n4 at *;generalize m.exps.length=n5 at *;generalize m.datas.length=n6 at *;generalize m.cus.length=n7 at *;have HBB:Hid (¬ a = -1→¬ a = -2→¬ a = -3→¬ a = -4→Wv m a=Uo m a):=hD fun h1 h2 h3 h4=>by unfold Wv;rw[if_neg h1,if_neg h2,if_neg h3,if_neg h4]
 rw[hn1,hn2]at *;clear h1 h2 hn1 hn2 hs1 hs2;by_cases c1:a = -1
 ·subst c1;rw[show Wv m (-1)=some ([],[]) from rfl];clear HTA HBB;go_enter Tryz.func117,Tryz.ntmps117;go_wp2;exact bodyPost_ret (v:=.tuple #[.agg #[.slice none 0 0,.slice none 0 0],.bool true]) (by simp[results,Tryz.results117,go_sem]) rfl ⟨_,_,rfl,Wf.nil _ _,Wf.nil _ _,((bR _ _).alloc (nR _) _).alloc (by simp) _⟩
 by_cases c2:a = -2
 ·subst c2;rw[show Wv m (-2)=some ([],[127]) from rfl];exact ZQ
 by_cases c3:a = -3
 ·subst c3;rw[show Wv m (-3)=some ([],[126]) from rfl];exact ZQ
 by_cases c4:a = -4
 ·subst c4;rw[show Wv m (-4)=some ([],[124]) from rfl];exact ZQ
 rw[HBB.out c1 c2 c3 c4];have d1:(a == -1)=false:=by simpa using c1
 have d2:(a == -2)=false:=by simpa using c2
 have d3:(a == -3)=false:=by simpa using c3
 have d4:(a == -4)=false:=by simpa using c4
 clear c1 c2 c3 c4 HBB;obtain⟨W,hW⟩:∃ W,W=(w.alloc (.cells #[.slice A0 n0 c0,.slice A1 n1 c1,.slice A2 n2 c2,.slice A3 n3 c3,.slice A4 n4 c4,.slice A5 n5 c5,.slice A6 n6 c6,.slice A7 n7 c7] 37)).alloc (.cells #[.slice none 0 0,.slice none 0 0] 40):=⟨_,rfl⟩;have hsz:W.heap.size=w.heap.size+2:=by rw[hW];simp
 have hbw:Below w.heap.size w W:=by rw[hW];exact((bR w.heap.size w).alloc (nR _) _).alloc (by simp) _
 have hz:Ug (w.heap.size+1) W:=by
  have h:=Ug.new (w.alloc (.cells #[.slice A0 n0 c0,.slice A1 n1 c1,.slice A2 n2 c2,.slice A3 n3 c3,.slice A4 n4 c4,.slice A5 n5 c5,.slice A6 n6 c6,.slice A7 n7 c7] 37));rw[show(w.alloc (.cells #[.slice A0 n0 c0,.slice A1 n1 c1,.slice A2 n2 c2,.slice A3 n3 c3,.slice A4 n4 c4,.slice A5 n5 c5,.slice A6 n6 c6,.slice A7 n7 c7] 37)).heap.size=w.heap.size+1 by simp]at h;rw[hW];exact h
 have hbx:Box8 W w.heap.size (.slice A0 n0 c0) (.slice A1 n1 c1) (.slice A2 n2 c2) (.slice A3 n3 c3) (.slice A4 n4 c4) (.slice A5 n5 c5) (.slice A6 n6 c6) (.slice A7 n7 c7):=by rw[hW];exact UB w _ _ _ _ _ _ _ _ ((bR _ _).alloc (nR _) _)
 have hbd:Below w.heap.size w W:=hbw;have hne:w.heap.size≠w.heap.size+1:=by omega
 have HF:Hid (∀ wz,Below W.heap.size W wz→(∀ a b,(fun w'=>w'.cell? ⟨w.heap.size,0,none⟩=some (.slice A0 n0 c0)∧w'.cell? ⟨w.heap.size,1,none⟩=some (.slice A1 n1 c1)∧w'.cell? ⟨w.heap.size,2,none⟩=some (.slice A2 n2 c2)∧w'.cell? ⟨w.heap.size,3,none⟩=some (.slice A3 n3 c3)∧w'.cell? ⟨w.heap.size,4,none⟩=some (.slice A4 n4 c4)∧w'.cell? ⟨w.heap.size,5,none⟩=some (.slice A5 n5 c5)∧w'.cell? ⟨w.heap.size,6,none⟩=some (.slice A6 n6 c6)∧w'.cell? ⟨w.heap.size,7,none⟩=some (.slice A7 n7 c7)) ((wz.setCell ⟨w.heap.size+1,0,none⟩ a).setCell ⟨w.heap.size+1,1,none⟩ b))∧(fun w'=>w'.cell? ⟨w.heap.size,0,none⟩=some (.slice A0 n0 c0)∧w'.cell? ⟨w.heap.size,1,none⟩=some (.slice A1 n1 c1)∧w'.cell? ⟨w.heap.size,2,none⟩=some (.slice A2 n2 c2)∧w'.cell? ⟨w.heap.size,3,none⟩=some (.slice A3 n3 c3)∧w'.cell? ⟨w.heap.size,4,none⟩=some (.slice A4 n4 c4)∧w'.cell? ⟨w.heap.size,5,none⟩=some (.slice A5 n5 c5)∧w'.cell? ⟨w.heap.size,6,none⟩=some (.slice A6 n6 c6)∧w'.cell? ⟨w.heap.size,7,none⟩=some (.slice A7 n7 c7)) wz∧Ug (w.heap.size+1) wz):=hD fun wz hb=>by
  have hx:Box8 wz w.heap.size (.slice A0 n0 c0) (.slice A1 n1 c1) (.slice A2 n2 c2) (.slice A3 n3 c3) (.slice A4 n4 c4) (.slice A5 n5 c5) (.slice A6 n6 c6) (.slice A7 n7 c7):=hbx.below (w:=W) (by show w.heap.size<W.heap.size;omega) hb;exact⟨fun a b=>⟨(hx.far hne a b).1,(hx.far hne a b).2.1,(hx.far hne a b).2.2.1,(hx.far hne a b).2.2.2.1,(hx.far hne a b).2.2.2.2.1,(hx.far hne a b).2.2.2.2.2.1,(hx.far hne a b).2.2.2.2.2.2.1,(hx.far hne a b).2.2.2.2.2.2.2⟩,⟨hx.1,hx.2.1,hx.2.2.1,hx.2.2.2.1,hx.2.2.2.2.1,hx.2.2.2.2.2.1,hx.2.2.2.2.2.2.1,hx.2.2.2.2.2.2.2⟩,Ug.below (w:=W) hz (by show w.heap.size+1<W.heap.size;omega) hb⟩
 have HQ:=hD (HTA.out _ hbd a);generalize Uo m a=t at HQ ⊢;obtain⟨b0,b1,b2,b3,b4,b5,b6,b7⟩:=(HF.out _ (bR _ _)).2.1;have HBW:=hD hbd;have HSZ:=hD hsz;clear hbw hbd hz hbx hne hsz HTA;go_enter Tryz.func117,Tryz.ntmps117
 go_upto_region 10 with (fail)
 rw[← hW];clear hW;go_wp2_with (go_at_call 90;refine HQ.out.mono ?_;rintro e w1 ⟨p',r',rfl,hi1,hi2,hb1⟩;obtain⟨P1,e1,hq1,_,_⟩:=hi1.form;obtain⟨P2,e2,hq2,_,_⟩:=hi2.form;rw[hq1]at hi1 ⊢;rw[hq2]at hi2 ⊢;obtain⟨z0,z1,f0,f1⟩:=(HF.out _ hb1).2.2.all)
 have HFL:=hD ((HF.out _ hb1).2.2.fill (.slice P1 (t.getD ([],[])).1.length e1) (.slice P2 (t.getD ([],[])).2.length e2));have HFIN:=hD (typ_fill (w:=w) (W:=W) (B:=w.heap.size+1) HBW.out (Nat.le_succ _) (by have:=HSZ.out;show w.heap.size+1<W.heap.size;omega) hi1 hi2 hb1);clear hb1 hi1 hi2 hq1 hq2 z0 z1 f0 f1;go_wp2;have hfl:=HFL.out;exact bodyPost_ret (v:=.tuple #[.agg #[.slice P1 (t.getD ([],[])).1.length e1,.slice P2 (t.getD ([],[])).2.length e2],.bool t.isSome]) (by simp[results,Tryz.results117,go_sem,World.cell?,hfl]) rfl HFIN.out
end Go.Proofs.YtmfpnfdinoofpaaGreatDoor
