/- A part of the proof. -/
import Derived.Test.YtgmgcadlkebokaaGreatDoorJ22
import Derived.Test.YtgmgcadlkebokaaGreatDoorJ23
import Derived.Test.YtgmgcadlkebokaaGreatDoorJ24
import Derived.ChangeSlices
import Derived.WideShapes
import Derived.Carry
import Derived.Deep.Slices
import Derived.Lib.Strings
import Derived.Lib.ConvBytes
namespace Go.Proofs.YtgmgcadlkebokaaGreatDoor
section
open Go.RowKit
theorem odd_any (K:Nat→Prop) (w:World) (hK:∀ g,K g→g<w.heap.size) (v:Mv) (m:Vz) (k:Nat) (hk:k≤10) (hm:WL K w v m) (hs:Sz k m) (hf:0<m.funs.length) (t:Trn) (Lv:Value) (hL:Wh K w Lv t.raw.l) (hw:V7 t.n∧V7 t.raw.n∧fitN t.raw.l.length) :
 Calls Tryz.prog 21 #[.agg v.cells,t.val Lv] w (OddPost K (k+1) w):=by
 by_cases h3:t.what.tmod 4=3
 ·rcases(show t.what % 1048577 / 4 % 9=0∨t.what % 1048577 / 4 % 9=1∨t.what % 1048577 / 4 % 9=2∨t.what % 1048577 / 4 % 9=3∨t.what % 1048577 / 4 % 9=4∨t.what % 1048577 / 4 % 9=5∨t.what % 1048577 / 4 % 9=6∨t.what % 1048577 / 4 % 9=7∨t.what % 1048577 / 4 % 9=8 by omega) with h|h|h|h|h|h|h|h|h
  ·exact odd_P K w hK v m k hk hm hs hf t Lv hL hw h3 (.inl h)
  ·exact odd_P K w hK v m k hk hm hs hf t Lv hL hw h3 (.inr (.inl h))
  ·exact odd_P K w hK v m k hk hm hs hf t Lv hL hw h3 (.inr (.inr (.inl h)))
  ·exact odd_Q K w hK v m k hk hm hs hf t Lv hL hw h3 h
  ·exact odd_R K w hK v m k hk hm hs hf t Lv hL hw h3 h
  ·exact odd_S K w hK v m k hk hm hs hf t Lv hL hw h3 (.inl h)
  ·exact odd_P K w hK v m k hk hm hs hf t Lv hL hw h3 (.inr (.inr (.inr (.inl h))))
  ·exact odd_S K w hK v m k hk hm hs hf t Lv hL hw h3 (.inr h)
  ·exact odd_P K w hK v m k hk hm hs hf t Lv hL hw h3 (.inr (.inr (.inr (.inr h))))
 ·exact odd_B K w hK v m k hk hm hs hf t Lv hL hw h3
end
section
open Go.RowKit
set_option maxHeartbeats 100000000
set_option maxRecDepth 100000
theorem Zbx {P:Prop}(h:P:=by
 go_wp2;have hfl:=HFL.out;unfold fill8 at hfl;have hfin:=HFIN.out;unfold fill8 at hfin;simp only[Mv.cells]at hfl;exact bodyPost_ret (v:=.agg #[.slice A0 n0 c0,.slice A1 n1 c1,.slice A2 n2 c2,.slice A3 n3 c3,.slice A4 n4 c4,.slice A5 n5 c5,.slice A6 n6 c6,.slice A7 n7 c7]) (by simp[results,Tryz.results5,go_sem,World.cell?,hfl]) rfl hfin):P:=h
def trn0:Trn:=⟨0,0,0,0,VX⟩
def trnCell (K:Nat→Prop) (w:World) (x:Trn):Nat→Value→Prop
 | 0,u=>u=.int .i64 x.what
 | 1,u=>u=.int .i64 x.pos
 | 2,u=>u=.int .i64 x.to_
 | 3,u=>u=.int .u64 x.n∧V7 x.n
 | 4,u=>u=.int .i64 x.raw.op
 | 5,u=>u=.int .i64 x.raw.a
 | 6,u=>u=.int .i64 x.raw.b
 | 7,u=>u=.int .u64 x.raw.n∧V7 x.raw.n
 | _,u=>Wh K w u x.raw.l∧fitN x.raw.l.length
def TrnsK (K:Nat→Prop) (w:World) (v:Value) (l:List Trn):Prop:=Wb K w v l.length 9 fun j i u=>trnCell K w (l.getD j trn0) i u
theorem trnCell.keep {K K':Nat→Prop} {w w':World} {x:Trn} {i:Nat} {u:Value} (h:trnCell K w x i u) (hk:We K w w') (hm:∀ k,K k→K' k):trnCell K' w' x i u:=by
 match i,h with
 | 0,h=>exact h
 | 1,h=>exact h
 | 2,h=>exact h
 | 3,h=>exact h
 | 4,h=>exact h
 | 5,h=>exact h
 | 6,h=>exact h
 | 7,h=>exact h
 | _+8,h=>exact⟨Wh.keep h.1 hk hm,h.2⟩
theorem TrnsK.keep {K K':Nat→Prop} {w w':World} {v:Value} {l:List Trn} (h:TrnsK K w v l) (hk:We K w w') (hm:∀ k,K k→K' k):TrnsK K' w' v l :=
 Wb.keep h hk hm fun _ _ _ h=>h.keep hk hm
def KO (w0 w:World) (k:Nat):Prop:=k<w.heap.size∧(k<w0.heap.size∨w0.heap.size+2≤k)
structure OBox (w0 w:World) (v:Mv) (m:Vz) (k:Nat):Prop where
 box:w.heap[w0.heap.size]?=some (.cells v.cells 36 (0,0))
 res:w.heap[w0.heap.size+1]?=some (.cells Wv 36 (0,0))
 at_:WL (KO w0 w) w v m
 sz:Sz k m
 bl:Below w0.heap.size w0 w
 two:w0.heap.size+2≤w.heap.size
theorem OBox.below {w0 w w':World} {k:Nat} {v:Mv} {m:Vz} (h:OBox w0 w v m k) (hb:Below w.heap.size w w'):OBox w0 w' v m k :=
 ⟨(hb.block _ (by have:=h.two;omega)).trans h.box,(hb.block _ (by have:=h.two;omega)).trans h.res,h.at_.keep (We.below hb fun _ hk=>hk.1) fun _ hk=>⟨WK hk.1 hb.size,hk.2⟩,h.sz,h.bl.trans (hb.mono h.bl.size),Nat.le_trans h.two hb.size⟩
theorem OBox.cells {w0 w:World} {k:Nat} {v:Mv} {m:Vz} (h:OBox w0 w v m k):BoxC w0 w v:=by
 exact Zcn
theorem OBox.frozen {w0 w:World} {k:Nat} {v:Mv} {m:Vz} (h:OBox w0 w v m k) (i:Nat):w.frozen? ⟨w0.heap.size,i,none⟩=false:=by simp[World.frozen?,h.box]
theorem fill8_any {w:World} {B:Nat} {T:TypeId} {v0:Mv} (h:w.heap[B]?=some (.cells v0.cells T (0,0))) (v:Mv):(fill8 w B v).heap[B]?=some (.cells v.cells T (0,0)):=by
 have h0:=Wi w B 0 _ T v.m0 h;have h1:=Wi _ B 1 _ T v.m1 h0;have h2:=Wi _ B 2 _ T v.m2 h1;have h3:=Wi _ B 3 _ T v.m3 h2;have h4:=Wi _ B 4 _ T v.m4 h3;have h5:=Wi _ B 5 _ T v.m5 h4;have h6:=Wi _ B 6 _ T v.m6 h5;have h7:=Wi _ B 7 _ T v.m7 h6;have e:(((((((v0.cells.setIfInBounds 0 v.m0).setIfInBounds 1 v.m1).setIfInBounds 2 v.m2).setIfInBounds 3 v.m3).setIfInBounds 4 v.m4).setIfInBounds 5 v.m5).setIfInBounds 6 v.m6).setIfInBounds 7 v.m7=v.cells:=by simp[Mv.cells]
 rw[e]at h7;exact h7
theorem OBox.fill {w0 w x:World} {k k':Nat} {v v':Mv} {m m':Vz} (h:OBox w0 w v m k) (hb:Below w.heap.size w x) (hm:WL (fun g=>KO w0 w g∨w.heap.size≤g∧g<x.heap.size) x v' m') (hs:Sz k' m'):OBox w0 (fill8 x w0.heap.size v') v' m' k':=by
 have hx:=h.below hb;have hk:=Uc x w0.heap.size v';have h2:=h.two;refine⟨fill8_any hx.box v',(hk.block _ (by omega)).trans hx.res,hm.keep (hk.mono fun g hg e=>?_) fun g hg=>?_,hs,below_fill8 hx.bl (nR _) v',Nat.le_trans hx.two hk.size⟩
 ·rcases hg with hg|hg
  ·have:=hg.2;omega
  ·omega
 ·rcases hg with hg|hg
  ·exact⟨WK (WK hg.1 hb.size) hk.size,hg.2⟩
  ·exact⟨WK hg.2 hk.size,.inr (by omega)⟩
def OddsPost (w:World) (e:Ending) (w':World):Prop:=∃ v m,e=.returned (.agg v.cells)∧WL (lt w') w' v m∧Sz 4 m∧Below w.heap.size w w'
theorem odds_any (w:World) (v:Mv) (m:Vz) (hm:WL (lt w) w v m) (hs:Sz 0 m) (tv:Value) (ts:List Trn) (ht:TrnsK (lt w) w tv ts) :
 Calls Tryz.prog 5 #[.agg v.cells,tv] w (OddsPost w):=by
 obtain⟨At,ct,htv,hnt,hct⟩:=Wb.form ht;have HTS:=hD ht;rw[htv]at HTS ⊢;clear ht htv;obtain⟨nt,hnt'⟩:∃ n,ts.length=n:=⟨_,rfl⟩;rw[hnt']at HTS hnt ⊢;have HNT:=hD hnt';have HCT:=hD hct;clear hnt' hct;obtain⟨A0,c0,A1,c1,A2,c2,A3,c3,A4,c4,A5,c5,A6,c6,A7,c7,rfl⟩:=hm.forms;simp only[Mv.cells];generalize hl0:m.types.length=n0 at *;generalize hl1:m.imps.length=n1 at *;generalize hl2:m.funs.length=n2 at *;generalize hl3:m.mems.length=n3 at *;generalize hl4:m.globs.length=n4 at *;generalize hl5:m.exps.length=n5 at *;generalize hl6:m.datas.length=n6 at *;generalize hl7:m.cus.length=n7 at *;clear hl0 hl1 hl2 hl3 hl4 hl5 hl6 hl7;obtain⟨w3,hw3⟩:∃ w3,w3=((w.alloc (.cells #[.slice A0 n0 c0,.slice A1 n1 c1,.slice A2 n2 c2,.slice A3 n3 c3,.slice A4 n4 c4,.slice A5 n5 c5,.slice A6 n6 c6,.slice A7 n7 c7] 36)).alloc (.cells Wv 36)):=⟨_,rfl⟩;have ha0:=WU [.cells #[.slice A0 n0 c0,.slice A1 n1 c1,.slice A2 n2 c2,.slice A3 n3 c3,.slice A4 n4 c4,.slice A5 n5 c5,.slice A6 n6 c6,.slice A7 n7 c7] 36,.cells Wv 36] w 0 _ rfl;have ha1:=(WU [.cells #[.slice A0 n0 c0,.slice A1 n1 c1,.slice A2 n2 c2,.slice A3 n3 c3,.slice A4 n4 c4,.slice A5 n5 c5,.slice A6 n6 c6,.slice A7 n7 c7] 36,.cells Wv 36] w 1 _ rfl).1;change ((w.alloc (.cells #[.slice A0 n0 c0,.slice A1 n1 c1,.slice A2 n2 c2,.slice A3 n3 c3,.slice A4 n4 c4,.slice A5 n5 c5,.slice A6 n6 c6,.slice A7 n7 c7] 36)).alloc (.cells Wv 36)).heap[w.heap.size]?=_∧Below w.heap.size w ((w.alloc (.cells #[.slice A0 n0 c0,.slice A1 n1 c1,.slice A2 n2 c2,.slice A3 n3 c3,.slice A4 n4 c4,.slice A5 n5 c5,.slice A6 n6 c6,.slice A7 n7 c7] 36)).alloc (.cells Wv 36))∧((w.alloc (.cells #[.slice A0 n0 c0,.slice A1 n1 c1,.slice A2 n2 c2,.slice A3 n3 c3,.slice A4 n4 c4,.slice A5 n5 c5,.slice A6 n6 c6,.slice A7 n7 c7] 36)).alloc (.cells Wv 36)).heap.size=w.heap.size+2 at ha0;change ((w.alloc (.cells #[.slice A0 n0 c0,.slice A1 n1 c1,.slice A2 n2 c2,.slice A3 n3 c3,.slice A4 n4 c4,.slice A5 n5 c5,.slice A6 n6 c6,.slice A7 n7 c7] 36)).alloc (.cells Wv 36)).heap[w.heap.size+1]?=_ at ha1;rw[← hw3]at ha0 ha1;obtain⟨ha0,hbm,hsz⟩:=ha0;have HB0:Hid (OBox w w3 ⟨.slice A0 n0 c0,.slice A1 n1 c1,.slice A2 n2 c2,.slice A3 n3 c3,.slice A4 n4 c4,.slice A5 n5 c5,.slice A6 n6 c6,.slice A7 n7 c7⟩ m 0):=hD ⟨ha0,ha1,hm.keep (We.below hbm fun _ hk=>hk) fun g hg=>⟨WK hg hbm.size,.inl hg⟩,hs,hbm,by rw[hsz];exact nR _⟩;clear hm hs ha0 ha1 hsz;go_enter Tryz.func5,Tryz.ntmps5
 go_upto_region 1 with (fail)
 rw[show Wv=#[.slice none 0 0,.slice none 0 0,.slice none 0 0,.slice none 0 0,.slice none 0 0,.slice none 0 0,.slice none 0 0,.slice none 0 0] from rfl]at hw3;rw[← hw3];clear hw3 hbm;go_wp2_with fail
 go_loopw [5] (fun i wr=>∃ (j:Nat) (v':Mv) (m':Vz),j≤4∧i=.int .i64 (j:Int)∧Hid (OBox w wr v' m' j)) (fun i _=>4 - (intOf i).toNat)
 case atStart=>exact⟨0,_,m,nZ _,rfl,HB0⟩
 case round =>
  obtain⟨j,v1,m1,hj,rfl,HB⟩:=hrel;obtain⟨w4,rfl⟩:∃ w4,w4=wr:=⟨_,rfl⟩;clear HB0;obtain⟨A0,c0,A1,c1,A2,c2,A3,c3,A4,c4,A5,c5,A6,c6,A7,c7,rfl⟩:=HB.out.at_.forms;generalize hl0:m1.types.length=n0 at *;generalize hl1:m1.imps.length=n1 at *;generalize hl2:m1.funs.length=n2 at *;generalize hl3:m1.mems.length=n3 at *;generalize hl4:m1.globs.length=n4 at *;generalize hl5:m1.exps.length=n5 at *;generalize hl6:m1.datas.length=n6 at *;generalize hl7:m1.cus.length=n7 at *;clear hl0 hl1 hl2 hl3 hl4 hl5 hl6 hl7;by_cases hlt:j<nt∧j<4
  ·obtain⟨hlt,hj4⟩:=hlt;have hd0:decide ((j:Int)<(nt:Int))=true:=by simp;omega
   have hd1:decide ((j:Int)<4)=true:=by simp;omega
   obtain⟨gt,ot,ct',he,_,_⟩:=Wb.some_ HTS.out (by rw[HNT.out];omega);simp only[vI]at he;obtain⟨rfl,-,rfl⟩:=he;have htc:∀ i,i<9→∃ u,w.cell? ⟨gt,ot+j * 9+i,none⟩=some u∧trnCell (lt w) w (ts.getD j trn0) i u:=fun i hi=>Wb.at_ HTS.out j i (by rw[HNT.out];exact hlt) hi;obtain⟨⟨what,pos,to_,tn,⟨op,ra,rb,rn,rl⟩⟩,htj⟩:∃ t,ts.getD j trn0=t:=⟨_,rfl⟩;rw[htj]at htc;obtain⟨_,q0,rfl⟩:=htc 0 (by decide);obtain⟨_,q1,rfl⟩:=htc 1 (by decide);obtain⟨_,q2,rfl⟩:=htc 2 (by decide);obtain⟨_,q3,rfl,hw3⟩:=htc 3 (by decide);obtain⟨_,q4,rfl⟩:=htc 4 (by decide);obtain⟨_,q5,rfl⟩:=htc 5 (by decide);obtain⟨_,q6,rfl⟩:=htc 6 (by decide);obtain⟨_,q7,rfl,hw7⟩:=htc 7 (by decide);obtain⟨uL,q8,hL⟩:=htc 8 (by decide);have hL2:Wh (lt w) w uL rl:=hL.1;have hLf:fitN rl.length:=hL.2;obtain⟨Al,cl,rfl,hlm,_⟩:=hL2.form;rw[Nat.add_zero]at q0;simp only at q0 q1 q2 q3 q4 q5 q6 q7;have hgt:=wL _ _ q0;have HTC:Hid (∀ wz,Below w4.drew.heap.size w4.drew wz→wz.cell? ⟨gt,ot+j * 9,none⟩=some (.int .i64 what)∧wz.cell? ⟨gt,ot+j * 9+1,none⟩=some (.int .i64 pos)∧wz.cell? ⟨gt,ot+j * 9+2,none⟩=some (.int .i64 to_)∧wz.cell? ⟨gt,ot+j * 9+3,none⟩=some (.int .u64 tn)∧wz.cell? ⟨gt,ot+j * 9+4,none⟩=some (.int .i64 op)∧wz.cell? ⟨gt,ot+j * 9+5,none⟩=some (.int .i64 ra)∧wz.cell? ⟨gt,ot+j * 9+6,none⟩=some (.int .i64 rb)∧wz.cell? ⟨gt,ot+j * 9+7,none⟩=some (.int .u64 rn)∧wz.cell? ⟨gt,ot+j * 9+8,none⟩=some (.slice Al rl.length cl)):=hD fun wz hb=>by
    have hbb:Below w.heap.size w wz:=(HB.out.below (Wn (bR w4.heap.size w4) 1)).bl.trans (hb.mono (HB.out.below (Wn (bR w4.heap.size w4) 1)).bl.size);have hq:∀ o u,w.cell? ⟨gt,o,none⟩=some u→wz.cell? ⟨gt,o,none⟩=some u:=fun o u h=>(hbb.cell (p:=⟨gt,o,none⟩) hgt).trans h;exact⟨hq _ _ q0,hq _ _ q1,hq _ _ q2,hq _ _ q3,hq _ _ q4,hq _ _ q5,hq _ _ q6,hq _ _ q7,hq _ _ q8⟩
   have HX5:=hD (HB.out.below (Wn (bR _ _) 1));change Hid (OBox w w4.drew _ _ _) at HX5;have hLk:Wh (KO w w4.drew) w4.drew (.slice Al rl.length cl) rl:=hL2.keep (We.below HX5.out.bl fun _ hk=>hk) fun g hg=>⟨WK hg HX5.out.bl.size,.inl hg⟩;have HCA:=hD (odd_any (KO w w4.drew) w4.drew (fun g hg=>hg.1) ⟨.slice A0 n0 c0,.slice A1 n1 c1,.slice A2 n2 c2,.slice A3 n3 c3,.slice A4 n4 c4,.slice A5 n5 c5,.slice A6 n6 c6,.slice A7 n7 c7⟩ m1 j (by omega) HX5.out.at_ HX5.out.sz HX5.out.sz.fp ⟨what,pos,to_,tn,⟨op,ra,rb,rn,rl⟩⟩ (.slice Al rl.length cl) hLk ⟨hw3,hw7,hLf⟩);simp only[Trn.val,Mv.cells]at HCA;generalize rl.length=nl at *;clear q0 q1 q2 q3 q4 q5 q6 q7 q8 hw3 hw7 hLf hL hL2 hLk htc htj hgt HB
   go_upto_region 4 with (fail)
   refine Wf.start (X:=6) (S:=fun w'=>Below w4.drew.heap.size w4.drew w') (by kernel_rfl) ?_;have hR:=Rows.nil (bR w4.drew.heap.size w4.drew);generalize w4.drew=w5 at *;show Wf _ _ _ _ _ _ 7 #[false,false,false,false,false,false,false] _ _;refine Wf.tk 0 16 rfl hR.bl ?_ (hy:=by intro w' hSw;obtain⟨c0',c1',c2',c3',c4',c5',c6',c7'⟩:=(HX5.out.below hSw).cells;simp only at c0' c1' c2' c3' c4' c5' c6' c7';go_simp;try with_reducible rfl);refine Wf.tk 1 17 rfl hR.bl ?_;refine Wf.tk 2 18 rfl hR.bl ?_;refine Wf.tk 3 19 rfl hR.bl ?_;refine Wf.tk 4 20 rfl hR.bl ?_ (hy:=by intro w' hSw;obtain⟨t0,t1,t2,t3,t4,t5,t6,t7,t8⟩:=HTC.out w' hSw;go_simp;try with_reducible rfl);refine Wf.om 5 21 rfl fun K hK=>?_;go_simp;refine HCA.out.mono ?_;rintro e x ⟨v',m',rfl,hm2,hs2,hb⟩;obtain⟨v'',hv''⟩:∃ v'',v''=v':=⟨_,rfl⟩;obtain⟨B0,e0,B1,e1,B2,e2,B3,e3,B4,e4,B5,e5,B6,e6,B7,e7,hv'⟩:=hm2.forms;subst hv';subst hv'';generalize hl0:m'.types.length=l0 at *;clear hl0;generalize hl1:m'.imps.length=l1 at *;clear hl1;generalize hl2:m'.funs.length=l2 at *;clear hl2;generalize hl3:m'.mems.length=l3 at *;clear hl3;generalize hl4:m'.globs.length=l4 at *;clear hl4;generalize hl5:m'.exps.length=l5 at *;clear hl5;generalize hl6:m'.datas.length=l6 at *;clear hl6;generalize hl7:m'.cus.length=l7 at *;clear hl7;have HM2:=hD hm2;have HS2:=hD hs2;clear hm2 hs2;replace hR:=Rows.nil hb;clear hb;simp only[Mv.cells];go_wp2_with fail
   refine hK.out _ _ (.inr hR.bl) ?_;clear hK K;try simp only[sA,List.set]
   refine Wf.on 6 rfl fun K hK=>?_;have hY:=HX5.out.below hR.bl;obtain⟨g0,g1,g2,g3,g4,g5,g6,g7⟩:=hY.cells;simp only at g0 g1 g2 g3 g4 g5 g6 g7;have f0:=hY.frozen 0;have f1:=hY.frozen 1;have f2:=hY.frozen 2;have f3:=hY.frozen 3;have f4:=hY.frozen 4;have f5:=hY.frozen 5;have f6:=hY.frozen 6;have f7:=hY.frozen 7;clear hY;go_simp;refine hK.out _ _ (.inl rfl) ?_;clear hK K;refine Wf.done (by kernel_rfl) ?_ _;have hb9:=HX5.out.fill (x:=x) hR.bl HM2.out HS2.out;simp only[fill8]at hb9;have HB9:=hD hb9;clear hb9 hR g0 f0 g1 f1 g2 f2 g3 f3 g4 f4 g5 f5 g6 f6 g7 f7;go_wp2;go_roundw
   case rel=>exact⟨j+1,_,m',by omega,by go_num,HB9⟩
   case measure=>simp[intOf];omega
  ·have HB4:Hid (OBox w w4 ⟨.slice A0 n0 c0,.slice A1 n1 c1,.slice A2 n2 c2,.slice A3 n3 c3,.slice A4 n4 c4,.slice A5 n5 c5,.slice A6 n6 c6,.slice A7 n7 c7⟩ m1 4):=hD ⟨HB.out.box,HB.out.res,HB.out.at_,HB.out.sz.le hj,HB.out.bl,HB.out.two⟩;clear HB;obtain⟨kk0,kk1,kk2,kk3,kk4,kk5,kk6,kk7⟩:=HB4.out.cells;simp only at kk0 kk1 kk2 kk3 kk4 kk5 kk6 kk7;obtain⟨z0,s0⟩:=Vc HB4.out.res 0 (by omega);obtain⟨z1,s1⟩:=Vc HB4.out.res 1 (by omega);obtain⟨z2,s2⟩:=Vc HB4.out.res 2 (by omega);obtain⟨z3,s3⟩:=Vc HB4.out.res 3 (by omega);obtain⟨z4,s4⟩:=Vc HB4.out.res 4 (by omega);obtain⟨z5,s5⟩:=Vc HB4.out.res 5 (by omega);obtain⟨z6,s6⟩:=Vc HB4.out.res 6 (by omega);obtain⟨z7,s7⟩:=Vc HB4.out.res 7 (by omega);have HFL:=hD (fill8_at HB4.out.res ⟨.slice A0 n0 c0,.slice A1 n1 c1,.slice A2 n2 c2,.slice A3 n3 c3,.slice A4 n4 c4,.slice A5 n5 c5,.slice A6 n6 c6,.slice A7 n7 c7⟩);have HFIN:Hid (OddsPost w (.returned (.agg #[.slice A0 n0 c0,.slice A1 n1 c1,.slice A2 n2 c2,.slice A3 n3 c3,.slice A4 n4 c4,.slice A5 n5 c5,.slice A6 n6 c6,.slice A7 n7 c7])) (fill8 w4 (w.heap.size+1) ⟨.slice A0 n0 c0,.slice A1 n1 c1,.slice A2 n2 c2,.slice A3 n3 c3,.slice A4 n4 c4,.slice A5 n5 c5,.slice A6 n6 c6,.slice A7 n7 c7⟩)):=hD ⟨⟨.slice A0 n0 c0,.slice A1 n1 c1,.slice A2 n2 c2,.slice A3 n3 c3,.slice A4 n4 c4,.slice A5 n5 c5,.slice A6 n6 c6,.slice A7 n7 c7⟩,m1,rfl,HB4.out.at_.keep ((Uc _ _ _).mono fun _ hk e=>by have:=hk.2;omega) (fun _ hk=>WK hk.1 (Uc _ _ _).size),HB4.out.sz,below_fill8 HB4.out.bl (by omega) _⟩;clear HB4 HTS;by_cases h1:j<nt
   ·have hd0:decide ((j:Int)<(nt:Int))=true:=by simp;omega
    have hd1:decide ((j:Int)<4)=false:=by simp;omega
    exact Zbx
   ·have hd0:decide ((j:Int)<(nt:Int))=false:=by simp;omega
    exact Zbx
end
section
theorem ZbK {P:Prop}(h:P:=by
 intro j k hjk hlt;rw[V5 _ _ _ _ hk0,V5 _ _ _ _ hk0];have:=h6 j k hjk hlt;by_cases e:j=k0
 ·subst e;rw[if_pos rfl,if_neg (by omega)];exact this
 ·rw[if_neg e];by_cases e2:k=k0
  ·subst e2;rw[if_pos rfl];exact this
  ·rw[if_neg e2];exact this):P:=h
theorem Zcv {P:Prop}(h:P:=by
 intro j hj;rw[V5 _ _ _ _ hk0];by_cases e:j=k0
 ·rw[if_pos e];simp only;omega
 ·rw[if_neg e];have:=h5 j hj;omega):P:=h
abbrev Sp:=Int×Int×Int
structure MSt where
 out:List Sp
 op:List Nat
 deep:Nat
def VQ (l:List Sp) (k:Nat):Sp:=l.getD k (0,0,0)
def mstep (ops:List Int) (z:Int) (i:Nat) (s:MSt):Option MSt :=
 if 2≤ops.getD i 0∧ops.getD i 0≤4 then some ⟨s.out++[((i:Int),-1,z)],s.op++[s.out.length],max s.deep (s.op.length+1)⟩
 else if ops.getD i 0=5 then
  (match s.op.getLast? with
   | none=>none
   | some k=>if ops.getD (VQ s.out k).1.toNat 0=4∧(VQ s.out k).2.1 = -1 then some ⟨s.out.set k ((VQ s.out k).1,(i:Int),(VQ s.out k).2.2),s.op,s.deep⟩ else none)
 else if ops.getD i 0=11 then
  (match s.op.getLast? with
   | none=>none
   | some k=>some ⟨s.out.set k ((VQ s.out k).1,(VQ s.out k).2.1,(i:Int)),s.op.dropLast,s.deep⟩)
 else some s
theorem spAt_snoc (l:List Sp) (x:Sp) (k:Nat):VQ (l++[x]) k=if k=l.length then x else VQ l k:=by
 unfold VQ;rw[List.getD_eq_getElem?_getD,List.getD_eq_getElem?_getD,List.getElem?_append];by_cases h:k<l.length
 ·rw[if_pos h,if_neg (by omega)]
 ·rw[if_neg h];by_cases h2:k=l.length
  ·rw[if_pos h2,h2];simp
  ·rw[if_neg h2,List.getElem?_eq_none (by simp;omega),List.getElem?_eq_none (by omega)]
theorem V5 (l:List Sp) (x:Sp) (j k:Nat) (hj:j<l.length):VQ (l.set j x) k=if k=j then x else VQ l k:=by
 unfold VQ;rw[List.getD_eq_getElem?_getD,List.getD_eq_getElem?_getD,List.getElem?_set];by_cases h:j=k
 ·subst h;rw[if_pos rfl,if_pos rfl,if_pos hj];rfl
 ·rw[if_neg h,if_neg (fun e=>h e.symm)]
theorem last_split {l:List Nat} {k:Nat} (h:l.getLast?=some k):l=l.dropLast++[k]:=by
 rcases List.eq_nil_or_concat l with rfl|⟨t,x,rfl⟩
 ·simp at h
 ·rw[List.concat_eq_append]at h ⊢;rw[List.getLast?_append]at h;simp at h;subst h;simp
theorem mstep_cases {ops:List Int} {z:Int} {i:Nat} {s t:MSt} (h:mstep ops z i s=some t) :
 ((2≤ops.getD i 0∧ops.getD i 0≤4)∧t=⟨s.out++[((i:Int),-1,z)],s.op++[s.out.length],max s.deep (s.op.length+1)⟩) ∨
 (∃ k,ops.getD i 0=5∧s.op=s.op.dropLast++[k]∧ops.getD (VQ s.out k).1.toNat 0=4∧(VQ s.out k).2.1 = -1∧t=⟨s.out.set k ((VQ s.out k).1,(i:Int),(VQ s.out k).2.2),s.op,s.deep⟩) ∨
 (∃ k,ops.getD i 0=11∧s.op=s.op.dropLast++[k]∧t=⟨s.out.set k ((VQ s.out k).1,(VQ s.out k).2.1,(i:Int)),s.op.dropLast,s.deep⟩) ∨
 ((¬ (2≤ops.getD i 0∧ops.getD i 0≤4)∧ops.getD i 0≠5∧ops.getD i 0≠11)∧t=s):=by
 unfold mstep at h;by_cases h1:2≤ops.getD i 0∧ops.getD i 0≤4
 ·rw[if_pos h1]at h;exact .inl ⟨h1,(Option.some.inj h).symm⟩
 ·rw[if_neg h1]at h;by_cases h2:ops.getD i 0=5
  ·rw[if_pos h2]at h;cases hk:s.op.getLast? with
   | none=>rw[hk]at h;cases h
   | some k =>
    rw[hk]at h;by_cases h3:ops.getD (VQ s.out k).1.toNat 0=4∧(VQ s.out k).2.1 = -1
    ·simp only[if_pos h3]at h;exact .inr (.inl ⟨k,h2,last_split hk,h3.1,h3.2,(Option.some.inj h).symm⟩)
    ·simp only[if_neg h3]at h;cases h
  ·rw[if_neg h2]at h;by_cases h3:ops.getD i 0=11
   ·rw[if_pos h3]at h;cases hk:s.op.getLast? with
    | none=>rw[hk]at h;cases h
    | some k=>rw[hk]at h;exact .inr (.inr (.inl ⟨k,h3,last_split hk,(Option.some.inj h).symm⟩))
   ·rw[if_neg h3]at h;exact .inr (.inr (.inr ⟨⟨h1,h2,h3⟩,(Option.some.inj h).symm⟩))
structure MInv (ops:List Int) (i:Nat) (s:MSt):Prop where
 opl:s.op.length≤s.out.length
 outl:s.out.length≤i
 lt:∀ k ∈ s.op,k<s.out.length
 asc:s.op.Pairwise (·<·)
 a0:∀ j,j<s.out.length→0≤(VQ s.out j).1∧(VQ s.out j).1<i
 am:∀ j k,j<k→k<s.out.length→(VQ s.out j).1<(VQ s.out k).1
 zz:∀ j,j<s.out.length→j ∉ s.op→(VQ s.out j).1<(VQ s.out j).2.2∧(VQ s.out j).2.2<i∧ops.getD (VQ s.out j).2.2.toNat 0=11
 ee:∀ j,j<s.out.length→(VQ s.out j).2.1 = -1∨((VQ s.out j).1<(VQ s.out j).2.1∧(VQ s.out j).2.1<i∧ops.getD (VQ s.out j).1.toNat 0=4∧(j ∉ s.op→(VQ s.out j).2.1<(VQ s.out j).2.2))
 nz:∀ j k,j<k→k<s.out.length→j ∉ s.op→(VQ s.out k).1<(VQ s.out j).2.2→k ∉ s.op∧(VQ s.out k).2.2<(VQ s.out j).2.2
 ne:∀ j k,j<k→k<s.out.length→(VQ s.out j).2.1 ≠ -1→(VQ s.out k).1<(VQ s.out j).2.1→k ∉ s.op∧(VQ s.out k).2.2<(VQ s.out j).2.1
theorem top_max {l:List Nat} {k:Nat} (h:(l++[k]).Pairwise (·<·)):∀ j ∈ l,j<k:=fun j hj=>by
 have:=List.pairwise_append.1 h;exact this.2.2 j hj k (by simp)
theorem MInv.step {ops:List Int} {z:Int} {i:Nat} {s t:MSt} (h:MInv ops i s) (hs:mstep ops z i s=some t):MInv ops (i+1) t:=by
 obtain⟨h1,h2,h3,h4,h5,h6,h7,h8,h9,h10⟩:=h;rcases mstep_cases hs with ⟨_,rfl⟩|⟨k0,hop,hk,h4i,he,rfl⟩|⟨k0,hop,hk,rfl⟩|⟨_,rfl⟩
 ·have hout:∀ j,j ∈ s.op++[s.out.length]↔j ∈ s.op∨j=s.out.length:=fun j=>by simp
  refine⟨by simp;omega,by simp;omega,?_,?_,?_,?_,?_,?_,?_,?_⟩
  ·intro k hk;simp only[hout]at hk;simp only[List.length_append,List.length_singleton];rcases hk with hk|rfl
   ·have:=h3 k hk;omega
   ·omega
  ·refine List.pairwise_append.2 ⟨h4,by simp,fun a ha b hb=>?_⟩;obtain rfl:=List.mem_singleton.1 hb;exact h3 a ha
  ·intro j hj;simp only[List.length_append,List.length_singleton]at hj;simp only[spAt_snoc];by_cases e:j=s.out.length
   ·rw[if_pos e];simp only;omega
   ·rw[if_neg e];have:=h5 j (by omega);omega
  ·intro j k hjk hk;simp only[List.length_append,List.length_singleton]at hk;simp only[spAt_snoc];rw[if_neg (by omega)];by_cases e:k=s.out.length
   ·rw[if_pos e];have:=h5 j (by omega);simp only;omega
   ·rw[if_neg e];exact h6 j k hjk (by omega)
  ·intro j hj hn;simp only[List.length_append,List.length_singleton]at hj;simp only[hout,not_or]at hn;simp only[spAt_snoc];rw[if_neg hn.2];have:=h7 j (by omega) hn.1;exact⟨this.1,by omega,this.2.2⟩
  ·intro j hj;simp only[List.length_append,List.length_singleton]at hj;simp only[hout,not_or,spAt_snoc];by_cases e:j=s.out.length
   ·rw[if_pos e];exact .inl rfl
   ·rw[if_neg e];rcases h8 j (by omega) with q|⟨q1,q2,q3,q4⟩
    ·exact .inl q
    ·exact .inr ⟨q1,by omega,q3,fun hn=>q4 hn.1⟩
  ·intro j k hjk hk hn;simp only[List.length_append,List.length_singleton]at hk;simp only[hout,not_or]at hn ⊢;simp only[spAt_snoc];rw[if_neg (show ¬ j=s.out.length by omega)];by_cases e:k=s.out.length
   ·rw[if_pos e];intro hlt;have:=h7 j (by omega) hn.1;simp only at hlt;omega
   ·rw[if_neg e];intro hlt;have:=h9 j k hjk (by omega) hn.1 hlt;exact⟨⟨this.1,e⟩,this.2⟩
  ·intro j k hjk hk hn;simp only[List.length_append,List.length_singleton]at hk;simp only[hout,not_or]at hn ⊢;simp only[spAt_snoc]at hn ⊢;rw[if_neg (show ¬ j=s.out.length by omega)]at hn ⊢;by_cases e:k=s.out.length
   ·rw[if_pos e];intro hlt;rcases h8 j (by omega) with q|⟨q1,q2,_⟩
    ·exact absurd q hn
    ·simp only at hlt;omega
   ·rw[if_neg e];intro hlt;have:=h10 j k hjk (by omega) hn hlt;exact⟨⟨this.1,e⟩,this.2⟩
 ·have hk0:k0<s.out.length:=h3 k0 (by rw[hk];simp);have hin:k0 ∈ s.op:=by rw[hk];simp
  have hab:∀ k,k0<k→k ∉ s.op:=fun k hlt hm=>by
   rw[hk]at hm h4;rcases List.mem_append.1 hm with hm|hm
   ·have:=top_max h4 k hm;omega
   ·obtain rfl:=List.mem_singleton.1 hm;omega
  have a5:=h5 k0 hk0;refine⟨by simpa using h1,by simp;omega,fun k hk'=>by simpa using h3 k hk',h4,?_,?_,?_,?_,?_,?_⟩
  all_goals simp only[List.length_set]
  ·exact Zcv
  ·exact ZbK
  ·intro j hj hn;rw[V5 _ _ _ _ hk0,if_neg (fun e=>hn (by rw[e];exact hin))];have:=h7 j hj hn;exact⟨this.1,by omega,this.2.2⟩
  ·intro j hj;rw[V5 _ _ _ _ hk0];by_cases e:j=k0
   ·subst e;rw[if_pos rfl];exact .inr ⟨by simp only;omega,by simp only;omega,h4i,fun hn=>absurd hin hn⟩
   ·rw[if_neg e];rcases h8 j hj with q|⟨q1,q2,q3,q4⟩
    ·exact .inl q
    ·exact .inr ⟨q1,by omega,q3,q4⟩
  ·intro j k hjk hlt hn;rw[V5 _ _ _ _ hk0,V5 _ _ _ _ hk0,if_neg (fun e:j=k0=>hn (by rw[e];exact hin))];by_cases e2:k=k0
   ·subst e2;rw[if_pos rfl];intro hl;exact absurd hin (h9 j k hjk hlt hn hl).1
   ·rw[if_neg e2];intro hl;exact h9 j k hjk hlt hn hl
  ·intro j k hjk hlt;rw[V5 _ _ _ _ hk0,V5 _ _ _ _ hk0];by_cases e:j=k0
   ·subst e;rw[if_pos rfl,if_neg (by omega)];intro _ _;have hn:=hab k hjk;have:=h7 k hlt hn;exact⟨hn,this.2.1⟩
   ·rw[if_neg e];intro hn;by_cases e2:k=k0
    ·subst e2;rw[if_pos rfl];intro hl;exact absurd hin (h10 j k hjk hlt hn hl).1
    ·rw[if_neg e2];intro hl;exact h10 j k hjk hlt hn hl
 ·have hk0:k0<s.out.length:=h3 k0 (by rw[hk];simp);have hin:k0 ∈ s.op:=by rw[hk];simp
  have hpw:=h4;rw[hk]at hpw;have htop:=top_max hpw;have hmem:∀ j,j ∈ s.op↔j ∈ s.op.dropLast∨j=k0:=fun j=>by
   constructor
   ·intro h;rw[hk]at h;simpa using h
   ·intro h;rw[hk];simpa using h
  have hab:∀ k,k0<k→k ∉ s.op:=fun k hlt hm=>by
   rcases(hmem k).1 hm with hm|rfl
   ·have:=htop k hm;omega
   ·omega
  have hnt:k0 ∉ s.op.dropLast:=fun hm=>by have:=htop k0 hm;omega
  have a5:=h5 k0 hk0;have hdl:s.op.dropLast.length≤s.op.length:=by simp
  refine⟨by simp only[List.length_set];omega,by simp only[List.length_set];omega,fun k hk'=>by simpa using h3 k ((hmem k).2 (.inl hk')),(List.pairwise_append.1 hpw).1,?_,?_,?_,?_,?_,?_⟩
  all_goals simp only[List.length_set]
  ·exact Zcv
  ·exact ZbK
  ·intro j hj hn;rw[V5 _ _ _ _ hk0];by_cases e:j=k0
   ·subst e;rw[if_pos rfl];exact⟨by simp only;omega,by simp only;omega,by simpa using hop⟩
   ·rw[if_neg e];have:=h7 j hj (fun hm=>((hmem j).1 hm).elim hn e);exact⟨this.1,by omega,this.2.2⟩
  ·intro j hj;rw[V5 _ _ _ _ hk0];by_cases e:j=k0
   ·subst e;rw[if_pos rfl];rcases h8 j hj with q|⟨q1,q2,q3,q4⟩
    ·exact .inl q
    ·exact .inr ⟨q1,by simp only;omega,q3,fun _=>by simp only;omega⟩
   ·rw[if_neg e];rcases h8 j hj with q|⟨q1,q2,q3,q4⟩
    ·exact .inl q
    ·exact .inr ⟨q1,by omega,q3,fun hn=>q4 (fun hm=>((hmem j).1 hm).elim hn e)⟩
  ·intro j k hjk hlt hn;rw[V5 _ _ _ _ hk0,V5 _ _ _ _ hk0];by_cases e:j=k0
   ·subst e;rw[if_pos rfl,if_neg (by omega)];intro hl;have hn2:=hab k hjk;have:=h7 k hlt hn2;exact⟨fun hm=>hn2 ((hmem k).2 (.inl hm)),this.2.1⟩
   ·rw[if_neg e];have hn2:j ∉ s.op:=fun hm=>((hmem j).1 hm).elim hn e;by_cases e2:k=k0
    ·subst e2;rw[if_pos rfl];intro hl;exact absurd hin (h9 j k hjk hlt hn2 hl).1
    ·rw[if_neg e2];intro hl;have:=h9 j k hjk hlt hn2 hl;exact⟨fun hm=>this.1 ((hmem k).2 (.inl hm)),this.2⟩
  ·intro j k hjk hlt;rw[V5 _ _ _ _ hk0,V5 _ _ _ _ hk0];by_cases e:j=k0
   ·subst e;rw[if_pos rfl,if_neg (by omega)];intro hne hl;have:=h10 j k hjk hlt hne hl;exact⟨fun hm=>this.1 ((hmem k).2 (.inl hm)),this.2⟩
   ·rw[if_neg e];intro hne;by_cases e2:k=k0
    ·subst e2;rw[if_pos rfl];intro hl;exact absurd hin (h10 j k hjk hlt hne hl).1
    ·rw[if_neg e2];intro hl;have:=h10 j k hjk hlt hne hl;exact⟨fun hm=>this.1 ((hmem k).2 (.inl hm)),this.2⟩
 ·exact⟨h1,by omega,h3,h4,fun j hj=>by have:=h5 j hj;omega,h6,fun j hj hn=>by have:=h7 j hj hn;exact⟨this.1,by omega,this.2.2⟩,fun j hj=>by
   rcases h8 j hj with q|⟨q1,q2,q3,q4⟩
   ·exact .inl q
   ·exact .inr ⟨q1,by omega,q3,q4⟩,h9,h10⟩
end
section
open Go.RowKit
def CodeAt (w:World) (A:Option Addr) (m:Nat) (ops:List Int):Prop :=
 0<m→∃ g o:Nat,A=some ⟨g,o,none⟩∧g<w.heap.size∧∀ j,j<m→∃ (u1 u2 u3:Int) (Al:Option Addr) (nl cl:Nat),w.cell? ⟨g,o+j * 5,none⟩=some (.int .i64 (ops.getD j 0))∧w.cell? ⟨g,o+j * 5+1,none⟩=some (.int .i64 u1)∧w.cell? ⟨g,o+j * 5+2,none⟩=some (.int .i64 u2)∧w.cell? ⟨g,o+j * 5+3,none⟩=some (.int .u64 u3)∧w.cell? ⟨g,o+j * 5+4,none⟩=some (.slice Al nl cl)
theorem CodeAt.below {w w':World} {A:Option Addr} {m:Nat} {ops:List Int} (h:CodeAt w A m ops) (hb:Below w.heap.size w w'):CodeAt w' A m ops:=fun hm=>by
 obtain⟨g,o,e,hg,hc⟩:=h hm;refine⟨g,o,e,WK hg hb.size,fun j hj=>?_⟩;obtain⟨u1,u2,u3,Al,nl,cl,h0,h1,h2,h3,h4⟩:=hc j hj;exact⟨u1,u2,u3,Al,nl,cl,(hb.cell (p:=⟨g,o+j * 5,none⟩) hg).trans h0,(hb.cell (p:=⟨g,o+j * 5+1,none⟩) hg).trans h1,(hb.cell (p:=⟨g,o+j * 5+2,none⟩) hg).trans h2,(hb.cell (p:=⟨g,o+j * 5+3,none⟩) hg).trans h3,(hb.cell (p:=⟨g,o+j * 5+4,none⟩) hg).trans h4⟩
section
variable {ops:List Int} {z:Int} {i:Nat} {s:MSt}
end
end
section
open Go.RowKit
set_option maxRecDepth 100000
theorem Zbc {P:Prop}(h:P:=by
 rw[hlen]at h0;have c0:=hcell 0 (by omega);have hspot:a.spot=none:=by
  have e:a.add 0=a:=by unfold Addr.add;simp
  rw[e]at c0;unfold World.cell? at c0
  split at c0
  ·split at c0
   ·cases c0
   ·rename_i h2;simpa using h2
  ·cases c0
 obtain⟨g,o,sp⟩:=a;obtain rfl:sp=none:=hspot;refine⟨g,o,rfl,wL W _ (by rw[Addr.add_lit]at c0;exact c0),fun j hj=>?_⟩;rw[hlen]at hj;have cj:=hcell j (by omega);rw[Addr.add_lit]at cj;rw[cj,List.getD_eq_getElem?_getD,List.getD_eq_getElem?_getD,List.getElem?_take,if_pos hj]):P:=h
theorem WO.code {w:World} {v:Value} {c:List Ins} (h:WO (fun k=>k<w.heap.size) w v c):∃ A cap,v=.slice A c.length cap∧c.length≤cap∧CodeAt w A c.length (c.map Ins.op):=by
 obtain⟨A,cap,rfl,h1,_,_,h3⟩:=h;refine⟨A,cap,rfl,h1,fun hm=>?_⟩;obtain⟨g,o,rfl,hg,hc⟩:=h3 hm;refine⟨g,o,rfl,hg,fun j hj=>?_⟩;have hop:(c.map Ins.op).getD j 0=(c.getD j VX).op:=by
  rw[List.getD_eq_getElem?_getD,List.getD_eq_getElem?_getD,List.getElem?_map,List.getElem?_eq_getElem hj];rfl
 obtain⟨u0,k0,rfl⟩:=hc j 0 hj (by omega);obtain⟨u1,k1,rfl⟩:=hc j 1 hj (by omega);obtain⟨u2,k2,rfl⟩:=hc j 2 hj (by omega);obtain⟨u3,k3,rfl,_⟩:=hc j 3 hj (by omega);obtain⟨u4,k4,h4⟩:=hc j 4 hj (by omega);obtain⟨Al,cl,rfl,_⟩:=Wh.form h4.1;rw[hop];exact⟨_,_,_,Al,_,cl,k0,k1,k2,k3,k4⟩
theorem FunsK.at_ {w:World} {g o m c:Nat} {l:List Fnc} (h:FunsK (fun k=>k<w.heap.size) w (.slice (some ⟨g,o,none⟩) m c) l) (j:Nat) (hj:j<l.length) :
 ∃ (Al:Option Addr) (nl cl:Nat) (Ac:Option Addr) (cc:Nat),w.cell? ⟨g,o+j * 3,none⟩=some (.int .i64 (l.getD j WW).ty)∧w.cell? ⟨g,o+j * 3+1,none⟩=some (.slice Al nl cl)∧w.cell? ⟨g,o+j * 3+2,none⟩=some (.slice Ac (l.getD j WW).code.length cc)∧(l.getD j WW).code.length≤cc∧CodeAt w Ac (l.getD j WW).code.length ((l.getD j WW).code.map Ins.op):=by
 obtain⟨u0,k0,rfl⟩:=Wb.at_ h j 0 hj (by omega);obtain⟨u1,k1,h1⟩:=Wb.at_ h j 1 hj (by omega);obtain⟨u2,k2,h2⟩:=Wb.at_ h j 2 hj (by omega);obtain⟨Al,cl,rfl,_⟩:=Wh.form h1;obtain⟨Ac,cc,rfl,hcc,hcd⟩:=WO.code h2;exact⟨Al,_,cl,Ac,cc,k0,k1,k2,hcc,hcd⟩
open Go.ChangeShapes Go.WideShapes
theorem Tryz.laidOutAll:laidOutB Tryz.prog=true:=by kernel_rfl
theorem Tryz.cells_int:Tryz.prog.cellsOf 3=1:=by kernel_rfl
theorem open_intsK {H:Type} {enc:TypeId×Value→H} {W:World} {r:Reach} {b0:Nat} {v:Value} {d:DataW H} {ps:List MemPlace} (hval:Value.okWide Tryz.prog W r b0 22 v)
 (h:DataW.Trod enc Tryz.prog W 0 (fun _=>true) true 22 v d ps) :
 ∃ l:List Int,Wh (fun k=>k<W.heap.size) W v l∧∀ z ∈ l,(Lit.int .i64 z).wf=true:=by
 obtain⟨a0,len,cap,rfl⟩:=okWide_slice Tryz.underlying22 hval;obtain⟨fuel,hf⟩:=h;rcases open_ints Tryz.underlying22 Tryz.underlying3 Tryz.cells_int hf with ⟨hcs,_⟩|⟨a,len',cap',zs,hcs,_,hl,hm,hz,_,hcell,hwz⟩
 ·simp[Value.cells]at hcs;obtain⟨rfl,rfl,rfl⟩:=hcs;exact⟨[],Wh.nil _ W,by simp⟩
 ·simp[Value.cells]at hcs;obtain⟨rfl,rfl,rfl⟩:=hcs;simp only[if_true]at hz;have hlen:(zs.take len).length=len:=by rw[List.length_take];omega
  refine⟨zs.take len,⟨some a,cap,by rw[hlen],by rw[hlen];omega,(fun h=>by cases h),fun h0=>?_⟩,fun z hzm=>hwz z (List.mem_of_mem_take hzm)⟩;exact Zbc
end
section
open Go.RowKit Go.ChangeShapes Go.WideShapes Go.Deep
set_option maxRecDepth 100000
theorem ZbE {P:Prop}(h:P:=by
 obtain⟨g,o,sp⟩:=a;obtain rfl:sp=none:=hspot;refine⟨g,o,rfl,show g<W.heap.size from wL W _ (by rw[Addr.add_lit]at c0;exact c0),fun j i hj hi'=>?_⟩;rw[h1]at hj;obtain⟨u,h3,h4⟩:=h2 j hj i hi';rw[Addr.add_lit]at h3;exact⟨u,by rw[Nat.add_assoc];exact h3,h4⟩):P:=h
theorem ZcE {P:Prop}(h:P:=by
 rw[e]at c0;unfold World.cell? at c0
 split at c0
 ·split at c0
  ·cases c0
  ·rename_i h2;simpa using h2
 ·cases c0):P:=h
theorem VZ {cs:List Value} {o:Nat} {u:Value} (h:(cs.drop o).take 1=[u]):cs[o]?=some u:=by
 have h2:=congrArg (fun l=>l[0]?) h;simpa [List.getElem?_take,List.getElem?_drop] using h2
theorem weights_all {H:Type} {P:Program} {e:TypeId}:∀ {l:List (DataW H)} {d:DataW H},d ∈ l→∀ n ∈ DataW.weights P e d,n ∈ DataW.weightsAll P e l
 | x :: r,d,hd,n,hn=>by
  simp only[DataW.weightsAll,List.mem_append];rcases List.mem_cons.1 hd with rfl|h
  ·exact .inl hn
  ·exact .inr (weights_all h n hn)
theorem weights_field {H:Type} {P:Program} {t tj:TypeId} {fs:Array Field} {parts:List (DataW H)} {j:Nat} {d:DataW H} (hu:P.underlying t=some (.struct fs)) (ht:(fs.toList.map (·.type))[j]?=some tj) (hd:parts[j]?=some d) {n:Nat} (hn:n ∈ DataW.weights P tj d):n ∈ DataW.weights P t (.agg parts):=by
 simp only[DataW.weights,hu];exact DataW.weights_mem_each ht hd n hn
def Fits {H:Type} (t:TypeId) (d:DataW H):Prop:=∀ n ∈ DataW.weights Tryz.prog t d,n≤reachBytes
theorem Tryz.bytes_int:Tryz.prog.bytesOf 3=8:=by kernel_rfl
theorem UO {H:Type} {enc:TypeId×Value→H} {W:World} {n:Nat} {cs:List Value} {y:DataW H×List MemPlace} (h:DataW.trod enc Tryz.prog W 0 (fun _=>true) true n 22 cs=some y) :
 ∃ u l,cs=[u]∧Wh (fun k=>k<W.heap.size) W u l∧(Fits 22 y.1→fitN l.length):=by
 rcases open_ints Tryz.underlying22 Tryz.underlying3 Tryz.cells_int h with ⟨hcs,_⟩|⟨a,len,cap,zs,hcs,_,hl,hm,hz,hy,hcell,hwz⟩
 ·exact⟨_,[],hcs,Wh.nil _ W,fun _=>by unfold fitN;simp⟩
 ·simp only[if_true]at hz;have hlen:(zs.take len).length=len:=by rw[List.length_take];omega
  have hfit:Fits 22 y.1→fitN (zs.take len).length:=fun hf=>by
   subst hy;have h9:=hf _ (by simp only[DataW.weights,Tryz.underlying22];exact List.mem_cons_self ..);rw[Tryz.bytes_int]at h9;have e1:(lits (H:=H) .i64 (zs.take len)).length=len:=by simp[lits];omega
   unfold fitN reachBytes at *;rw[hlen];simp only[e1]at h9;omega
  refine⟨_,zs.take len,hcs,⟨some a,cap,by rw[hlen],by rw[hlen];omega,(fun h=>by cases h),fun h0=>?_⟩,hfit⟩;exact Zbc
theorem some_at {α:Type} {l:List α} {n i:Nat} (h:l.length=n) (hi:i<n):∃ y,l[i]?=some y:=⟨_,List.getElem?_eq_getElem (by omega)⟩
theorem WH {H:Type} {enc:TypeId×Value→H} {W:World} {n o:Nat} {k:IntKind} {t:TypeId} {cs:List Value} {xs:List (DataW H×List MemPlace)} {i m:Nat} (ht:Tryz.prog.underlying t=some (.int k)) (hc:Tryz.prog.cellsOf t=1) (hx:xs.length=m) (hi:i<m) (h:DataW.trod enc Tryz.prog W 0 (fun _=>true) true n t ((cs.drop o).take (Tryz.prog.cellsOf t))=xs[i]?):∃ z,cs[o]?=some (.int k z)∧(Lit.int k z).wf=true:=by
 obtain⟨y,hy⟩:=some_at hx hi;rw[hy,hc]at h;obtain⟨z,hz,_,hw⟩:=DataW.trod_int ht h;exact⟨z,VZ hz,hw⟩
theorem word_wf {z:Int} (h:(Lit.int .u64 z).wf=true):V7 z:=by
 simp only[Lit.wf,Bool.and_eq_true,decide_eq_true_eq]at h;exact h
theorem Tryz.cells_u64:Tryz.prog.cellsOf 24=1:=by kernel_rfl
theorem Tryz.cells_ints:Tryz.prog.cellsOf 22=1:=by kernel_rfl
theorem Tryz.cells_inst:Tryz.prog.cellsOf 26=5:=by kernel_rfl
theorem Tryz.cells_turn:Tryz.prog.cellsOf 79=9:=by kernel_rfl
theorem turn_of_trod {H:Type} {enc:TypeId×Value→H} {W:World} {n:Nat} {cs:List Value} {y:DataW H×List MemPlace} (h:DataW.trod enc Tryz.prog W 0 (fun _=>true) true n 79 cs=some y) :
 Fits 79 y.1→∃ t:Trn,∀ i,i<9→∃ u,cs[i]?=some u∧trnCell (lt W) W t i u:=by
 intro hfy;obtain⟨xs,n1,_,hy,hl,hx,hf⟩:=DataW.trod_struct Tryz.underlying79 h;have hx5:xs.length=5:=hx;obtain⟨z0,e0,ve0⟩:=WH (o:=0) Tryz.underlying3 Tryz.cells_int hx5 (by decide) (hf 0 _ rfl);obtain⟨z1,e1,ve1⟩:=WH (o:=1) Tryz.underlying3 Tryz.cells_int hx5 (by decide) (hf 1 _ rfl);obtain⟨z2,e2,ve2⟩:=WH (o:=2) Tryz.underlying3 Tryz.cells_int hx5 (by decide) (hf 2 _ rfl);obtain⟨z3,e3,ve3⟩:=WH (o:=3) Tryz.underlying24 Tryz.cells_u64 hx5 (by decide) (hf 3 _ rfl);obtain⟨y4,hy4⟩:=some_at hx5 (show 4<5 by decide);have h4:DataW.trod enc Tryz.prog W 0 (fun _=>true) true n1 26 ((cs.drop 4).take (Tryz.prog.cellsOf 26))=some y4:=(hf 4 _ rfl).trans hy4;rw[Tryz.cells_inst]at h4;obtain⟨ys,n2,_,hy2,_,hx',hg⟩:=DataW.trod_struct Tryz.underlying26 h4;have hy5:ys.length=5:=hx';have hin:∀ o,o<5→((cs.drop 4).take 5)[o]?=cs[4+o]?:=fun o ho=>by rw[List.getElem?_take,if_pos ho,List.getElem?_drop]
 obtain⟨z4,e4,ve4⟩:=WH (o:=0) Tryz.underlying3 Tryz.cells_int hy5 (by decide) (hg 0 _ rfl);obtain⟨z5,e5,ve5⟩:=WH (o:=1) Tryz.underlying3 Tryz.cells_int hy5 (by decide) (hg 1 _ rfl);obtain⟨z6,e6,ve6⟩:=WH (o:=2) Tryz.underlying3 Tryz.cells_int hy5 (by decide) (hg 2 _ rfl);obtain⟨z7,e7,ve7⟩:=WH (o:=3) Tryz.underlying24 Tryz.cells_u64 hy5 (by decide) (hg 3 _ rfl);obtain⟨y8,hy8⟩:=some_at hy5 (show 4<5 by decide);have h8:DataW.trod enc Tryz.prog W 0 (fun _=>true) true n2 22 ((((cs.drop 4).take 5).drop 4).take (Tryz.prog.cellsOf 22))=some y8:=(hg 4 _ rfl).trans hy8;rw[Tryz.cells_ints]at h8;obtain⟨u,l,hu,hL,hLf⟩:=UO h8;have hfit:fitN l.length:=hLf fun n hn=>hfy n (by
  subst hy;refine weights_field (j:=4) (d:=y4.1) Tryz.underlying79 rfl (by simp[hy4]) ?_;subst hy2;exact weights_field (j:=4) (d:=y8.1) Tryz.underlying26 rfl (by simp[hy8]) hn)
 have e8:=VZ hu;rw[hin _ (by decide)]at e4 e5 e6 e7 e8;refine⟨⟨z0,z1,z2,z3,⟨z4,z5,z6,z7,l⟩⟩,fun i hi=>?_⟩
 match i,hi with
 | 0,_=>exact⟨_,e0,rfl⟩
 | 1,_=>exact⟨_,e1,rfl⟩
 | 2,_=>exact⟨_,e2,rfl⟩
 | 3,_=>exact⟨_,e3,rfl,word_wf ve3⟩
 | 4,_=>exact⟨_,e4,rfl⟩
 | 5,_=>exact⟨_,e5,rfl⟩
 | 6,_=>exact⟨_,e6,rfl⟩
 | 7,_=>exact⟨_,e7,rfl,word_wf ve7⟩
 | 8,_=>exact⟨_,e8,hL,hfit⟩
 | _+9,h=>exact absurd h (by omega)
theorem lst_of {α:Type} (d:α) (P:Nat→α→Prop):∀ n,(∀ i,i<n→∃ x,P i x)→∃ l:List α,l.length=n∧∀ i,i<n→P i (l.getD i d)
 | 0,_=>⟨[],rfl,fun _ h=>absurd h (Nat.not_lt_zero _)⟩
 | n+1,h=>by
  obtain⟨l,h1,h2⟩:=lst_of d P n fun i hi=>h i (by omega);obtain⟨x,hx⟩:=h n (by omega);refine⟨l++[x],by simp[h1],fun i hi=>?_⟩;by_cases e:i=n
  ·subst e;rw[List.getD_eq_getElem?_getD,List.getElem?_append_right (by omega),h1,Nat.sub_self];exact hx
  ·rw[List.getD_eq_getElem?_getD,List.getElem?_append_left (by omega),← List.getD_eq_getElem?_getD];exact h2 i (by omega)
theorem open_turns {H:Type} {enc:TypeId×Value→H} {W:World} {r:Reach} {b0:Nat} {v:Value} {d:DataW H} {ps:List MemPlace} (hval:Value.okWide Tryz.prog W r b0 23 v)
 (h:DataW.Trod enc Tryz.prog W 0 (fun _=>true) true 23 v d ps) (hz:Fits 23 d):∃ ts:List Trn,TrnsK (lt W) W v ts:=by
 obtain⟨a0,len,cap,rfl⟩:=okWide_slice Tryz.underlying23 hval;obtain⟨fuel,hf⟩:=h;rcases open_slice Tryz.underlying23 hf with ⟨hcs,_⟩|⟨a,len',cap',m,n,D,Pl,hcs,_,hl,hm,hmm,hx,hi⟩
 ·simp[Value.cells]at hcs;obtain⟨rfl,rfl,rfl⟩:=hcs;exact⟨[],none,0,rfl,nR _,nZ _,fun _=>rfl,fun h=>by simp at h⟩
 ·simp[Value.cells]at hcs;obtain⟨rfl,rfl,rfl⟩:=hcs;simp only[if_true]at hmm;subst hmm;rw[Tryz.cells_turn]at hi;obtain⟨ts,h1,h2⟩:=lst_of trn0 (fun i t=>∀ j,j<9→∃ u,W.cell? (a.add (i * 9+j))=some u∧trnCell (lt W) W t j u) len fun i hlt=>by
   obtain⟨cs',hc,ht⟩:=hi i (by omega);obtain⟨t,ht2⟩:=turn_of_trod ht fun n hn=>hz n (by
    have hd:d=_:=congrArg Prod.fst hx;rw[hd];simp only[DataW.weights,Tryz.underlying23];exact List.mem_cons_of_mem _ (List.mem_append.2 (.inl (weights_all (List.mem_map.2 ⟨i,List.mem_range.2 hlt,rfl⟩) n hn))))
   obtain⟨_,hcl,hat⟩:=World.cells?_some hc;exact⟨t,fun j hj=>by
    obtain⟨u,h3,h4⟩:=ht2 j hj;exact⟨u,by rw[← Go.Deep.add_add,hat j hj,h3],h4⟩⟩
  refine⟨ts,some a,_,by rw[h1],by omega,hm,(fun h=>by cases h),fun h0=>?_⟩;rw[h1]at h0;obtain⟨u0,c0,_⟩:=h2 0 h0 0 (by decide);have hspot:a.spot=none:=by
   have e:a.add (0 * 9+0)=a:=by unfold Addr.add;simp
   exact ZcE
  exact ZbE
end
section
open Go.RowKit
set_option maxHeartbeats 1000000
set_option maxRecDepth 10000
abbrev CntPost (l:List Nat) (w:World) (e:Ending) (w':World):Prop:=ValPost (.int .i64 (cntI l)) w e w'
theorem bytes_drop {w:World} {g o:Nat} {l:List Nat} (h:Bytes w (some ⟨g,o,none⟩) l) (c:Nat) (hc:c≤l.length):Bytes w (some ⟨g,o+c,none⟩) (l.drop c):=by
 have h2:=h.part c (l.length - c) (by omega) (some ⟨g,o+c,none⟩) (fun g' o' _ he=>by simp only[Option.some.injEq,Addr.mk.injEq]at he;obtain⟨rfl,rfl,_⟩:=he;rfl)
 rwa [List.take_of_length_le (by rw[List.length_drop];exact nR _)]at h2
theorem count_any (A:Option Addr) (n cap:Nat) (l:List Nat) (hl:l.length=n) (hcap:n≤cap) (hn:n≤1000000) (w:World) (htab:Tab w) (hb:Bytes w A l) :
 Calls Tryz.prog 123 #[.slice A n cap] w (CntPost l w):=by
 have HL:=hD hl;have HB:=hD hb;have HTAB:=hD htab;clear hl hb htab;go_enter Tryz.func123,Tryz.ntmps123;go_wp2;go_loopw [0,3] (fun s v wr=>∃ (A':Option Addr) (r:List Nat) (p cp m:Nat),s=.slice A' p cp∧v=.int .i64 (m:Int)∧Hid (r.length=p)∧p≤cp∧m+p≤n∧Hid (Bytes wr A' r)∧Below w.heap.size w wr∧Hid (joinI m (charsB r)=cntI l)) (fun s _ _=>match s with|.slice _ p _=>p|_=>0)
 case atStart=>exact⟨A,l,n,cap,0,rfl,rfl,HL,hcap,by omega,HB,bR _ _,hD rfl⟩
 case round =>
  obtain⟨wo,rfl⟩:∃ wo:World,wo=wr:=⟨_,rfl⟩;obtain⟨A',r,p,cp,m,rfl,rfl,hr,hcp,hmp,hby,hnx,hj⟩:=hrel;by_cases hp:0<p
  ·have hsz:=size_any A' p cp r hr.out hp hcp wo (HTAB.out.below hnx) hby.out;obtain⟨g,o,rfl,_,_⟩:=hby.out.2 (by rw[hr.out];exact hp);have hle:=(charB_le r).1;rw[hr.out]at hle;have hbad:=joinI_bad (l:=r) (by rw[hr.out];exact hp);have hstep:=joinI_step (l:=r) (by rw[hr.out];exact hp);have hdr:=bytes_drop hby.out (VN r) (by rw[hr.out];exact hle);have hdl:(r.drop (VN r)).length=p - VN r:=by rw[List.length_drop,hr.out]
   generalize VN r=c at hsz hle hbad hstep hdr hdl;have HSZ:=hD hsz;have HDR:=hD hdr;have HDL:=hD hdl;clear hsz hdr hdl;by_cases hc:c=0
   ·have HE:=hD (hbad hc m);clear hbad hstep;subst hc;go_wp2_with (go_at_call 124;refine HSZ.out.mono ?_;rintro e w' ⟨rfl,hb⟩;replace hnx:=Wa hnx hb;clear hb)
    go_ret;exact⟨ret_int (by rw[← hj.out,HE.out]),hnx⟩
   ·have HE:=hD (hstep hc m);clear hbad hstep;have hc0:((c:Int)==0)=false:=by simp;omega
    by_cases hcc:cp=c
    ·have hpc:p=c:=by omega
     have hnil:r.drop c=[]:=List.eq_nil_of_length_eq_zero (by rw[HDL.out];omega);have HNIL:=hD hnil;clear hnil;subst hcc hpc;go_wp2_with (go_at_call 124;refine HSZ.out.mono ?_;rintro e w' ⟨rfl,hb⟩;replace hnx:=Wa hnx hb;have HB2:=hD (HDR.out.below hb);clear hb)
     go_roundw
     case rel=>exact⟨some ⟨g,o,none⟩,[],0,0,m+1,by simp,by go_num,hD rfl,by omega,by omega,hD (Bytes.nil _ _),hnx,hD (by rw[← hj.out,HE.out,HNIL.out])⟩
     case measure=>simp;omega
    ·have hcc2:(cp:Int)≠c:=by omega
     go_wp2_with (go_at_call 124;refine HSZ.out.mono ?_;rintro e w' ⟨rfl,hb⟩;replace hnx:=Wa hnx hb;have HB2:=hD (HDR.out.below hb);clear hb)
     go_roundw
     case rel=>exact⟨some ⟨g,o+c,none⟩,r.drop c,p - c,cp - c,m+1,by simp,by go_num,HDL,by omega,by omega,HB2,hnx,hD (by rw[← hj.out,HE.out])⟩
     case measure=>simp;omega
  ·obtain rfl:p=0:=by omega
   obtain rfl:r=[]:=List.eq_nil_of_length_eq_zero hr.out;have HE:=hD (joinI_end m);go_wp2;go_ret;exact⟨ret_int (by rw[← hj.out,HE.out]),hnx⟩
theorem right_any (A:Option Addr) (n cap:Nat) (l:List Nat) (hl:l.length=n) (hcap:n≤cap) (hn:n≤1000000) (w:World) (htab:Tab w) (hb:Bytes w A l) :
 Calls Tryz.prog 117 #[.slice A n cap] w (Wj (decide (0≤cntI l)) w):=by
 have h:=count_any A n cap l hl hcap hn w htab hb;unfold CntPost at h;generalize cntI l=z at h ⊢;have H:=hD h;clear h;go_enter Tryz.func117,Tryz.ntmps117;go_wp2_with (go_at_call 123;refine H.out.mono ?_;rintro e w' ⟨rfl,hb⟩)
 go_ret;exact⟨rfl,hb⟩
end
section
open Go.RowKit
def Vs (s:ByteArray):List Nat:=s.data.toList.map UInt8.toNat
theorem map_toNat_inj:∀ (a b:List UInt8),a.map UInt8.toNat=b.map UInt8.toNat→a=b
 | [],[],_=>rfl
 | [],_ :: _,h=>by cases h
 | _ :: _,[],h=>by cases h
 | x :: a,y :: b,h=>by
  simp only[List.map_cons,List.cons.injEq]at h;rw[UInt8.toNat_inj.1 h.1,map_toNat_inj a b h.2]
theorem nums_beq (s t:ByteArray):(s.toList==t.toList)=decide (Vs s=Vs t):=by
 rw[Lib.toList_data,Lib.toList_data];unfold Vs;rw[Bool.eq_iff_iff];simp only[beq_iff_eq,decide_eq_true_eq];exact⟨fun h=>by rw[h],map_toNat_inj _ _⟩
theorem nums_lt (s:ByteArray):∀ x ∈ Vs s,x<256:=by
 intro x hx;obtain⟨b,_,rfl⟩:=List.mem_map.1 hx;exact UInt8.toNat_lt b
theorem nums_length (s:ByteArray):(Vs s).length=s.size:=by
 unfold Vs;rw[List.length_map,Lib.size_eq]
theorem nums_ne {s t:ByteArray} (h:Vs s≠Vs t):(s.toList==t.toList)=false:=by rw[nums_beq,decide_eq_false h]
theorem nums_is {s t:ByteArray} (h:Vs s=Vs t):(s.toList==t.toList)=true:=by rw[nums_beq,decide_eq_true h]
end
section
open Go.RowKit
theorem below_bytes (w:World) (e:TypeId) (s:ByteArray):Below w.heap.size w (Lib.bytesWorld w e s):=by
 unfold Lib.bytesWorld;refine Lib.below_freeze ((Wn (bR _ _) 1).alloc ?_ _) (p:=⟨w.heap.size,_,none⟩) (nR _) 1;exact nR _
theorem bytes_conv (w:World) (s:ByteArray):Bytes (Lib.bytesWorld w 5 s) (some ⟨w.heap.size,0,none⟩) (Vs s):=by
 refine⟨nums_lt s,fun h=>⟨w.heap.size,0,rfl,by rw[Lib.bytesWorld_size];omega,fun j hj=>?_⟩⟩;rw[nums_length]at hj;rw[Nat.zero_add,Lib.bytesWorld_cell w _ s j hj]
 congr 2
 unfold Vs;rw[Lib.size_eq,Array.length_toList]at hj;cases h2:s.data[j]? with
 | none=>rw[Array.getElem?_eq_none_iff]at h2;omega
 | some b=>simp[List.getD,h2]
theorem conv_any (w:World) (s:ByteArray):(convert 9 57 (.string s)).run Tryz.prog w=.ok (.slice (some ⟨w.heap.size,0,none⟩) s.size (grownCap w s.size 0 5)) (Lib.bytesWorld w 5 s) :=
 Lib.run_convert_string_bytes w 9 57 5 s Tryz.underlying9 Tryz.underlying57 Tryz.underlying5
end
section
open Go.RowKit
theorem all_yes {α:Type} {p:α→Bool} {l:List α} {d:α} (h:∀ j,j<l.length→p (l.getD j d)=true):l.all p=true:=by
 rw[List.all_eq_true];intro x hx;obtain⟨j,hj,rfl⟩:=List.mem_iff_getElem.1 hx;have:=h j hj
 rwa [List.getD_eq_getElem?_getD,List.getElem?_eq_getElem hj]at this
theorem VU {α:Type} {p:α→Bool} {l:List α} {d:α} {j:Nat} (hj:j<l.length) (h:p (l.getD j d)=false):l.all p=false:=by
 rw[Bool.eq_false_iff];intro ha;rw[List.all_eq_true]at ha;have:=ha _ (List.getElem_mem hj);rw[List.getD_eq_getElem?_getD,List.getElem?_eq_getElem hj]at h;simp only[Option.getD_some]at h;rw[this]at h;cases h
def W7 {α:Type} (p:α→Bool) (l:List α) (d:α) (k:Nat):Prop:=∀ j,j<k→p (l.getD j d)=true
theorem W7.zero {α:Type} (p:α→Bool) (l:List α) (d:α):W7 p l d 0:=fun _ h=>absurd h (Nat.not_lt_zero _)
theorem W7.succ {α:Type} {p:α→Bool} {l:List α} {d:α} {k:Nat} (h:W7 p l d k) (hk:p (l.getD k d)=true):W7 p l d (k+1):=fun j hj=>by
 rcases Nat.lt_or_ge j k with h1|h1
 ·exact h j h1
 ·rw[show j=k by omega];exact hk
theorem W7.done {α:Type} {p:α→Bool} {l:List α} {d:α} (h:W7 p l d l.length):l.all p=true:=all_yes h
def Vw (t:Int):Bool:=decide (t=127∨t=126∨t=124)
def Vy (l:List Int) (most:Int):Bool:=decide ((l.length:Int)≤most) && l.all Vw
def idxB (n:Int):Bool:=inB n 0 2147483647
def strB (s:ByteArray):Bool:=decide (s.size≤64) && decide (0≤cntI (Vs s))
def W8 (x:Ins):Bool:=insB x.op x.a x.b x.n x.l
def typB (t:List Int×List Int):Bool:=Vy t.1 8 && Vy t.2 8
def impB (i:ByteArray×ByteArray×Int):Bool:=strB i.1 && strB i.2.1 && idxB i.2.2
def codeB (c:List Ins):Bool:=decide (c.length≤65536) && c.all W8
def fncB (f:Fnc):Bool:=idxB f.ty && Vy f.loc 256 && codeB f.code
def memB (x:Int×Int):Bool:=decide (0≤x.1) && decide (x.1≤x.2) && decide (x.2≤512)
def V8 (g:Int×Bool×Int):Bool:=Vw g.1 && !(decide (g.1=127) && decide (4294967295<g.2.2))
def exOneB (e:ByteArray×Int×Int):Bool:=strB e.1 && idxB e.2.2 && decide (e.2.1=0∨e.2.1=2∨e.2.1=3)
def exD:ByteArray×Int×Int:=(ByteArray.empty,0,0)
def exAtB (l:List (ByteArray×Int×Int)) (k:Nat):Bool:=exOneB (l.getD k exD) && (List.range k).all fun j=>decide (Vs (l.getD j exD).1≠Vs (l.getD k exD).1)
def exsB (l:List (ByteArray×Int×Int)):Bool:=(List.range l.length).all (exAtB l)
def datB (d:Dat):Bool:=(if d.act then inB d.mem 0 3 && inB d.pos 0 2147483647 else inB d.mem 0 0 && inB d.pos 0 0) && decide (d.bytes.length≤1048576)
def cusB (c:ByteArray×List Nat):Bool:=strB c.1 && decide (c.2.length≤1048576)
def fitsB (m:Vz):Bool :=
 decide (m.types.length≤64) && decide (m.imps.length+m.funs.length≤256) && decide (m.mems.length≤4) && decide (m.globs.length≤256) && decide (m.datas.length≤16) && decide (m.exps.length≤256) && decide (m.cus.length≤16)
def partsB (m:Vz):Bool:=m.types.all typB && m.imps.all impB && m.funs.all fncB && m.mems.all memB && m.globs.all V8 && exsB m.exps && m.datas.all datB && m.cus.all cusB
def rightB (m:Vz):Int:=if fitsB m then if partsB m then 0 else 12 else 13
theorem range_yes {p:Nat→Bool} {n:Nat} (h:∀ j,j<n→p j=true):(List.range n).all p=true:=by
 rw[List.all_eq_true];intro x hx;exact h x (List.mem_range.1 hx)
theorem range_no {p:Nat→Bool} {n j:Nat} (hj:j<n) (h:p j=false):(List.range n).all p=false:=by
 rw[Bool.eq_false_iff];intro ha;rw[List.all_eq_true]at ha;rw[ha j (List.mem_range.2 hj)]at h;cases h
end
section
open Go.RowKit
set_option maxRecDepth 10000
theorem Zbh {P:Prop}(h:P:=by
 go_wp2;go_ret;exact⟨WA (by rw[HF.out]),HB.out⟩):P:=h
theorem Zcf {P:Prop}(h:P:=by
 go_enter Tryz.func94,Tryz.ntmps94;go_wp2;go_ret;exact⟨rfl,bR _ _⟩):P:=h
theorem Zcg {P:Prop}(h:P:=by
 go_enter Tryz.func95,Tryz.ntmps95;go_wp2;go_ret;exact⟨rfl,bR _ _⟩):P:=h
theorem Zcy {P:Prop}(h:P:=by
 go_enter Tryz.func31,Tryz.ntmps31;go_wp2;go_ret;exact⟨rfl,rfl⟩):P:=h
theorem ZcF {P:Prop}(h:P:=by
 go_roundw
 case rel=>exact⟨k+1,by omega,by go_num,hD (Wa HB.out hb),HY⟩
 case measure=>simp[intOf];omega):P:=h
theorem kind_any (t:Int) (w:World):Calls Tryz.prog 94 #[.int .i64 t] w (Wj (Vw t) w):=by
 by_cases c0:t=127
 ·subst c0;rw[show Vw 127=true from rfl];exact Zcf
 ·skip
  by_cases c1:t=126
  ·subst c1;rw[show Vw 126=true from rfl];exact Zcf
  ·skip
   by_cases c2:t=124
   ·subst c2;rw[show Vw 124=true from rfl];exact Zcf
   ·skip
    rw[show Vw t=false from decide_eq_false (by omega)];have d0:(t==127)=false:=by simpa using c0
    have d1:(t==126)=false:=by simpa using c1
    have d2:(t==124)=false:=by simpa using c2
    clear c0 c1 c2;exact Zcf
def exKindB (t:Int):Bool:=decide (t=0∨t=2∨t=3)
theorem exkind_any (t:Int) (w:World):Calls Tryz.prog 95 #[.int .i64 t] w (Wj (exKindB t) w):=by
 by_cases c0:t=0
 ·subst c0;rw[show exKindB 0=true from rfl];exact Zcg
 ·skip
  by_cases c1:t=2
  ·subst c1;rw[show exKindB 2=true from rfl];exact Zcg
  ·skip
   by_cases c2:t=3
   ·subst c2;rw[show exKindB 3=true from rfl];exact Zcg
   ·skip
    rw[show exKindB t=false from decide_eq_false (by omega)];have d0:(t==0)=false:=by simpa using c0
    have d1:(t==2)=false:=by simpa using c1
    have d2:(t==3)=false:=by simpa using c2
    clear c0 c1 c2;exact Zcg
def PureB (b:Bool) (w:World) (e:Ending) (w':World):Prop:=e=.returned (.bool b)∧w=w'
theorem inB_pure (n lo hi:Int) (w:World):Calls Tryz.prog 31 #[.int .i64 n,.int .i64 lo,.int .i64 hi] w (PureB (inB n lo hi) w):=by
 by_cases c:lo≤n
 ·have d:decide (lo≤n)=true:=decide_eq_true c;by_cases e:n≤hi
  ·have d2:decide (n≤hi)=true:=decide_eq_true e;rw[show inB n lo hi=true from decide_eq_true ⟨c,e⟩];clear c e;exact Zcy
  ·have d2:decide (n≤hi)=false:=decide_eq_false e;rw[show inB n lo hi=false from decide_eq_false (fun h=>e h.2)];clear c e;exact Zcy
 ·have d:decide (lo≤n)=false:=decide_eq_false c;rw[show inB n lo hi=false from decide_eq_false (fun h=>c h.1)];clear c;exact Zcy
theorem inB_any (n lo hi:Int) (w:World):Calls Tryz.prog 31 #[.int .i64 n,.int .i64 lo,.int .i64 hi] w (Wj (inB n lo hi) w):=(inB_pure n lo hi w).mono fun _ _ ⟨h,hw⟩=>⟨h,hw ▸ bR _ _⟩
theorem idx_any (n:Int) (w:World):Calls Tryz.prog 92 #[.int .i64 n] w (Wj (idxB n) w):=by
 have H:=hD (inB_any n 0 2147483647 w);unfold idxB;generalize inB n 0 2147483647=b at H ⊢;go_enter Tryz.func92,Tryz.ntmps92;go_wp2_with (go_at_call 31;refine H.out.mono ?_;rintro e w' ⟨rfl,hb⟩)
 go_ret;exact⟨rfl,hb⟩
theorem str_any (s:ByteArray) (w:World) (ht:Tab w):Calls Tryz.prog 91 #[.string s] w (Wj (strB s) w):=by
 by_cases c:s.size≤64
 ·have d:decide ((s.size:Int)≤64)=true:=by simp;omega
  have hconv:=conv_any w s;have H:=hD (right_any (some ⟨w.heap.size,0,none⟩) s.size (grownCap w s.size 0 5) (Vs s) (nums_length s) (grownCap_ge w s.size 0 5) (by omega) (Lib.bytesWorld w 5 s) (ht.below (below_bytes w _ s)) (bytes_conv w s));have HB:=hD (below_bytes w 5 s);unfold strB;rw[decide_eq_true c,Bool.true_and];generalize decide (0≤cntI (Vs s))=b at H ⊢;clear c ht;go_enter Tryz.func91,Tryz.ntmps91;go_wp2_with (go_at_call 117;refine H.out.mono ?_;rintro e w' ⟨rfl,hb⟩)
  go_ret;exact⟨rfl,Wa HB.out hb⟩
 ·have d:decide ((s.size:Int)≤64)=false:=by simp;omega
  unfold strB;rw[decide_eq_false c,Bool.false_and];clear c;go_enter Tryz.func91,Tryz.ntmps91;go_wp2;go_ret;exact⟨rfl,bR _ _⟩
theorem labB_any (n:Int) (w:World):Calls Tryz.prog 31 #[.int .i64 n,.int .i64 0,.int .i64 64] w (Wj (labB n) w):=inB_any n 0 64 w
theorem labs_any (K:Nat→Prop) (w:World) (hK:∀ k,K k→k<w.heap.size) (v:Value) (l:List Int) (h:Wh K w v l):Calls Tryz.prog 32 #[v] w (Wj (l.all labB) w):=by
 obtain⟨A,c,hv,hm,_⟩:=h.form;unfold maxLen at hm;have H:=hD (h.keep (K':=fun k=>k<w.heap.size) (.refl _ _) hK);rw[hv]at H ⊢;clear h hv;obtain⟨n,hn⟩:∃ n,l.length=n:=⟨_,rfl⟩;have HN:=hD hn;rw[hn]at H hm ⊢;clear hn;go_enter Tryz.func32,Tryz.ntmps32;go_wp2_with fail
 go_loopw [7] (fun i wr=>∃ k:Nat,k≤n∧i=.int .i64 (k:Int)∧Hid (Below w.heap.size w wr)∧Hid (W7 labB l 0 k)) (fun i _=>n - (intOf i).toNat)
 case atStart=>exact⟨0,nZ _,rfl,hD (bR _ _),hD (W7.zero _ _ _)⟩
 case round =>
  obtain⟨k,hk,rfl,HB,HA⟩:=hrel;by_cases hlt:k<n
  ·have hd:decide ((k:Int)<(n:Int))=true:=by simp;omega
   obtain⟨g,o,c',he,_,_⟩:=H.out.some_ (by rw[HN.out];omega);simp only[vI]at he;obtain⟨rfl,-,rfl⟩:=he;have hc0:=H.out.at_ k hlt;have hcell:=(HB.out.cell (p:=⟨g,o+k,none⟩) (wL _ _ hc0)).trans hc0;have HNO:=hD (fun (h:labB (l.getD k 0)=false)=>VU (by rw[HN.out];exact hlt) h);have HYE:=hD (fun (h:labB (l.getD k 0)=true)=>HA.out.succ h);generalize l.getD k 0=x at hcell HNO HYE;have HX:=hD (labB_any x wr);obtain⟨b,hb⟩:∃ b,labB x=b:=⟨_,rfl⟩;rw[hb]at HX;rw[hb]at HNO HYE;clear hb hc0;cases b with
   | true =>
    have HY:=hD (HYE.out rfl);clear HNO HYE;go_wp2_with (go_at_call 31;refine HX.out.mono ?_;rintro e w' ⟨rfl,hb⟩)
    exact ZcF
   | false =>
    have HF:=hD (HNO.out rfl);clear HNO HYE;go_wp2_with (go_at_call 31;refine HX.out.mono ?_;rintro e w' ⟨rfl,hb⟩)
    go_ret;exact⟨WA (by rw[HF.out]),Wa HB.out hb⟩
  ·have hd:decide ((k:Int)<(n:Int))=false:=by simp;omega
   obtain rfl:k=n:=by omega
   have HF:=hD (show l.all labB=true by have h:=HA.out;rw[← HN.out]at h;exact h.done);exact Zbh
theorem kinds_many (l:List Int) (most:Int) (h:most<(l.length:Int)):Vy l most=false:=by unfold Vy;rw[decide_eq_false (by omega),Bool.false_and]
theorem kinds_few (l:List Int) (most:Int) (h:(l.length:Int)≤most):Vy l most=l.all Vw:=by unfold Vy;rw[decide_eq_true h,Bool.true_and]
theorem kindsAll_any (K:Nat→Prop) (w:World) (hK:∀ k,K k→k<w.heap.size) (v:Value) (l:List Int) (h:Wh K w v l) (most:Int) (hmost:(l.length:Int)≤most):Calls Tryz.prog 90 #[v,.int .i64 most] w (Wj (l.all Vw) w):=by
 obtain⟨A,c,hv,hm,_⟩:=h.form;unfold maxLen at hm;have H:=hD (h.keep (K':=fun k=>k<w.heap.size) (.refl _ _) hK);rw[hv]at H ⊢;clear h hv;obtain⟨n,hn⟩:∃ n,l.length=n:=⟨_,rfl⟩;have HN:=hD hn;rw[hn]at H hm hmost ⊢;have hgt:decide (most<(n:Int))=false:=by simp;omega
 clear hn hmost;go_enter Tryz.func90,Tryz.ntmps90;go_wp2_with fail
 go_loopw [13] (fun i wr=>∃ k:Nat,k≤n∧i=.int .i64 (k:Int)∧Hid (Below w.heap.size w wr)∧Hid (W7 Vw l 0 k)) (fun i _=>n - (intOf i).toNat)
 case atStart=>exact⟨0,nZ _,rfl,hD (bR _ _),hD (W7.zero _ _ _)⟩
 case round =>
  obtain⟨k,hk,rfl,HB,HA⟩:=hrel;by_cases hlt:k<n
  ·have hd:decide ((k:Int)<(n:Int))=true:=by simp;omega
   obtain⟨g,o,c',he,_,_⟩:=H.out.some_ (by rw[HN.out];omega);simp only[vI]at he;obtain⟨rfl,-,rfl⟩:=he;have hc0:=H.out.at_ k hlt;have hcell:=(HB.out.cell (p:=⟨g,o+k,none⟩) (wL _ _ hc0)).trans hc0;have HNO:=hD (fun (h:Vw (l.getD k 0)=false)=>VU (by rw[HN.out];exact hlt) h);have HYE:=hD (fun (h:Vw (l.getD k 0)=true)=>HA.out.succ h);generalize l.getD k 0=x at hcell HNO HYE;have HX:=hD (kind_any x wr);obtain⟨b,hb⟩:∃ b,Vw x=b:=⟨_,rfl⟩;rw[hb]at HX;rw[hb]at HNO HYE;clear hb hc0;cases b with
   | true =>
    have HY:=hD (HYE.out rfl);clear HNO HYE;go_wp2_with (go_at_call 94;refine HX.out.mono ?_;rintro e w' ⟨rfl,hb⟩)
    exact ZcF
   | false =>
    have HF:=hD (HNO.out rfl);clear HNO HYE;go_wp2_with (go_at_call 94;refine HX.out.mono ?_;rintro e w' ⟨rfl,hb⟩)
    go_ret;exact⟨WA (by rw[HF.out]),Wa HB.out hb⟩
  ·have hd:decide ((k:Int)<(n:Int))=false:=by simp;omega
   obtain rfl:k=n:=by omega
   have HF:=hD (show l.all Vw=true by have h:=HA.out;rw[← HN.out]at h;exact h.done);exact Zbh
theorem kinds_any (K:Nat→Prop) (w:World) (hK:∀ k,K k→k<w.heap.size) (v:Value) (l:List Int) (h:Wh K w v l) (most:Int):Calls Tryz.prog 90 #[v,.int .i64 most] w (Wj (Vy l most) w):=by
 by_cases hc:(l.length:Int)≤most
 ·rw[kinds_few l most hc];exact kindsAll_any K w hK v l h most hc
 ·rw[kinds_many l most (by omega)];obtain⟨A,c,hv,hm,_⟩:=h.form;rw[hv];generalize l.length=n at *;have hgt:decide (most<(n:Int))=true:=by simp;omega
  clear hc h hv;go_enter Tryz.func90,Tryz.ntmps90;go_wp2;go_ret;exact⟨rfl,bR _ _⟩
end
end Go.Proofs.YtgmgcadlkebokaaGreatDoor
