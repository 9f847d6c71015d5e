/- A part of the proof. -/
import Derived.Test.YtepgopnnaeoolaaGreatDoorJ24
import Derived.Test.YtepgopnnaeoolaaGreatDoorJ25
import Derived.Test.YtepgopnnaeoolaaGreatDoorJ26
namespace Go.Proofs.YtepgopnnaeoolaaGreatDoor
section
open Go.RowKit
theorem odd_any (K:Nat→Prop) (w:World) (hK:∀ g,K g→g<w.heap.size) (v:Mv) (m:W8) (k:Nat) (hk:k≤10) (hm:WQ K w v m) (hs:Sz k m) (hf:0<m.funs.length) (t:Trn) (Lv:Value) (hL:Wg K w Lv t.raw.l) (hw:VK t.n∧VK t.raw.n∧fitN t.raw.l.length) :
 Calls Tryz.prog 15 #[.agg v.cells,t.val Lv] w (OddPost K (k+1) w):=by
 by_cases h3:t.what.tmod 4=3
 ·rcases(show t.what % 1048577 / 4 % 9=0∨t.what % 1048577 / 4 % 9=1∨t.what % 1048577 / 4 % 9=2∨t.what % 1048577 / 4 % 9=3∨t.what % 1048577 / 4 % 9=4∨t.what % 1048577 / 4 % 9=5∨t.what % 1048577 / 4 % 9=6∨t.what % 1048577 / 4 % 9=7∨t.what % 1048577 / 4 % 9=8 by omega) with h|h|h|h|h|h|h|h|h
  ·exact odd_P K w hK v m k hk hm hs hf t Lv hL hw h3 (.inl h)
  ·exact odd_P K w hK v m k hk hm hs hf t Lv hL hw h3 (.inr (.inl h))
  ·exact odd_P K w hK v m k hk hm hs hf t Lv hL hw h3 (.inr (.inr (.inl h)))
  ·exact odd_Q K w hK v m k hk hm hs hf t Lv hL hw h3 h
  ·exact odd_R K w hK v m k hk hm hs hf t Lv hL hw h3 h
  ·exact odd_S K w hK v m k hk hm hs hf t Lv hL hw h3 (.inl h)
  ·exact odd_P K w hK v m k hk hm hs hf t Lv hL hw h3 (.inr (.inr (.inr (.inl h))))
  ·exact odd_S K w hK v m k hk hm hs hf t Lv hL hw h3 (.inr h)
  ·exact odd_P K w hK v m k hk hm hs hf t Lv hL hw h3 (.inr (.inr (.inr (.inr h))))
 ·exact odd_B K w hK v m k hk hm hs hf t Lv hL hw h3
end
section
open Go.RowKit
set_option maxHeartbeats 100000000
set_option maxRecDepth 100000
theorem Z2 {P:Prop}(h:P:=by
 go_wp2;have hfl:=HFL.out;unfold fill8 at hfl;have hfin:=HFIN.out;unfold fill8 at hfin;simp only[Mv.cells]at hfl;exact bodyPost_ret (v:=.agg #[.slice A0 n0 c0,.slice A1 n1 c1,.slice A2 n2 c2,.slice A3 n3 c3,.slice A4 n4 c4,.slice A5 n5 c5,.slice A6 n6 c6,.slice A7 n7 c7]) (by simp[results,Tryz.results5,go_sem,World.cell?,hfl]) rfl hfin):P:=h
def trn0:Trn:=⟨0,0,0,0,ins0⟩
def trnCell (K:Nat→Prop) (w:World) (x:Trn):Nat→Value→Prop
 | 0,u=>u=.int .i64 x.what
 | 1,u=>u=.int .i64 x.pos
 | 2,u=>u=.int .i64 x.to_
 | 3,u=>u=.int .u64 x.n∧VK x.n
 | 4,u=>u=.int .i64 x.raw.op
 | 5,u=>u=.int .i64 x.raw.a
 | 6,u=>u=.int .i64 x.raw.b
 | 7,u=>u=.int .u64 x.raw.n∧VK x.raw.n
 | _,u=>Wg K w u x.raw.l∧fitN x.raw.l.length
def TrnsK (K:Nat→Prop) (w:World) (v:Value) (l:List Trn):Prop:=Wd K w v l.length 9 fun j i u=>trnCell K w (l.getD j trn0) i u
theorem trnCell.keep {K K':Nat→Prop} {w w':World} {x:Trn} {i:Nat} {u:Value} (h:trnCell K w x i u) (hk:Wf K w w') (hm:∀ k,K k→K' k):trnCell K' w' x i u:=by
 match i,h with
 | 0,h=>exact h
 | 1,h=>exact h
 | 2,h=>exact h
 | 3,h=>exact h
 | 4,h=>exact h
 | 5,h=>exact h
 | 6,h=>exact h
 | 7,h=>exact h
 | _+8,h=>exact⟨Wg.keep h.1 hk hm,h.2⟩
theorem TrnsK.keep {K K':Nat→Prop} {w w':World} {v:Value} {l:List Trn} (h:TrnsK K w v l) (hk:Wf K w w') (hm:∀ k,K k→K' k):TrnsK K' w' v l :=
 Wd.keep h hk hm fun _ _ _ h=>h.keep hk hm
def KO (w0 w:World) (k:Nat):Prop:=k<w.heap.size∧(k<w0.heap.size∨w0.heap.size+2≤k)
structure OBox (w0 w:World) (v:Mv) (m:W8) (k:Nat):Prop where
 box:w.heap[w0.heap.size]?=some (.cells v.cells 33 (0,0))
 res:w.heap[w0.heap.size+1]?=some (.cells Ww 33 (0,0))
 at_:WQ (KO w0 w) w v m
 sz:Sz k m
 bl:Below w0.heap.size w0 w
 two:w0.heap.size+2≤w.heap.size
theorem OBox.below {w0 w w':World} {k:Nat} {v:Mv} {m:W8} (h:OBox w0 w v m k) (hb:Below w.heap.size w w'):OBox w0 w' v m k :=
 ⟨(hb.block _ (by have:=h.two;omega)).trans h.box,(hb.block _ (by have:=h.two;omega)).trans h.res,h.at_.keep (Wf.below hb fun _ hk=>hk.1) fun _ hk=>⟨WW hk.1 hb.size,hk.2⟩,h.sz,h.bl.trans (hb.mono h.bl.size),Nat.le_trans h.two hb.size⟩
theorem OBox.cells {w0 w:World} {k:Nat} {v:Mv} {m:W8} (h:OBox w0 w v m k):BoxC w0 w v:=by
 exact ZbF
theorem OBox.frozen {w0 w:World} {k:Nat} {v:Mv} {m:W8} (h:OBox w0 w v m k) (i:Nat):w.frozen? ⟨w0.heap.size,i,none⟩=false:=by simp[World.frozen?,h.box]
theorem fill8_any {w:World} {B:Nat} {T:TypeId} {v0:Mv} (h:w.heap[B]?=some (.cells v0.cells T (0,0))) (v:Mv):(fill8 w B v).heap[B]?=some (.cells v.cells T (0,0)):=by
 have h0:=Wh w B 0 _ T v.m0 h;have h1:=Wh _ B 1 _ T v.m1 h0;have h2:=Wh _ B 2 _ T v.m2 h1;have h3:=Wh _ B 3 _ T v.m3 h2;have h4:=Wh _ B 4 _ T v.m4 h3;have h5:=Wh _ B 5 _ T v.m5 h4;have h6:=Wh _ B 6 _ T v.m6 h5;have h7:=Wh _ B 7 _ T v.m7 h6;have e:(((((((v0.cells.setIfInBounds 0 v.m0).setIfInBounds 1 v.m1).setIfInBounds 2 v.m2).setIfInBounds 3 v.m3).setIfInBounds 4 v.m4).setIfInBounds 5 v.m5).setIfInBounds 6 v.m6).setIfInBounds 7 v.m7=v.cells:=by simp[Mv.cells]
 rw[e]at h7;exact h7
theorem OBox.fill {w0 w x:World} {k k':Nat} {v v':Mv} {m m':W8} (h:OBox w0 w v m k) (hb:Below w.heap.size w x) (hm:WQ (fun g=>KO w0 w g∨w.heap.size≤g∧g<x.heap.size) x v' m') (hs:Sz k' m'):OBox w0 (fill8 x w0.heap.size v') v' m' k':=by
 have hx:=h.below hb;have hk:=V5 x w0.heap.size v';have h2:=h.two;refine⟨fill8_any hx.box v',(hk.block _ (by omega)).trans hx.res,hm.keep (hk.mono fun g hg e=>?_) fun g hg=>?_,hs,below_fill8 hx.bl (nR _) v',Nat.le_trans hx.two hk.size⟩
 ·rcases hg with hg|hg
  ·have:=hg.2;omega
  ·omega
 ·rcases hg with hg|hg
  ·exact⟨WW (WW hg.1 hb.size) hk.size,hg.2⟩
  ·exact⟨WW hg.2 hk.size,.inr (by omega)⟩
def OddsPost (w:World) (e:Ending) (w':World):Prop:=∃ v m,e=.returned (.agg v.cells)∧WQ (lt w') w' v m∧Sz 4 m∧Below w.heap.size w w'
theorem odds_any (w:World) (v:Mv) (m:W8) (hm:WQ (lt w) w v m) (hs:Sz 0 m) (tv:Value) (ts:List Trn) (ht:TrnsK (lt w) w tv ts) :
 Calls Tryz.prog 5 #[.agg v.cells,tv] w (OddsPost w):=by
 obtain⟨At,ct,htv,hnt,hct⟩:=Wd.form ht;have HTS:=hD ht;rw[htv]at HTS ⊢;clear ht htv;obtain⟨nt,hnt'⟩:∃ n,ts.length=n:=⟨_,rfl⟩;rw[hnt']at HTS hnt ⊢;have HNT:=hD hnt';have HCT:=hD hct;clear hnt' hct;obtain⟨A0,c0,A1,c1,A2,c2,A3,c3,A4,c4,A5,c5,A6,c6,A7,c7,rfl⟩:=hm.forms;simp only[Mv.cells];generalize hl0:m.types.length=n0 at *;generalize hl1:m.imps.length=n1 at *;generalize hl2:m.funs.length=n2 at *;generalize hl3:m.mems.length=n3 at *;generalize hl4:m.globs.length=n4 at *;generalize hl5:m.exps.length=n5 at *;generalize hl6:m.datas.length=n6 at *;generalize hl7:m.cus.length=n7 at *;clear hl0 hl1 hl2 hl3 hl4 hl5 hl6 hl7;obtain⟨w3,hw3⟩:∃ w3,w3=((w.alloc (.cells #[.slice A0 n0 c0,.slice A1 n1 c1,.slice A2 n2 c2,.slice A3 n3 c3,.slice A4 n4 c4,.slice A5 n5 c5,.slice A6 n6 c6,.slice A7 n7 c7] 33)).alloc (.cells Ww 33)):=⟨_,rfl⟩;have ha0:=WK [.cells #[.slice A0 n0 c0,.slice A1 n1 c1,.slice A2 n2 c2,.slice A3 n3 c3,.slice A4 n4 c4,.slice A5 n5 c5,.slice A6 n6 c6,.slice A7 n7 c7] 33,.cells Ww 33] w 0 _ rfl;have ha1:=(WK [.cells #[.slice A0 n0 c0,.slice A1 n1 c1,.slice A2 n2 c2,.slice A3 n3 c3,.slice A4 n4 c4,.slice A5 n5 c5,.slice A6 n6 c6,.slice A7 n7 c7] 33,.cells Ww 33] w 1 _ rfl).1;change ((w.alloc (.cells #[.slice A0 n0 c0,.slice A1 n1 c1,.slice A2 n2 c2,.slice A3 n3 c3,.slice A4 n4 c4,.slice A5 n5 c5,.slice A6 n6 c6,.slice A7 n7 c7] 33)).alloc (.cells Ww 33)).heap[w.heap.size]?=_∧Below w.heap.size w ((w.alloc (.cells #[.slice A0 n0 c0,.slice A1 n1 c1,.slice A2 n2 c2,.slice A3 n3 c3,.slice A4 n4 c4,.slice A5 n5 c5,.slice A6 n6 c6,.slice A7 n7 c7] 33)).alloc (.cells Ww 33))∧((w.alloc (.cells #[.slice A0 n0 c0,.slice A1 n1 c1,.slice A2 n2 c2,.slice A3 n3 c3,.slice A4 n4 c4,.slice A5 n5 c5,.slice A6 n6 c6,.slice A7 n7 c7] 33)).alloc (.cells Ww 33)).heap.size=w.heap.size+2 at ha0;change ((w.alloc (.cells #[.slice A0 n0 c0,.slice A1 n1 c1,.slice A2 n2 c2,.slice A3 n3 c3,.slice A4 n4 c4,.slice A5 n5 c5,.slice A6 n6 c6,.slice A7 n7 c7] 33)).alloc (.cells Ww 33)).heap[w.heap.size+1]?=_ at ha1;rw[← hw3]at ha0 ha1;obtain⟨ha0,hbm,hsz⟩:=ha0;have HB0:Hid (OBox w w3 ⟨.slice A0 n0 c0,.slice A1 n1 c1,.slice A2 n2 c2,.slice A3 n3 c3,.slice A4 n4 c4,.slice A5 n5 c5,.slice A6 n6 c6,.slice A7 n7 c7⟩ m 0):=hD ⟨ha0,ha1,hm.keep (Wf.below hbm fun _ hk=>hk) fun g hg=>⟨WW hg hbm.size,.inl hg⟩,hs,hbm,by rw[hsz];exact nR _⟩;clear hm hs ha0 ha1 hsz;go_enter Tryz.func5,Tryz.ntmps5
 go_upto_region 1 with (fail)
 rw[show Ww=#[.slice none 0 0,.slice none 0 0,.slice none 0 0,.slice none 0 0,.slice none 0 0,.slice none 0 0,.slice none 0 0,.slice none 0 0] from rfl]at hw3;rw[← hw3];clear hw3 hbm;go_wp2_with fail
 go_loopw [5] (fun i wr=>∃ (j:Nat) (v':Mv) (m':W8),j≤4∧i=.int .i64 (j:Int)∧Hid (OBox w wr v' m' j)) (fun i _=>4 - (intOf i).toNat)
 case atStart=>exact⟨0,_,m,nZ _,rfl,HB0⟩
 case round =>
  obtain⟨j,v1,m1,hj,rfl,HB⟩:=hrel;obtain⟨w4,rfl⟩:∃ w4,w4=wr:=⟨_,rfl⟩;clear HB0;obtain⟨A0,c0,A1,c1,A2,c2,A3,c3,A4,c4,A5,c5,A6,c6,A7,c7,rfl⟩:=HB.out.at_.forms;generalize hl0:m1.types.length=n0 at *;generalize hl1:m1.imps.length=n1 at *;generalize hl2:m1.funs.length=n2 at *;generalize hl3:m1.mems.length=n3 at *;generalize hl4:m1.globs.length=n4 at *;generalize hl5:m1.exps.length=n5 at *;generalize hl6:m1.datas.length=n6 at *;generalize hl7:m1.cus.length=n7 at *;clear hl0 hl1 hl2 hl3 hl4 hl5 hl6 hl7;by_cases hlt:j<nt∧j<4
  ·obtain⟨hlt,hj4⟩:=hlt;have hd0:decide ((j:Int)<(nt:Int))=true:=by simp;omega
   have hd1:decide ((j:Int)<4)=true:=by simp;omega
   obtain⟨gt,ot,ct',he,_,_⟩:=Wd.some_ HTS.out (by rw[HNT.out];omega);simp only[vI]at he;obtain⟨rfl,-,rfl⟩:=he;have htc:∀ i,i<9→∃ u,w.cell? ⟨gt,ot+j * 9+i,none⟩=some u∧trnCell (lt w) w (ts.getD j trn0) i u:=fun i hi=>Wd.at_ HTS.out j i (by rw[HNT.out];exact hlt) hi;obtain⟨⟨what,pos,to_,tn,⟨op,ra,rb,rn,rl⟩⟩,htj⟩:∃ t,ts.getD j trn0=t:=⟨_,rfl⟩;rw[htj]at htc;obtain⟨_,q0,rfl⟩:=htc 0 (by decide);obtain⟨_,q1,rfl⟩:=htc 1 (by decide);obtain⟨_,q2,rfl⟩:=htc 2 (by decide);obtain⟨_,q3,rfl,hw3⟩:=htc 3 (by decide);obtain⟨_,q4,rfl⟩:=htc 4 (by decide);obtain⟨_,q5,rfl⟩:=htc 5 (by decide);obtain⟨_,q6,rfl⟩:=htc 6 (by decide);obtain⟨_,q7,rfl,hw7⟩:=htc 7 (by decide);obtain⟨uL,q8,hL⟩:=htc 8 (by decide);have hL2:Wg (lt w) w uL rl:=hL.1;have hLf:fitN rl.length:=hL.2;obtain⟨Al,cl,rfl,hlm,_⟩:=hL2.form;rw[Nat.add_zero]at q0;simp only at q0 q1 q2 q3 q4 q5 q6 q7;have hgt:=wL _ _ q0;have HTC:Hid (∀ wz,Below w4.drew.heap.size w4.drew wz→wz.cell? ⟨gt,ot+j * 9,none⟩=some (.int .i64 what)∧wz.cell? ⟨gt,ot+j * 9+1,none⟩=some (.int .i64 pos)∧wz.cell? ⟨gt,ot+j * 9+2,none⟩=some (.int .i64 to_)∧wz.cell? ⟨gt,ot+j * 9+3,none⟩=some (.int .u64 tn)∧wz.cell? ⟨gt,ot+j * 9+4,none⟩=some (.int .i64 op)∧wz.cell? ⟨gt,ot+j * 9+5,none⟩=some (.int .i64 ra)∧wz.cell? ⟨gt,ot+j * 9+6,none⟩=some (.int .i64 rb)∧wz.cell? ⟨gt,ot+j * 9+7,none⟩=some (.int .u64 rn)∧wz.cell? ⟨gt,ot+j * 9+8,none⟩=some (.slice Al rl.length cl)):=hD fun wz hb=>by
    have hbb:Below w.heap.size w wz:=(HB.out.below (Wj (bR w4.heap.size w4) 1)).bl.trans (hb.mono (HB.out.below (Wj (bR w4.heap.size w4) 1)).bl.size);have hq:∀ o u,w.cell? ⟨gt,o,none⟩=some u→wz.cell? ⟨gt,o,none⟩=some u:=fun o u h=>(hbb.cell (p:=⟨gt,o,none⟩) hgt).trans h;exact⟨hq _ _ q0,hq _ _ q1,hq _ _ q2,hq _ _ q3,hq _ _ q4,hq _ _ q5,hq _ _ q6,hq _ _ q7,hq _ _ q8⟩
   have HX5:=hD (HB.out.below (Wj (bR _ _) 1));change Hid (OBox w w4.drew _ _ _) at HX5;have hLk:Wg (KO w w4.drew) w4.drew (.slice Al rl.length cl) rl:=hL2.keep (Wf.below HX5.out.bl fun _ hk=>hk) fun g hg=>⟨WW hg HX5.out.bl.size,.inl hg⟩;have HCA:=hD (odd_any (KO w w4.drew) w4.drew (fun g hg=>hg.1) ⟨.slice A0 n0 c0,.slice A1 n1 c1,.slice A2 n2 c2,.slice A3 n3 c3,.slice A4 n4 c4,.slice A5 n5 c5,.slice A6 n6 c6,.slice A7 n7 c7⟩ m1 j (by omega) HX5.out.at_ HX5.out.sz HX5.out.sz.fp ⟨what,pos,to_,tn,⟨op,ra,rb,rn,rl⟩⟩ (.slice Al rl.length cl) hLk ⟨hw3,hw7,hLf⟩);simp only[Trn.val,Mv.cells]at HCA;generalize rl.length=nl at *;clear q0 q1 q2 q3 q4 q5 q6 q7 q8 hw3 hw7 hLf hL hL2 hLk htc htj hgt HB
   go_upto_region 4 with (fail)
   refine We.start (X:=6) (S:=fun w'=>Below w4.drew.heap.size w4.drew w') (by kernel_rfl) ?_;have hR:=Rows.nil (bR w4.drew.heap.size w4.drew);generalize w4.drew=w5 at *;show We _ _ _ _ _ _ 7 #[false,false,false,false,false,false,false] _ _;refine We.tk 0 16 rfl hR.bl ?_ (hy:=by intro w' hSw;obtain⟨c0',c1',c2',c3',c4',c5',c6',c7'⟩:=(HX5.out.below hSw).cells;simp only at c0' c1' c2' c3' c4' c5' c6' c7';go_simp;try with_reducible rfl);refine We.tk 1 17 rfl hR.bl ?_;refine We.tk 2 18 rfl hR.bl ?_;refine We.tk 3 19 rfl hR.bl ?_;refine We.tk 4 20 rfl hR.bl ?_ (hy:=by intro w' hSw;obtain⟨t0,t1,t2,t3,t4,t5,t6,t7,t8⟩:=HTC.out w' hSw;go_simp;try with_reducible rfl);refine We.om 5 21 rfl fun K hK=>?_;go_simp;refine HCA.out.mono ?_;rintro e x ⟨v',m',rfl,hm2,hs2,hb⟩;obtain⟨v'',hv''⟩:∃ v'',v''=v':=⟨_,rfl⟩;obtain⟨B0,e0,B1,e1,B2,e2,B3,e3,B4,e4,B5,e5,B6,e6,B7,e7,hv'⟩:=hm2.forms;subst hv';subst hv'';generalize hl0:m'.types.length=l0 at *;clear hl0;generalize hl1:m'.imps.length=l1 at *;clear hl1;generalize hl2:m'.funs.length=l2 at *;clear hl2;generalize hl3:m'.mems.length=l3 at *;clear hl3;generalize hl4:m'.globs.length=l4 at *;clear hl4;generalize hl5:m'.exps.length=l5 at *;clear hl5;generalize hl6:m'.datas.length=l6 at *;clear hl6;generalize hl7:m'.cus.length=l7 at *;clear hl7;have HM2:=hD hm2;have HS2:=hD hs2;clear hm2 hs2;replace hR:=Rows.nil hb;clear hb;simp only[Mv.cells];go_wp2_with fail
   refine hK.out _ _ (.inr hR.bl) ?_;clear hK K;try simp only[sA,List.set]
   refine We.on 6 rfl fun K hK=>?_;have hY:=HX5.out.below hR.bl;obtain⟨g0,g1,g2,g3,g4,g5,g6,g7⟩:=hY.cells;simp only at g0 g1 g2 g3 g4 g5 g6 g7;have f0:=hY.frozen 0;have f1:=hY.frozen 1;have f2:=hY.frozen 2;have f3:=hY.frozen 3;have f4:=hY.frozen 4;have f5:=hY.frozen 5;have f6:=hY.frozen 6;have f7:=hY.frozen 7;clear hY;go_simp;refine hK.out _ _ (.inl rfl) ?_;clear hK K;refine We.done (by kernel_rfl) ?_ _;have hb9:=HX5.out.fill (x:=x) hR.bl HM2.out HS2.out;simp only[fill8]at hb9;have HB9:=hD hb9;clear hb9 hR g0 f0 g1 f1 g2 f2 g3 f3 g4 f4 g5 f5 g6 f6 g7 f7;go_wp2;go_roundw
   case rel=>exact⟨j+1,_,m',by omega,by go_num,HB9⟩
   case measure=>simp[intOf];omega
  ·have HB4:Hid (OBox w w4 ⟨.slice A0 n0 c0,.slice A1 n1 c1,.slice A2 n2 c2,.slice A3 n3 c3,.slice A4 n4 c4,.slice A5 n5 c5,.slice A6 n6 c6,.slice A7 n7 c7⟩ m1 4):=hD ⟨HB.out.box,HB.out.res,HB.out.at_,HB.out.sz.le hj,HB.out.bl,HB.out.two⟩;clear HB;obtain⟨kk0,kk1,kk2,kk3,kk4,kk5,kk6,kk7⟩:=HB4.out.cells;simp only at kk0 kk1 kk2 kk3 kk4 kk5 kk6 kk7;obtain⟨z0,s0⟩:=WX HB4.out.res 0 (by omega);obtain⟨z1,s1⟩:=WX HB4.out.res 1 (by omega);obtain⟨z2,s2⟩:=WX HB4.out.res 2 (by omega);obtain⟨z3,s3⟩:=WX HB4.out.res 3 (by omega);obtain⟨z4,s4⟩:=WX HB4.out.res 4 (by omega);obtain⟨z5,s5⟩:=WX HB4.out.res 5 (by omega);obtain⟨z6,s6⟩:=WX HB4.out.res 6 (by omega);obtain⟨z7,s7⟩:=WX HB4.out.res 7 (by omega);have HFL:=hD (fill8_at HB4.out.res ⟨.slice A0 n0 c0,.slice A1 n1 c1,.slice A2 n2 c2,.slice A3 n3 c3,.slice A4 n4 c4,.slice A5 n5 c5,.slice A6 n6 c6,.slice A7 n7 c7⟩);have HFIN:Hid (OddsPost w (.returned (.agg #[.slice A0 n0 c0,.slice A1 n1 c1,.slice A2 n2 c2,.slice A3 n3 c3,.slice A4 n4 c4,.slice A5 n5 c5,.slice A6 n6 c6,.slice A7 n7 c7])) (fill8 w4 (w.heap.size+1) ⟨.slice A0 n0 c0,.slice A1 n1 c1,.slice A2 n2 c2,.slice A3 n3 c3,.slice A4 n4 c4,.slice A5 n5 c5,.slice A6 n6 c6,.slice A7 n7 c7⟩)):=hD ⟨⟨.slice A0 n0 c0,.slice A1 n1 c1,.slice A2 n2 c2,.slice A3 n3 c3,.slice A4 n4 c4,.slice A5 n5 c5,.slice A6 n6 c6,.slice A7 n7 c7⟩,m1,rfl,HB4.out.at_.keep ((V5 _ _ _).mono fun _ hk e=>by have:=hk.2;omega) (fun _ hk=>WW hk.1 (V5 _ _ _).size),HB4.out.sz,below_fill8 HB4.out.bl (by omega) _⟩;clear HB4 HTS;by_cases h1:j<nt
   ·have hd0:decide ((j:Int)<(nt:Int))=true:=by simp;omega
    have hd1:decide ((j:Int)<4)=false:=by simp;omega
    exact Z2
   ·have hd0:decide ((j:Int)<(nt:Int))=false:=by simp;omega
    exact Z2
end
end Go.Proofs.YtepgopnnaeoolaaGreatDoor
