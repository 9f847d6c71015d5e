/- A part of the proof. -/
import Derived.Test.YtepgopnnaeoolaaGreatDoorJ12
namespace Go.Proofs.YtepgopnnaeoolaaGreatDoor
open Go.RowKit
set_option maxHeartbeats 1000000
set_option maxRecDepth 100000
theorem Uq.most {x y:St} {a d B:Nat} (h:Uq x y a d) (hw:wgt x≤B):Vs y (B+d):=most_of_wgt (by have:=h.2.1;omega)
theorem Uq.lower {x y:St} {a b d:Nat} (h:Uq x y a d) (hb:b≤a):Uq x y b d:=⟨Nat.le_trans hb h.1,h.2⟩
theorem Uq.le {x y:St} {a d e:Nat} (h:Uq x y a d) (hd:d≤e):Uq x y a e:=⟨h.1,by have:=h.2.1;omega,h.2.2⟩
theorem Uq.fine {x y z:St} {a b d e:Nat} (h:Uq x y a d) (k:V3 y z b e):Uq x z b (d+e):=h.trans (k.grew h.2.2.2.1)
theorem Tryz.infoRow:(Tryz.prog.info? 22).map (fun i=>(i.zero,i.size,i.bytes))=some (some (.slice none 0 0),1,24):=by kernel_rfl
theorem WD.blk {F:Fx} {w:World} {x:St} (h:WD F w x) (a:Int) (ha : -4≤a) (hb:a<9) :
 Calls Tryz.prog 77 #[.agg #[F.m0,F.m1,F.m2,F.m3,F.m4,F.m5,F.m6,F.m7],.int .i64 a] w (BlockPost (W9 F w x) w):=by
 obtain⟨h0,hts,h3⟩:=h.reads.types;exact rblock_yes (W9 F w x) w _ _ _ _ _ _ _ _ F.ts h0 (by omega) h3 (fun k hk=>hk.1.1) a ha (by omega)
theorem WD.rnew {F:Fx} {w w':World} {x:St} (h:WD F w x) (hb:Below w.heap.size w w') (hE:∀ k,¬ F.E k) {k:Nat} (hk:W9 F w x k∨(w.heap.size≤k∧k<w'.heap.size)):W9 F w' x k:=by
 rcases hk with hk|⟨h1,h2⟩
 ·exact⟨⟨WW hk.1.1 hb.size,hk.1.2⟩,hk.2⟩
 ·exact⟨⟨h2,h.new_free h1⟩,hE k⟩
theorem keeps_twice {W wa wb:World} {o o2:Obj} {v1:Value} (hk1:Wf (fun k=>k<W.heap.size) W wa) (ha1:v1.ownBlock=some W.heap.size∨v1.ownBlock=some (W.alloc o).heap.size) (hg2:(wa.alloc o2).grownBy wb v1.ownBlock):Wf (fun k=>k<W.heap.size) W wb:=by
 have hs:(W.alloc o).heap.size=W.heap.size+1:=by simp
 refine hk1.trans (((Wf.alloc wa (fun _ h=>h) o2).mono fun k hk=>WW hk hk1.size).trans (.grown hg2 (fun k hk=>WW hk (Nat.le_trans hk1.size (by simp))) (fun k e hk=>?_)));rcases ha1 with h|h
 ·exact ZbT
 ·exact ZbT
theorem Uq.reap {x y:St} {d e S m nr:Nat} {l:List Int} {v:Value} (h:Uq x y d e) (hl:(y.s.take d++l).length=d+nr) (h3:nr≤3) (hS:y.s.length=S) (hm:e+3≤m):Uq x { y with sv:=v,s:=y.s.take d++l } d m:=by
 obtain⟨h1,h2,h4,h5,h6⟩:=h;refine⟨by show d≤(y.s.take d++l).length;omega,?_,h4,h5,h6⟩;unfold wgt at *;show(y.s.take d++l).length+y.c.length+100 * y.left.toNat≤_;omega
theorem WD.addL {F:Fx} {W wa wb:World} {x:St} (h:WD F W x) (hE:∀ k,¬ F.E k) {o o2:Obj} {v1 v2 u9:Value} {us:List Value} {n:Nat} {e:TypeId} (hk1:Wf (fun k=>k<W.heap.size) W wa) (ha1:v1.ownBlock=some W.heap.size∨v1.ownBlock=some (W.alloc o).heap.size)
 (hg2:(wa.alloc o2).grownBy wb v1.ownBlock) (ha2:v2.ownBlock=v1.ownBlock∨v2.ownBlock=some (wa.alloc o2).heap.size) (ho2:wb.ownsRow 0 e 1 v2 (n+1) (us++[u9])) (hru:∀ u ∈ us,∃ l:List Int,l.length≤3∧Wg (W9 F W x) W u l) (hu9:∃ l:List Int,l.length≤3∧Wg (W9 F W x) W u9 l) :
 WD F (wb.setCell ⟨F.G,13,none⟩ v2) { x with lv:=v2,nl:=n+1 }∧Wv F W x (wb.setCell ⟨F.G,13,none⟩ v2) { x with lv:=v2,nl:=n+1 }:=by
 have hk:=keeps_twice (o:=o) hk1 ha1 hg2;have hf:∀ k,W9 F W x k→W9 F wb x k:=fun k hk'=>⟨⟨WW hk'.1.1 hk.size,hk'.1.2⟩,hk'.2⟩;refine h.setL hk v2 (n+1) (owns_labs ho2 (fun u hu=>?_) fun g hg=>?_)
 ·rcases List.mem_append.1 hu with hu|hu
  ·obtain⟨l,h1,h2⟩:=hru u hu;exact⟨l,h1,h2.keep (hk.mono fun k hk'=>hk'.1.1) hf⟩
  ·obtain rfl:=List.mem_singleton.1 hu;obtain⟨l,h1,h2⟩:=hu9;exact⟨l,h1,h2.keep (hk.mono fun k hk'=>hk'.1.1) hf⟩
 ·have hs:(W.alloc o).heap.size=W.heap.size+1:=by simp
  have hs2:(wa.alloc o2).heap.size=wa.heap.size+1:=by simp
  have hs3:=hk1.size;have hge:W.heap.size≤g:=by
   rcases ha2 with h2|h2
   ·rcases ha1 with h1|h1
    ·have:=(h1.symm.trans h2.symm).trans hg;simp only[Option.some.injEq]at this;omega
    ·have:=(h1.symm.trans h2.symm).trans hg;simp only[Option.some.injEq]at this;omega
   ·have:=h2.symm.trans hg;simp only[Option.some.injEq]at this;omega
  exact⟨⟨(ho2.lt g hg).2,h.new_free hge⟩,hE g⟩
theorem WD.popL {F:Fx} {w:World} {x:St} (h:WD F w x) {g o c n:Nat} (hl:x.lv=.slice (some ⟨g,o,none⟩) x.nl c) (hn:n≤x.nl) (h0:0<x.nl) :
 WD F (w.setCell ⟨F.G,13,none⟩ (.slice (some ⟨g,o,none⟩) n c)) { x with lv:=.slice (some ⟨g,o,none⟩) n c,nl:=n }∧Wv F w x (w.setCell ⟨F.G,13,none⟩ (.slice (some ⟨g,o,none⟩) n c)) { x with lv:=.slice (some ⟨g,o,none⟩) n c,nl:=n }:=by
 refine h.setL (.refl _ _) _ _ ?_;obtain⟨A,c',he,h1,h2,h3,h4⟩:=h.reads.labs;rw[hl]at he;simp only[vI]at he;obtain⟨rfl,-,rfl⟩:=he;obtain⟨g',o',he,h5,h6⟩:=h4 h0;simp only[Option.some.injEq,Addr.mk.injEq]at he;obtain⟨rfl,rfl,_⟩:=he;exact⟨_,c,rfl,by omega,h2,h3,fun _=>⟨g,o,rfl,h5,fun j i hj hi=>h6 j i (by omega) hi⟩⟩
theorem block_any {F:Fx} {L:Int} {q:List Nat} {w:World} {x:St} (hb:∀ q',BodyOk { F with o:=some q' } L) (h:WD F w x) (hq:F.o=some q) (ht:Nat) (hh:ht≤x.s.length) (hn:0<x.nl) (hn8:x.nl≤8) (hqn:q.length≤x.nl) (hl0:0≤x.left) (hlL:x.left≤L) (hw:wgt x≤799900) (hE:∀ k,¬ F.E k) :
 Calls Tryz.prog 51 #[.pointer (some ⟨F.G,0,none⟩),.int .i64 (ht:Int)] w (GPost F w x (.tuple #[]) (fun x'=>Uq x x' ht 60)):=by
 obtain⟨gl,ol,cl,hlv,hlc,hcm,_⟩:=h.labs hn;obtain⟨A0,c0v,hm0,_,_⟩:=Wd.form h.reads.types.1;rw[h.reads.types.2.1]at hm0;have c13:=h.c13;rw[hlv]at c13;unfold maxLen at hcm;have HC1:Hid (∀ (wy:World) (y:St),WD F wy y→wy.cell? ⟨F.G,1,none⟩=some (.slice A0 9 c0v)):=fun wy y hy=>by rw[hy.c1,hm0]
 have HM0:=hD hm0;have HR0:=hD (show Uq x x ht 0 from ⟨hh,nR _,rfl,hl0,Int.le_refl _⟩);have HBLK:=hD (fun (wy:World) (y:St) (hy:WD F wy y) (a:Int) (h1 : -4≤a) (h2:a<9)=>hy.blk a h1 h2);have HRN:=hD (fun (wy wz:World) (y:St) (hy:WD F wy y) (hb:Below wy.heap.size wy wz) (k:Nat) (hk:W9 F wy y k∨(wy.heap.size≤k∧k<wz.heap.size))=>hy.rnew hb hE hk);have HE:=hD hE;have HQ:=hD hq;have HQN:=hD hqn;have HBODY:Hid (∀ (q':List Nat) (wz:World) (z:St) (hd m:Nat),WD { F with o:=some q' } wz z→hd≤z.s.length→0<z.nl→z.nl≤8→0≤z.left→z.left≤L→wgt z≤800000→q'.length≤z.nl→m≤1000→Calls Tryz.prog 12 #[.pointer (some ⟨F.G,0,none⟩),.int .i64 (hd:Int),.int .i64 (m:Int)] wz (GrewPost { F with o:=some q' } wz z hd 0)):=fun q' wz z hd m h1 h2 h3 h4 h5 h6 h7 h8 h9=>hb q' wz z hd m h1 h2 h3 h4 h5 h6 h7 ⟨q',rfl,h8⟩ h9;have HLL:=hD hlL;have H:=hD h;clear hb h hq hh hlv hm0 hE hqn hl0 hlL;obtain⟨n,hN⟩:∃ n,x.nl=n:=⟨_,rfl⟩;rw[hN]at c13 hlc hn hn8;have HN:=hD hN;clear hN;go_enter Tryz.func51,Tryz.ntmps51;by_cases h6:n≤6
 case' neg =>
  have hd6:decide ((6:Int)<(n:Int))=true:=by simp;omega
  go_wp2;refine bodyPost_ret (results_none rfl _ _ _) rfl ⟨rfl,_,H.out,Wv.refl _ _ _,HR0.out.le (by omega)⟩
 have hd6:decide ((6:Int)<(n:Int))=false:=by simp;omega
 have c0:=H.out.c0;have c1:=HC1.out _ _ H.out;go_wp2_with fail
 clear c13
 go_region_held3 (fun w'=>w'.cell? ⟨F.G,0,none⟩=some (.pointer (some ⟨F.T,0,none⟩))∧w'.cell? ⟨F.G,1,none⟩=some (.slice A0 9 c0v))
  (first|go_keep|exact⟨hg1.c0,HC1.out _ _ hg1⟩)
  ((go_at_call 9;refine(WA H.out.drew.1 13 (by omega) (by omega)).mono ?_;rintro e w1 ⟨r1,hr1,rfl,x1,hg1,hs1,hn1⟩))
 have H1:=hD hg1;have HS1:Hid (Wv F w x w1 x1):=hD (H.out.drew.2.trans hs1);have HR1:=hD (HR0.out.fine (hn1.fine (ht:=ht) HR0.out.1));obtain⟨a,ha⟩:∃ a:Int,a=(r1:Int) - 4:=⟨_,rfl⟩;have e1:IntKind.i64.wrap ((r1:Int) - 4)=a:=by rw[ha];exact IntWalk.i64_in _ (by omega)
 have HE1:=hD e1;have ha1 : -4≤a:=by omega
 have ha2:a<9:=by omega
 clear ha hg1 hs1 hn1 c0 c1 H HR0;have hbk:=HBLK.out w1 x1 H1.out a ha1 ha2;rw[HM0.out]at hbk;have HBK:=hD hbk;clear hbk;have q1:=HC1.out _ _ H1.out;have q2:=H1.out.c2;have q3:=H1.out.c3;have q4:=H1.out.c4;have q5:=H1.out.c5;have q6:=H1.out.c6;have q7:=H1.out.c7;have q8:=H1.out.c8;go_wp2_with fail
 go_at_call 77;refine HBK.out.mono ?_;rintro e w2 ⟨p,r,tp,tr,rfl,hp3,hr3,hip,hir,hbel⟩;obtain⟨Ap,cp,hpv,_,_⟩:=hip.form;obtain⟨Ar,cr,hrv,_,_⟩:=hir.form;obtain⟨hg2,hs2⟩:=H1.out.below hbel;have hf:∀ k,(W9 F w1 x1 k∨(w1.heap.size≤k∧k<w2.heap.size))→W9 F w2 x1 k:=fun k hk=>HRN.out w1 w2 x1 H1.out hbel k hk;replace hip:=hip.keep (Wf.refl _ _) hf;replace hir:=hir.keep (Wf.refl _ _) hf;obtain⟨W1,hW1⟩:∃ W1,W1=w2:=⟨_,rfl⟩;rw[hpv]at hip ⊢;rw[hrv]at hir ⊢;clear hpv hrv hf hbel HBK HBLK HRN e1 q1 q2 q3 q4 q5 q6 q7 q8;generalize hLP:tp.length=np at *;generalize hLR:tr.length=nr at *;have HLP:=hD hLP;have HLR:=hD hLR;clear hLP hLR;have HP3:Hid (np≤3):=hD hp3;obtain⟨hgA,hsA⟩:=hg2.alloc (.cells #[.slice Ap np cp,.slice Ar nr cr] 66);have HIP:=hD (hsA.rints hip);have HIR:=hD (hsA.rints hir);have HTC:=hD (fun (wy:World) (y:St) (hy:Wv F (w2.alloc (.cells #[.slice Ap np cp,.slice Ar nr cr] 66)) x1 wy y)=>And.intro (hg2.new_cell _ _ hy 0) (hg2.new_cell _ _ hy 1));have H3:=hD hgA;have HS3:Hid (Wv F w x (w2.alloc (.cells #[.slice Ap np cp,.slice Ar nr cr] 66)) x1):=hD (HS1.out.trans (hs2.trans hsA));have HR3:=HR1;have c0:(w2.alloc (.cells #[.slice Ap np cp,.slice Ar nr cr] 66)).cell? ⟨F.G,0,none⟩=some (.pointer (some ⟨F.T,0,none⟩)):=hgA.c0;clear hip hir hg2 hs2 hgA hsA H1 HS1 HR1;go_wp2_with fail
 go_at_call 9;refine(WA H3.out 3 (by omega) (by omega)).mono ?_;rintro e w4 ⟨r4,hr4,rfl,x4,hg4,hs4,hn4⟩;obtain⟨W0,hW0⟩:∃ W0,W0=w2.alloc (.cells #[.slice Ap np cp,.slice Ar nr cr] 66):=⟨_,rfl⟩;rw[← hW0]at HIP HIR HTC H3 HS3 hs4 c0;obtain⟨X0,hX0⟩:∃ X0,X0=x1:=⟨_,rfl⟩;rw[← hX0]at HIP HIR HTC H3 HS3 hs4 HR3 hn4;subst hW1;have HT:Hid (∀ (wy:World) (y:St),Wv F W0 X0 wy y→wy.cell? ⟨W1.heap.size,0,none⟩=some (.slice Ap np cp)∧wy.cell? ⟨W1.heap.size,1,none⟩=some (.slice Ar nr cr)):=HTC;clear hW0 hX0 HTC;have HV3:=hD (Wv.refl F W0 X0);have HIP0:Hid (Wg (Ud F W0 X0) W0 (.slice Ap np cp) tp):=hD HIP.out.wide;have HIR0:Hid (Wg (Ud F W0 X0) W0 (.slice Ar nr cr) tr):=hD HIR.out.wide;have HS4:Hid (Wv F w x w4 x4):=hD (HS3.out.trans (hs4));have HV4:Hid (Wv F W0 X0 w4 x4):=hD (HV3.out.trans (hs4));have H4:=hD hg4;have HR4:=hD (HR3.out.fine (hn4.fine (ht:=ht) HR3.out.1));have c0:w4.cell? ⟨F.G,0,none⟩=some (.pointer (some ⟨F.T,0,none⟩)):=H4.out.c0;clear hg4 hs4 H3 HS3 HV3 HR3;obtain⟨op,hop⟩:∃ op:Int,op=2+(r4:Int):=⟨_,rfl⟩;have e2:IntKind.i64.wrap (2+(r4:Int))=op:=by rw[hop];exact IntWalk.i64_in _ (by omega)
 have hop2:op=2∨op=3∨op=4:=by omega
 have HOP:=hD hop2;clear hop hop2 hr4;have d0:=(HT.out _ _ HV4.out).1;have d1:=(HT.out _ _ HV4.out).2;go_wp2_with fail
 go_at_call 47;refine(Uo H4.out _ tp (HV4.out.ints HIP0.out) (by rw[HLP.out];have:=HLP.out;omega) ht HR4.out.1 ((HR4.out.most hw).le (by omega))).mono ?_;rintro e w5 ⟨rfl,x5,hg5,hs5,hu5,hz5⟩;rw[HLP.out]at hz5;have HR5a:=hD (HR4.out.fine (hu5.fine (ht:=ht+np) hz5));have HS5:Hid (Wv F w x w5 x5):=hD (HS4.out.trans hs5);have HV5:Hid (Wv F W0 X0 w5 x5):=hD (HV4.out.trans hs5);have H5:=hD hg5;have HR5:=HR5a;have c0:w5.cell? ⟨F.G,0,none⟩=some (.pointer (some ⟨F.T,0,none⟩)):=H5.out.c0;clear hg5 hs5 hu5 hz5 HR5a H4 HS4 HV4 HR4 d0 d1
 go_upto_if 50 with fail
 go_cut [4] from 10 to 55 (fun va wx=>∃ (a':Int) (y:St),va=.int .i64 a'∧a'=a∧Hid (WD F wx y)∧Hid (Wv F w x wx y)∧Hid (Wv F W0 X0 wx y)∧Hid (Uq x y (ht+np) 8))
 case first =>
  by_cases h4:op=4
  ·have hd4:(op==4)=true:=by simpa using h4
   clear h4;go_wp2_with fail
   go_at_call 27;refine(value_any H5.out 127 ((HR5.out.most hw).le (by omega))).mono ?_;rintro e w6 ⟨rfl,x6,hg6,hs6,hn6⟩;have hz6:ht+np+1≤x6.s.length:=by rw[hn6.1];have:=HR5.out.1;omega
   have HS6:Hid (Wv F w x w6 x6):=hD (HS5.out.trans (hs6));have HV6:Hid (Wv F W0 X0 w6 x6):=hD (HV5.out.trans (hs6));have H6:=hD hg6;have HR6:=hD (HR5.out.fine (hn6.fine (ht:=ht+np) HR5.out.1));have c0:w6.cell? ⟨F.G,0,none⟩=some (.pointer (some ⟨F.T,0,none⟩)):=H6.out.c0;clear hg6 hs6 H5 HS5 HV5 HR5;have hli:=H6.out.lit [127] 3 (by simp);obtain⟨hg7,hs7⟩:=H6.out.alloc (.cells ([127].map (Value.int .i64)).toArray 3);go_wp2_with fail
   go_at_call 48;refine(swap_any hg7 _ _ [127] [] hli (Wg.nil _ _) (by show 1≤_;omega) (by simp) ((HR6.out.most hw).le (by omega))).mono ?_;rintro e w8 ⟨rfl,x8,hg8,hs8,z1,z2,z3,z4⟩;simp only[List.length_singleton,List.length_nil]at z1;have hf8:V3 x6 x8 (ht+np) 0:=⟨by omega,by omega,z3,z4⟩;have HR8:=hD (HR6.out.fine hf8);have HS8:=hD (HS6.out.trans (hs7.trans hs8));have HV8:=hD (HV6.out.trans (hs7.trans hs8));have H8:=hD hg8;clear hli hg7 hs7 hg8 hs8 z1 z2 z3 z4 hf8;go_wp2
   go_meet
   exact⟨_,x8,rfl,HE1.out,H8,HS8,HV8,hD HR8.out⟩
  ·have hd4:(op==4)=false:=by simpa using h4
   clear h4;go_wp2
   go_meet
   exact⟨_,x5,rfl,HE1.out,H5,HS5,HV5,hD (HR5.out.le (by omega))⟩
 case rest =>
  obtain⟨a9,x9,rfl,ha9,H9,HS9,HV9,HR9⟩:=hcut;have HOK9:Hid (okB op a9 0 0 []=true):=hD (by subst ha9;rcases HOP.out with h|h|h <;> subst h <;> exact ok_i (-4) 63 0 0 (by decide +kernel) (by decide +kernel) ha1 (by omega) (by omega) (by omega) (by omega) (by omega))
  clear ha9;clear H5 HS5 HV5 HR5 c0;obtain⟨w9,rfl⟩:∃ w9,w9=wc:=⟨_,rfl⟩;have c0:w9.cell? ⟨F.G,0,none⟩=some (.pointer (some ⟨F.T,0,none⟩)):=H9.out.c0;obtain⟨kd,hkd⟩:∃ kd:Nat,VP op q=some (kd :: q)∧(op=4→kd=1):=by
   have h60:q.length<60:=by have:=HQN.out;have:=HN.out;omega
   unfold VP;by_cases h23:op=2∨op=3
   ·exact⟨0,by rw[if_pos h23,if_pos h60],fun h=>by omega⟩
   ·exact⟨1,by rw[if_neg h23,if_pos (by have:=HOP.out;omega),if_pos h60],fun _=>rfl⟩
  have HKD:=hD hkd;clear hkd;go_wp2_with fail
  go_at_call 14;refine(put_to H9.out op a9 0 0 (.slice none 0 0) ⟨[],Wg.nil _ _,HOK9.out⟩ ((HR9.out.most hw).le (by omega)) (some (kd :: q)) (fun q1 hq1=>⟨q,HQ.out,by rw[HKD.out.1];exact hq1⟩)).mono ?_;rintro e w10 ⟨rfl,x10,hg10,hs10',hn10,-⟩;have hs10:Wv F w9 x9 w10 x10:=Wv.reo (F:=F) (a:=some (kd :: q)) (b:=F.o) hs10';clear hs10';have HS10:Hid (Wv F w x w10 x10):=hD (HS9.out.trans (hs10));have HV10:Hid (Wv F W0 X0 w10 x10):=hD (HV9.out.trans (hs10));have H10:=hD hg10;have HR10:=hD (HR9.out.fine (hn10.fine (ht:=ht+np) HR9.out.1));have c0:w10.cell? ⟨F.G,0,none⟩=some (.pointer (some ⟨F.T,0,none⟩)):=H10.out.c0;clear hg10 hs10 H9 HS9 HV9 HR9;obtain⟨A10,c10,hv10,_,_⟩:=H10.out.sform;have c12:w10.cell? ⟨F.G,12,none⟩=some x10.sv:=H10.out.c12;rw[hv10]at c12;clear hv10;obtain⟨dd,hdd⟩:∃ dd:Nat,x10.s.length=dd+np:=⟨x10.s.length - np,by have:=HR10.out.1;omega⟩;have hhd:ht≤dd:=by have:=HR10.out.1;omega
  have hms10:=(HR10.out.most hw).s;generalize hX10:x10.s.length=S10 at *;have HX10:=hD hX10;clear hX10;have e3:IntKind.i64.wrap ((S10:Int) - (np:Int))=(dd:Int):=by rw[show(S10:Int) - (np:Int)=(dd:Int) by omega];exact IntWalk.i64_in _ (by omega)
  have HR10d:=hD (HR10.out.lower (b:=ht) (by omega));have hd10:Hid (dd≤x10.s.length):=by rw[Hid,HX10.out];omega
  have HDD:=hD hdd;clear hdd;have d0:=(HT.out _ _ HV10.out).1;have d1:=(HT.out _ _ HV10.out).2;go_wp2_with fail
  go_quiet (fail)
  rename_i nq _
  obtain⟨hg11,hs11'⟩:=H10.out.below (Wj (bR _ _) nq);have hs11:Wv F w10 x10 (w10.drewN nq) x10:=Wv.reo (F:=F) (a:=some (kd :: q)) (b:=F.o) hs11';clear hs11';generalize w10.drewN nq=w11 at hg11 hs11 ⊢;have HS11:Hid (Wv F w x w11 x10):=hD (HS10.out.trans hs11);have HV11:Hid (Wv F W0 X0 w11 x10):=hD (HV10.out.trans hs11);have H11:=hD hg11;have c0:w11.cell? ⟨F.G,0,none⟩=some (.pointer (some ⟨F.T,0,none⟩)):=H11.out.c0;clear hg11 hs11 H10 HS10 HV10 c12 e3 d0 d1 hms10;have d0:=(HT.out _ _ HV11.out).1;have d1:=(HT.out _ _ HV11.out).2
  go_upto_if 73 with fail
  go_cut [9] from 10 to 75 (fun v wx=>∃ (Al:Option Addr) (ml cl:Nat),v=.slice Al ml cl∧Hid (∃ l:List Int,l.length≤3∧Wg (W9 F W0 X0) W0 (.slice Al ml cl) l)∧wx=w11)
  case first =>
   have HL1:Hid (∃ l:List Int,l.length≤3∧Wg (W9 F W0 X0) W0 (.slice Ap np cp) l):=⟨tp,by rw[HLP.out];exact hp3,HIP.out⟩;have HL2:Hid (∃ l:List Int,l.length≤3∧Wg (W9 F W0 X0) W0 (.slice Ar nr cr) l):=⟨tr,by rw[HLR.out];exact hr3,HIR.out⟩;by_cases h3:op=3
   ·have hd3:(op==3)=true:=by simpa using h3
    clear h3;go_wp2
    go_meet
    exact⟨_,_,_,rfl,HL1,rfl⟩
   ·have hd3:(op==3)=false:=by simpa using h3
    clear h3;go_wp2
    go_meet
    exact⟨_,_,_,rfl,HL2,rfl⟩
  case rest =>
   obtain⟨Al,ml,cl2,rfl,HLL2,rfl⟩:=hcut;clear d0 d1;have c13:wc.cell? ⟨F.G,13,none⟩=some x10.lv:=H11.out.c13;have hnl10:x10.nl=n:=by rw[HR10.out.2.2.1];exact HN.out
   obtain⟨g5,o5,c5,hlv5,_,_,_⟩:=H11.out.labs (by omega);have HLK:Hid (LabsK (W9 F wc x10) wc x10.lv x10.nl):=hD H11.out.reads.labs;rw[hlv5,hnl10]at c13 HLK;clear hlv5;have HNL:=hD hnl10;clear hnl10;have HG13:Hid (wc.heap.size>F.G):=H11.out.lts.1;have c13b:(wc.alloc (.cells #[] 22)).cell? ⟨F.G,13,none⟩=some (.slice (some ⟨g5,o5,none⟩) n c5):=by rw[World.cell?_alloc_lt _ _ _ (by exact HG13.out)];exact c13
   obtain⟨us,hus,hnew0,hru⟩:=HLK.out.news;have hnew:VG (wc.alloc (.cells #[] 22)) (.slice (some ⟨g5,o5,none⟩) n c5) n us:=hnew0.keep fun a c _ j u _ hc=>(World.cell?_alloc_lt _ _ _ (wL _ _ hc)).trans hc;clear hnew0;have HUS:=hD hus;have HNEW:=hD hnew;have HRU:=hD hru;clear hus hnew hru;have HONE:Hid (∀ u ∈ us,u.oneCell'=true):=fun u hu=>by obtain⟨l,_,hl⟩:=HRU.out u hu;obtain⟨A,c,hv,_⟩:=hl.form;rw[hv];rfl
   have HF13:Hid (∀ w1,Wf (fun k=>k<wc.heap.size) wc w1→w1.frozen? ⟨F.G,13,none⟩=false):=fun w1 hk=>(World.frozen?_of_block (w:=wc) (a:=⟨F.G,13,none⟩) (hk.block F.G H11.out.lts.1)).trans (H11.out.frozen 13);have HC13:Hid (∀ w1,Wf (fun k=>k<wc.heap.size) wc w1→w1.cell? ⟨F.G,13,none⟩=some (.slice (some ⟨g5,o5,none⟩) n c5)):=fun w1 hk=>(hk.cell (p:=⟨F.G,13,none⟩) HG13.out).trans c13
   go_upto_region 14 with (at_builtin;first
    | (refine Wl rfl (.tmp 77) (.tmp 81) 67 22 rfl _ 1 24 Tryz.underlying67 Tryz.infoRow rfl (by decide) (by decide) (.slice (some ⟨wc.heap.size,0,none⟩) 0 0) 0 [] (by rfl) (Ue wc _) _ n us (by rfl) (by rw[HUS.out,Nat.mul_one]) HNEW.out HONE.out (by omega) ?_;intro u1 wa ho1 hga1 ha1;simp only[Nat.zero_add,List.nil_append]at ho1;have hk1:=keeps_made hga1;obtain⟨B1,k1,rfl⟩:=Wc ho1)
    | (refine Wl rfl (.tmp 82) (.tmp 84) 67 22 rfl _ 1 24 Tryz.underlying67 Tryz.infoRow rfl (by decide) (by decide) _ _ _ (by rfl) (ho1.alloc _) _ 1 [.slice Al ml cl2] (by rfl) (by rfl) (WS wa _ _ 1 1) (by simp[Value.oneCell']) (by omega) ?_;intro u2 wb ho2 hga2 ha2;have f13:=HF13.out wb (keeps_twice hk1 ha1 hga2);have e13:=HC13.out wb (keeps_twice hk1 ha1 hga2);obtain⟨B2,k2,rfl⟩:=Wc ho2))
   have hu9:∃ l:List Int,l.length≤3∧Wg (W9 F wc x10) wc (.slice Al ml cl2) l:=by obtain⟨l,h1,h2⟩:=HLL2.out;exact⟨l,h1,HV11.out.rints h2⟩
   obtain⟨hg12,hs12'⟩:=H11.out.addL HE.out (o:=.cells #[] 22) hk1 ha1 hga2 ha2 ho2 HRU.out hu9;have hs12:=Wv.reo (F:=F) (a:=some (kd :: q)) (b:=F.o) hs12';generalize wb.setCell ⟨F.G,13,none⟩ (.slice B2 (n+1) k2)=w12 at hg12 hs12 hs12' ⊢;obtain⟨x12,hx12⟩:∃ x12:St,x12={ x10 with lv:=.slice B2 (n+1) k2,nl:=n+1 }:=⟨_,rfl⟩;have HZ12:Hid (x12.s=x10.s∧x12.c=x10.c∧x12.nl=n+1∧x12.left=x10.left):=by rw[hx12];exact⟨rfl,rfl,rfl,rfl⟩
   have H12:Hid (WD { F with o:=some (kd :: q) } w12 x12):=by rw[hx12];exact hg12
   have HS12:Hid (Wv F w x w12 x12):=by rw[hx12];exact HS11.out.trans hs12
   have HV12:Hid (Wv F W0 X0 w12 x12):=by rw[hx12];exact HV11.out.trans hs12
   clear hg12 hs12 hs12' hx12 hu9 hk1 hga1 ha1 hga2 ha2 ho1 ho2 f13 e13 HNEW HUS HRU HONE HF13 HC13 HG13 HLK HLL2 c13 c13b H11 HS11 HV11;have hw12:wgt x12≤799909:=by have h1:=HR10d.out.2.1;obtain⟨z1,z2,z3,z4⟩:=HZ12.out;unfold wgt at *;rw[z1,z2,z4];omega
   have HW12:Hid (wgt x12≤wgt x+9):=by have h1:=HR10d.out.2.1;obtain⟨z1,z2,z3,z4⟩:=HZ12.out;unfold Hid wgt at *;rw[z1,z2,z4];omega
   have hl12:0≤x12.left:=by rw[HZ12.out.2.2.2];exact HR10d.out.2.2.2.1
   have HLX:Hid (x12.left≤x.left):=by rw[Hid,HZ12.out.2.2.2];exact HR10d.out.2.2.2.2
   have HR12:Hid (Uq x12 x12 dd 0):=hD ⟨by rw[HZ12.out.1];exact hd10.out,nR _,rfl,hl12,Int.le_refl _⟩;have HB1:Hid (∀ (kd':Nat) (wz:World) (z:St) (m d:Nat),WD { F with o:=some (kd' :: q) } wz z→Uq x12 z dd d→d≤50→m≤1000→Calls Tryz.prog 12 #[.pointer (some ⟨F.G,0,none⟩),.int .i64 (dd:Int),.int .i64 (m:Int)] wz (GrewPost { F with o:=some (kd' :: q) } wz z dd 0)):=fun kd' wz z m d h1 h2 h3 h4=>HBODY.out (kd' :: q) wz z dd m h1 h2.1 (by rw[h2.2.2.1,HZ12.out.2.2.1];omega) (by rw[h2.2.2.1,HZ12.out.2.2.1];omega) h2.2.2.2.1 (by have:=h2.2.2.2.2;have:=HLX.out;have:=HLL.out;omega) (by have:=h2.2.1;omega) (by rw[h2.2.2.1,HZ12.out.2.2.1];have:=HQN.out;have:=HN.out;simp only[List.length_cons];omega) h4;have c0:w12.cell? ⟨F.G,0,none⟩=some (.pointer (some ⟨F.T,0,none⟩)):=H12.out.c0;clear hl12 HBODY;go_wp2_with fail
   go_at_call 9;refine(WA H12.out 5 (by omega) (by omega)).mono ?_;rintro e w13 ⟨r13,hr13,rfl,x13,hg13,hs13',hn13⟩;have hs13:Wv F w12 x12 w13 x13:=Wv.reo (F:=F) (a:=some (kd :: q)) (b:=F.o) hs13';clear hs13';have HS13:Hid (Wv F w x w13 x13):=hD (HS12.out.trans (hs13));have HV13:Hid (Wv F W0 X0 w13 x13):=hD (HV12.out.trans (hs13));have H13:=hD hg13;have HR13:=hD (HR12.out.fine (hn13.fine (ht:=dd) HR12.out.1));have c0:w13.cell? ⟨F.G,0,none⟩=some (.pointer (some ⟨F.T,0,none⟩)):=H13.out.c0;clear hg13 hs13 H12 HS12 HV12 HR12;have e4:IntKind.i64.wrap (1+(r13:Int))=((1+r13:Nat):Int):=by rw[show(1:Int)+(r13:Int)=((1+r13:Nat):Int) by omega];exact IntWalk.i64_in _ (by omega)
   go_wp2_with fail
   go_at_call 12;refine(HB1.out _ _ _ (1+r13) 0 H13.out HR13.out (by omega) (by omega)).mono ?_;rintro e w14 ⟨bb,rfl,x14,hg14,hs14',hr14⟩;have hs14:Wv F w13 x13 w14 x14:=Wv.reo (F:=F) (a:=some (kd :: q)) (b:=F.o) hs14';clear hs14';have HS14:Hid (Wv F w x w14 x14):=hD (HS13.out.trans (hs14));have HV14:Hid (Wv F W0 X0 w14 x14):=hD (HV13.out.trans (hs14));have H14:=hD hg14;have HR14:=hD (HR13.out.trans hr14);have c0:w14.cell? ⟨F.G,0,none⟩=some (.pointer (some ⟨F.T,0,none⟩)):=H14.out.c0;clear hg14 hs14 H13 HS13 HV13 HR13;clear hr14;clear e4 hr13 hn13
   go_upto_if 96 with fail
   go_cut [] from 10 to 101 (fun wx=>∃ y:St,Hid (WD { F with o:=some (kd :: q) } wx y)∧Hid (Wv F w x wx y)∧Hid (Wv F W0 X0 wx y)∧Hid (Uq x12 y dd 6))
   case first =>
    cases bb
    case' true =>
     have d0:=(HT.out _ _ HV14.out).1;have d1:=(HT.out _ _ HV14.out).2;go_wp2_with fail
     go_at_call 13;refine(shape_any H14.out _ tr (HV14.out.ints HIR0.out) (by rw[HLR.out];have:=HLR.out;omega) dd HR14.out.1 ((HR14.out.most hw12).le (by omega))).mono ?_;rintro e w15 ⟨rfl,x15,hg15,hs15',hj15⟩;have hs15:Wv F w14 x14 w15 x15:=Wv.reo (F:=F) (a:=some (kd :: q)) (b:=F.o) hs15';clear hs15' d0 d1;have HS15:Hid (Wv F w x w15 x15):=hD (HS14.out.trans (hs15));have HV15:Hid (Wv F W0 X0 w15 x15):=hD (HV14.out.trans (hs15));have H15:=hD hg15;have HR15:=hD ((HR14.out.fine hj15.fine).lower (b:=dd) (by omega));have c0:w15.cell? ⟨F.G,0,none⟩=some (.pointer (some ⟨F.T,0,none⟩)):=H15.out.c0;clear hg15 hs15 H14 HS14 HV14 HR14;go_wp2
     go_meet
     exact⟨_,H15,HS15,HV15,hD (HR15.out.le (by omega))⟩
    case' false =>
     go_wp2
     go_meet
     exact⟨_,H14,HS14,HV14,hD (HR14.out.le (by omega))⟩
   case rest =>
    obtain⟨x16,H16,HS16,HV16,HR16⟩:=hcut;clear H14 HS14 HV14 HR14 c0;obtain⟨w16,rfl⟩:∃ w16,w16=wc:=⟨_,rfl⟩;have c0:w16.cell? ⟨F.G,0,none⟩=some (.pointer (some ⟨F.T,0,none⟩)):=H16.out.c0
    go_upto_if 103 with fail
    go_cut [] from 10 to 133 (fun wx=>∃ (kd':Nat) (y:St),Hid (WD { F with o:=some (kd' :: q) } wx y)∧Hid (Wv F w x wx y)∧Hid (Wv F W0 X0 wx y)∧Hid (Uq x12 y dd 30))
    case first =>
     by_cases h4:op=4
     case' neg =>
      have hd4:(op==4)=false:=by simpa using h4
      clear h4;go_wp2
      go_meet
      exact⟨_,_,H16,HS16,HV16,hD (HR16.out.le (by omega))⟩
     have hd4:(op==4)=true:=by simpa using h4
     have hk1:kd=1:=HKD.out.2 h4;have HK1:=hD hk1;clear h4 hk1;go_wp2_with fail
     go_at_call 14;refine(put_to H16.out 5 0 0 0 (.slice none 0 0) ⟨[],Wg.nil _ _,by decide +kernel⟩ ((HR16.out.most hw12).le (by omega)) (some (0 :: q)) (fun q1 hq1=>⟨kd :: q,rfl,by rw[HK1.out];exact hq1⟩)).mono ?_;rintro e w17 ⟨rfl,x17,hg17,hs17',hn17,-⟩;have hs17:Wv F w16 x16 w17 x17:=Wv.reo (F:=F) (a:=some (0 :: q)) (b:=F.o) hs17';clear hs17';have HS17:Hid (Wv F w x w17 x17):=hD (HS16.out.trans (hs17));have HV17:Hid (Wv F W0 X0 w17 x17):=hD (HV16.out.trans (hs17));have H17:=hD hg17;have HR17:=hD (HR16.out.fine (hn17.fine (ht:=dd) HR16.out.1));have c0:w17.cell? ⟨F.G,0,none⟩=some (.pointer (some ⟨F.T,0,none⟩)):=H17.out.c0;clear hg17 hs17 H16 HS16 HV16 HR16
     go_upto_region 18 with fail
     go_cut [] from 10 to 120 (fun wx=>∃ y:St,Hid (WD { F with o:=some (0 :: q) } wx y)∧Hid (Wv F w x wx y)∧Hid (Wv F W0 X0 wx y)∧Hid (Uq x12 y dd 13))
     case first =>
      obtain⟨As,cs,hsv,hsc,_⟩:=H17.out.sform;have c12:w17.cell? ⟨F.G,12,none⟩=some x17.sv:=H17.out.c12;have c12b:(w17.alloc (.cells #[] 3)).cell? ⟨F.G,12,none⟩=some x17.sv:=(H17.out.pushf (.cells #[] 3)).1;have hms:=(HR17.out.most hw12).s;have hdd:dd≤x17.s.length:=HR17.out.1;have HN1:Hid (VG (w17.alloc (.cells #[] 3)) (.slice As dd cs) dd ((x17.s.take dd).map (Value.int .i64))):=H17.out.snews (.alloc w17 (fun _ h=>h) _) hsv hdd;have HN2:Hid (∀ w1,Wf (fun k=>k<w17.heap.size) w17 w1→VG w1 (.slice Ap np cp) np ((tp).map (Value.int .i64))):=fun w1 hk=>by have h9:=(HV17.out.ints HIP0.out).news_at (fun k hk=>hk.1) hk;rwa [HLP.out]at h9
      have HLT:Hid ((x17.s.take dd).length=dd):=by rw[Hid,List.length_take];omega
      have d0:=(HT.out _ _ HV17.out).1;have d1:=(HT.out _ _ HV17.out).2;have HTB:Hid (∀ w1,Wf (fun k=>k<w17.heap.size) w17 w1→w1.cell? ⟨W1.heap.size,0,none⟩=some (.slice Ap np cp)∧w1.cell? ⟨W1.heap.size,1,none⟩=some (.slice Ar nr cr)):=fun w1 hk=>⟨(hk.cell (p:=⟨W1.heap.size,0,none⟩) (wL _ _ d0)).trans d0,(hk.cell (p:=⟨W1.heap.size,1,none⟩) (wL _ _ d1)).trans d1⟩;obtain⟨db0,db1⟩:=HTB.out _ (Wf.alloc w17 (fun _ h=>h) (.cells #[] 3));rw[hsv]at c12 c12b;have HSV:=hD hsv;clear hsv;generalize hX:x17.s.length=S at *;have HX:=hD hX;clear hX;have hdc:dd≤cs:=by omega
      have hdc2:(dd:Int)≤(cs:Int):=by omega
      go_wp2_with fail
      go_region_law (first
       | (refine Wb rfl (.tmp 108) (.tmp 114) 22 3 rfl _ 1 8 Tryz.underlying22 Tryz.infoInt rfl (by decide) (by decide) (.slice (some ⟨w17.heap.size,0,none⟩) 0 0) 0 [] (by rfl) (owns_drew (Ue w17 _)) _ dd ((x17.s.take dd).map (Value.int .i64)) (by rfl) (by rw[List.length_map,HLT.out,Nat.mul_one]) (news_drew HN1.out) (WP _) (by omega) ?_;intro u1 wa ho1 hga1 ha1;simp only[Nat.zero_add,List.nil_append]at ho1;have hk1:=keeps_made (grown_drew hga1);obtain⟨dc0,dc1⟩:=HTB.out _ hk1;obtain⟨B1,k1,rfl⟩:=Wc ho1)
       | (refine Wb rfl (.tmp 115) (.tmp 117) 22 3 rfl _ 1 8 Tryz.underlying22 Tryz.infoInt rfl (by decide) (by decide) _ _ _ (by rfl) ho1 _ np ((tp).map (Value.int .i64)) (by rfl) (by rw[List.length_map,HLP.out,Nat.mul_one]) (HN2.out _ hk1) (WP _) (by omega) ?_;intro u2 wb ho2 hga2 ha2;have hk2:=keeps_made2 (o:=.cells #[] 3) hk1 ha1 hga2;obtain⟨e12,f12⟩:=H17.out.store12 hk2;obtain⟨B2,k2,rfl⟩:=Wc ho2))
      all_goals
       have hsl:(x17.s.take dd++tp).length=dd+np:=by rw[List.length_append,HLT.out,HLP.out]
       have ho:wb.ownsRow 0 3 1 (.slice B2 (dd+np) k2) (x17.s.take dd++tp).length ((x17.s.take dd++tp).map (Value.int .i64)):=by rw[hsl,List.map_append];exact ho2
       have hgs:=H17.out.setS (hk2.mono fun _ h=>h.1) _ _ ho (.inr (made_at hk1 ha1 ha2));have HGS:=hD hgs;have HSL:=hD hsl;clear hgs hsl ho ho1 ho2 hga1 hga2 ha1 ha2 hk1 hk2 e12 f12 dc0 dc1;go_wp2
       go_meet
       refine⟨_,hD HGS.out.1,hD (HS17.out.trans (Wv.reo (F:=F) (a:=some (0 :: q)) (b:=F.o) HGS.out.2)),hD (HV17.out.trans (Wv.reo (F:=F) (a:=some (0 :: q)) (b:=F.o) HGS.out.2)),hD (HR17.out.reap HSL.out (by have:=HP3.out;omega) HX.out (by omega))⟩
     case rest =>
      obtain⟨x19,H19,HS19,HV19,HR19⟩:=hcut;clear H17 HS17 HV17 HR17 c0;obtain⟨w19,rfl⟩:∃ w19,w19=wc:=⟨_,rfl⟩;have c0:w19.cell? ⟨F.G,0,none⟩=some (.pointer (some ⟨F.T,0,none⟩)):=H19.out.c0;go_wp2_with fail
      go_at_call 9;refine(WA H19.out 4 (by omega) (by omega)).mono ?_;rintro e w20 ⟨r20,hr20,rfl,x20,hg20,hs20',hn20⟩;have hs20:Wv F w19 x19 w20 x20:=Wv.reo (F:=F) (a:=some (0 :: q)) (b:=F.o) hs20';clear hs20';have HS20:Hid (Wv F w x w20 x20):=hD (HS19.out.trans (hs20));have HV20:Hid (Wv F W0 X0 w20 x20):=hD (HV19.out.trans (hs20));have H20:=hD hg20;have HR20:=hD (HR19.out.fine (hn20.fine (ht:=dd) HR19.out.1));have c0:w20.cell? ⟨F.G,0,none⟩=some (.pointer (some ⟨F.T,0,none⟩)):=H20.out.c0;clear hg20 hs20 H19 HS19 HV19 HR19;go_wp2_with fail
      go_at_call 12;refine(HB1.out _ _ _ r20 13 H20.out HR20.out (by omega) (by omega)).mono ?_;rintro e w21 ⟨bb,rfl,x21,hg21,hs21',hr21⟩;have hs21:Wv F w20 x20 w21 x21:=Wv.reo (F:=F) (a:=some (0 :: q)) (b:=F.o) hs21';clear hs21';have HS21:Hid (Wv F w x w21 x21):=hD (HS20.out.trans (hs21));have HV21:Hid (Wv F W0 X0 w21 x21):=hD (HV20.out.trans (hs21));have H21:=hD hg21;have HR21:=hD (HR20.out.trans hr21);have c0:w21.cell? ⟨F.G,0,none⟩=some (.pointer (some ⟨F.T,0,none⟩)):=H21.out.c0;clear hg21 hs21 H20 HS20 HV20 HR20;clear hr21;cases bb
      case' true =>
       have d0:=(HT.out _ _ HV21.out).1;have d1:=(HT.out _ _ HV21.out).2;go_wp2_with fail
       go_at_call 13;refine(shape_any H21.out _ tr (HV21.out.ints HIR0.out) (by rw[HLR.out];have:=HLR.out;omega) dd HR21.out.1 ((HR21.out.most hw12).le (by omega))).mono ?_;rintro e w22 ⟨rfl,x22,hg22,hs22',hj22⟩;have hs22:Wv F w21 x21 w22 x22:=Wv.reo (F:=F) (a:=some (0 :: q)) (b:=F.o) hs22';clear hs22' d0 d1;have HS22:Hid (Wv F w x w22 x22):=hD (HS21.out.trans (hs22));have HV22:Hid (Wv F W0 X0 w22 x22):=hD (HV21.out.trans (hs22));have H22:=hD hg22;have HR22:=hD ((HR21.out.fine hj22.fine).lower (b:=dd) (by omega));have c0:w22.cell? ⟨F.G,0,none⟩=some (.pointer (some ⟨F.T,0,none⟩)):=H22.out.c0;clear hg22 hs22 H21 HS21 HV21 HR21;go_wp2
       go_meet
       exact⟨_,_,H22,HS22,HV22,hD (HR22.out.le (by omega))⟩
      case' false =>
       go_wp2
       go_meet
       exact⟨_,_,H21,HS21,HV21,hD (HR21.out.le (by omega))⟩
    case rest =>
     obtain⟨ke,x30,H30,HS30,HV30,HR30⟩:=hcut;clear H16 HS16 HV16 HR16 c0;obtain⟨w30,rfl⟩:∃ w30,w30=wc:=⟨_,rfl⟩;have hnl:x30.nl=n+1:=by rw[HR30.out.2.2.1];exact HZ12.out.2.2.1
     obtain⟨g6,o6,c6,hlv6,hlc6,_,_⟩:=H30.out.labs (by omega);have c13:w30.cell? ⟨F.G,13,none⟩=some x30.lv:=H30.out.c13;have f13:w30.frozen? ⟨F.G,13,none⟩=false:=H30.out.frozen 13;obtain⟨hg31,hs31'⟩:=H30.out.popL (n:=n) hlv6 (by omega) (by omega);rw[hlv6,hnl]at c13;clear hlv6;have e5:IntKind.i64.wrap (((n+1:Nat):Int) - 1)=(n:Int):=by rw[show((n+1:Nat):Int) - 1=(n:Int) by omega];exact IntWalk.i64_in _ (by omega)
     have e6:IntKind.i64.wrap ((n:Int)+1 - 1)=(n:Int):=by rw[show(n:Int)+1 - 1=(n:Int) by omega];exact IntWalk.i64_in _ (by omega)
     have hnc:n≤c6:=by omega
     obtain⟨hg32,hs32'⟩:=hg31.drew;have hs32:=Wv.reo (F:=F) (a:=some (ke :: q)) (b:=F.o) (hs31'.trans hs32');obtain⟨x32,hx32⟩:∃ x32:St,x32={ x30 with lv:=.slice (some ⟨g6,o6,none⟩) n c6,nl:=n }:=⟨_,rfl⟩;have HZ32:Hid (x32.s=x30.s∧x32.c=x30.c∧x32.nl=n∧x32.left=x30.left):=by rw[hx32];exact⟨rfl,rfl,rfl,rfl⟩
     rw[← hx32]at hg32 hs32;have HG32:=hD hg32;have HSS32:=hD hs32;clear hg31 hs31' hg32 hs32 hs32' hx32 hnl hlc6;go_wp2_with fail
     go_region
     clear c13 f13 e5 e6 hnc;have hg32:=HG32.out;have hs32:=HSS32.out;clear HG32 HSS32;generalize (w30.setCell ⟨F.G,13,none⟩ (.slice (some ⟨g6,o6,none⟩) n c6)).drew=w32 at hg32 hs32 ⊢;have H32:=hD hg32;have HS32:Hid (Wv F w x w32 x32):=hD (HS30.out.trans hs32);have HV32:Hid (Wv F W0 X0 w32 x32):=hD (HV30.out.trans hs32);have HR32:Hid (dd≤x32.s.length∧wgt x32≤wgt x12+30∧0≤x32.left∧x32.left≤x12.left):=by obtain⟨z1,z2,z3,z4⟩:=HZ32.out;obtain⟨y1,y2,y3,y4,y5⟩:=HR30.out;unfold Hid wgt at *;rw[z1,z2,z4];exact⟨y1,y2,y4,y5⟩
     clear hg32 hs32 H30 HS30 HV30 HR30;go_wp2_with fail
     go_at_call 14;have hm32:Vs x32 860000:=most_of_wgt (by have:=HR32.out.2.1;omega);refine(put_to H32.out 11 0 0 0 (.slice none 0 0) ⟨[],Wg.nil _ _,by decide +kernel⟩ (hm32.le (by omega)) F.o (fun q1 hq1=>⟨ke :: q,rfl,by rw[HQ.out]at hq1;exact hq1⟩)).mono ?_;rintro e w33 ⟨rfl,x33,hg33',hs33',hn33,-⟩;have hg33:WD F w33 x33:=hg33';have hs33:Wv F w32 x32 w33 x33:=Wv.reo (F:=F) (a:=F.o) (b:=F.o) hs33';have H33:=hD hg33;have HS33:Hid (Wv F w x w33 x33):=hD (HS32.out.trans hs33);have HV33:Hid (Wv F W0 X0 w33 x33):=hD (HV32.out.trans hs33);have HR33:Hid (dd≤x33.s.length∧wgt x33≤wgt x12+31∧0≤x33.left∧x33.left≤x12.left∧x33.nl=n):=by obtain⟨n1,n2,n3,n4⟩:=hn33;obtain⟨y1,y2,y4,y5⟩:=HR32.out;have z9:=HZ32.out.2.2.1;unfold Hid wgt at *;rw[n1,n2,n4,n3];exact⟨y1,by omega,y4,y5,z9⟩
     have hw33:wgt x33≤800000:=by have:=HR33.out.2.1;omega
     clear hg33 hg33' hs33 hs33' hn33 H32 HS32 HV32 HR32 hm32;obtain⟨As,cs,hsv,hsc,_⟩:=H33.out.sform;have c12:w33.cell? ⟨F.G,12,none⟩=some x33.sv:=H33.out.c12;have c12b:(w33.alloc (.cells #[] 3)).cell? ⟨F.G,12,none⟩=some x33.sv:=(H33.out.pushf (.cells #[] 3)).1;have hms:=(most_of_wgt hw33).s;have hdd:dd≤x33.s.length:=HR33.out.1;have HN1:Hid (VG (w33.alloc (.cells #[] 3)) (.slice As dd cs) dd ((x33.s.take dd).map (Value.int .i64))):=H33.out.snews (.alloc w33 (fun _ h=>h) _) hsv hdd;have HN2:Hid (∀ w1,Wf (fun k=>k<w33.heap.size) w33 w1→VG w1 (.slice Ar nr cr) nr ((tr).map (Value.int .i64))):=fun w1 hk=>by have h9:=(HV33.out.ints HIR0.out).news_at (fun k hk=>hk.1) hk;rwa [HLR.out]at h9
     have HLT:Hid ((x33.s.take dd).length=dd):=by rw[Hid,List.length_take];omega
     have d0:=(HT.out _ _ HV33.out).1;have d1:=(HT.out _ _ HV33.out).2;have HTB:Hid (∀ w1,Wf (fun k=>k<w33.heap.size) w33 w1→w1.cell? ⟨W1.heap.size,0,none⟩=some (.slice Ap np cp)∧w1.cell? ⟨W1.heap.size,1,none⟩=some (.slice Ar nr cr)):=fun w1 hk=>⟨(hk.cell (p:=⟨W1.heap.size,0,none⟩) (wL _ _ d0)).trans d0,(hk.cell (p:=⟨W1.heap.size,1,none⟩) (wL _ _ d1)).trans d1⟩;obtain⟨db0,db1⟩:=HTB.out _ (Wf.alloc w33 (fun _ h=>h) (.cells #[] 3));rw[hsv]at c12 c12b;have HSV:=hD hsv;clear hsv;generalize hX:x33.s.length=S at *;have HX:=hD hX;clear hX;have hdc:dd≤cs:=by omega
     have hdc2:(dd:Int)≤(cs:Int):=by omega
     go_wp2_with fail
     go_region_law (first
      | (refine Wb rfl (.tmp 152) (.tmp 158) 22 3 rfl _ 1 8 Tryz.underlying22 Tryz.infoInt rfl (by decide) (by decide) (.slice (some ⟨w33.heap.size,0,none⟩) 0 0) 0 [] (by rfl) (owns_drew (Ue w33 _)) _ dd ((x33.s.take dd).map (Value.int .i64)) (by rfl) (by rw[List.length_map,HLT.out,Nat.mul_one]) (news_drew HN1.out) (WP _) (by omega) ?_;intro u1 wa ho1 hga1 ha1;simp only[Nat.zero_add,List.nil_append]at ho1;have hk1:=keeps_made (grown_drew hga1);obtain⟨dc0,dc1⟩:=HTB.out _ hk1;obtain⟨B1,k1,rfl⟩:=Wc ho1)
      | (refine Wb rfl (.tmp 159) (.tmp 161) 22 3 rfl _ 1 8 Tryz.underlying22 Tryz.infoInt rfl (by decide) (by decide) _ _ _ (by rfl) ho1 _ nr ((tr).map (Value.int .i64)) (by rfl) (by rw[List.length_map,HLR.out,Nat.mul_one]) (HN2.out _ hk1) (WP _) (by omega) ?_;intro u2 wb ho2 hga2 ha2;have hk2:=keeps_made2 (o:=.cells #[] 3) hk1 ha1 hga2;obtain⟨e12,f12⟩:=H33.out.store12 hk2;obtain⟨B2,k2,rfl⟩:=Wc ho2))
     all_goals
      have hsl:(x33.s.take dd++tr).length=dd+nr:=by rw[List.length_append,HLT.out,HLR.out]
      have ho:wb.ownsRow 0 3 1 (.slice B2 (dd+nr) k2) (x33.s.take dd++tr).length ((x33.s.take dd++tr).map (Value.int .i64)):=by rw[hsl,List.map_append];exact ho2
      have hgs:=H33.out.setS (hk2.mono fun _ h=>h.1) _ _ ho (.inr (made_at hk1 ha1 ha2));have HGS:=hD hgs;have HSL:=hD hsl;clear hgs hsl ho ho1 ho2 hga1 hga2 ha1 ha2 hk1 hk2 e12 f12 dc0 dc1;go_wp2;refine bodyPost_end (results_none rfl _ _ _) rfl ⟨rfl,_,HGS.out.1,HS33.out.trans HGS.out.2,?_⟩;obtain⟨y1,y2,y3,y4,y5⟩:=HR33.out;have hl9:=HSL.out;have hx9:=HX.out;have hw9:=HW12.out;have hx8:=HLX.out;have hn9:=HN.out;refine⟨?_,?_,?_,y3,by show x33.left≤_;omega⟩
      ·show ht≤(x33.s.take dd++tr).length;omega
      ·unfold wgt at *;show(x33.s.take dd++tr).length+x33.c.length+100 * x33.left.toNat≤_;omega
      ·show x33.nl=x.nl;omega
end Go.Proofs.YtepgopnnaeoolaaGreatDoor
