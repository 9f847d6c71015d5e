/- A part of the proof. -/
import Derived.Test.YtmfpnfdinoofpaaGreatDoorJ24
import Derived.Test.YtmfpnfdinoofpaaGreatDoorJ25
namespace Go.Proofs.YtmfpnfdinoofpaaGreatDoor
section
open Go.RowKit
set_option maxHeartbeats 2000000
set_option maxRecDepth 100000
theorem ZbD {P:Prop}(h:P:=by
 obtain⟨f1,f2,f3⟩:=flatS_at s.out j hjs;have hp:=h2.po;rw[HNO.out]at hp;refine⟨?_,?_,?_,?_,h2.so.frozenAt _,h2.so.frozenAt _⟩
 ·rw[hp.cellAt tl (by omega),htj,← htl2];simp[natV]
 ·rw[h2.so.cellAt _ (by omega),f1,hne]
 ·rw[h2.so.cellAt _ (by omega),f2]
 ·rw[h2.so.cellAt _ (by omega),f3]):P:=h
theorem Zco {P:Prop}(h:P:=by
 rw[HNO.out]at h1;have h2:=owns_cut h1 (Nat.le_succ tl);rw[HTJ.out,List.map_append,Nat.mul_one,← HTL.out,← List.length_map (f:=natV),List.take_left,List.length_map,HTL.out]at h2;rw[HTL.out];exact h2):P:=h
theorem Zcw {P:Prop}(h:P:=by
 simp only[vI]at h;obtain⟨rfl,-,rfl⟩:=h;exact⟨gp,_,rfl⟩):P:=h
theorem Tryz.infoSpan:(Tryz.prog.info? 220).map (fun i=>(i.zero,i.size,i.bytes))=some (some (.agg #[.int .i64 0,.int .i64 0,.int .i64 0]),3,24):=by kernel_rfl
def natV (k:Nat):Value:=.int .i64 (k:Int)
def PairPost (ops:List Int) (m:Nat) (w:World) (e:Ending) (w':World):Prop :=
 match V1 ops 0 m with
 | none=>e=.returned (.tuple #[.slice none 0 0,.int .i64 0,.bool false])∧Below w.heap.size w w'
 | some s=>∃ v,e=.returned (.tuple #[v,.int .i64 (s.deep:Int),.bool (decide (s.op.length=0))])∧w'.ownsRow 0 220 3 v s.out.length (UM s.out)∧(∀ g,v.ownBlock=some g→w.heap.size≤g)∧Below w.heap.size w w'
theorem pair_none {ops:List Int} {m k:Nat} {w w':World} (h:V1 ops 0 k=none) (hk:k≤m) (hb:Below w.heap.size w w'):PairPost ops m w (.returned (.tuple #[.slice none 0 0,.int .i64 0,.bool false])) w':=by
 unfold PairPost;rw[mrun_none h m hk];exact⟨rfl,hb⟩
structure Two (T:TypeId) (w wr:World) (sp op:Value) (s:MSt):Prop where
 so:wr.ownsRow 0 T 3 sp s.out.length (UM s.out)
 po:wr.ownsRow 0 3 1 op s.op.length (s.op.map natV)
 sn:∀ g,sp.ownBlock=some g→w.heap.size≤g∧op.ownBlock≠some g
 pn:∀ g,op.ownBlock=some g→w.heap.size≤g
 bel:Below w.heap.size w wr
theorem Two.below {T:TypeId} {w wr w':World} {sp op:Value} {s:MSt} (h:Two T w wr sp op s) (hb:Below wr.heap.size wr w'):Two T w w' sp op s:=⟨W8 h.so hb,W8 h.po hb,h.sn,h.pn,Wa h.bel hb⟩
theorem Two.alloc {T:TypeId} {w wr:World} {sp op:Value} {s:MSt} (h:Two T w wr sp op s) (o:Obj):Two T w (wr.alloc o) sp op s:=h.below ((bR _ _).alloc (nR _) o)
theorem Two.pushP {T:TypeId} {w wr w':World} {sp op v:Value} {s:MSt} (h:Two T w wr sp op s) (hg:wr.grownBy w' op.ownBlock) (hat:v.ownBlock=op.ownBlock∨v.ownBlock=some wr.heap.size) :
 w'.ownsRow 0 T 3 sp s.out.length (UM s.out)∧(∀ g,sp.ownBlock=some g→w.heap.size≤g∧v.ownBlock≠some g)∧(∀ g,v.ownBlock=some g→w.heap.size≤g)∧Below w.heap.size w w':=by
 refine⟨h.so.kept hg ?_,fun g hg'=>⟨(h.sn g hg').1,fun e=>?_⟩,fun g hg'=>?_,h.bel.grown hg h.bel.size h.pn⟩
 ·cases hs:sp.ownBlock with
  | none=>exact .inl rfl
  | some g=>exact .inr fun e=>(h.sn g hs).2 e.symm
 ·rcases hat with h1|h1
  ·exact(h.sn g hg').2 (h1 ▸ e)
  ·have e2:=h1.symm.trans e;simp only[Option.some.injEq]at e2;have:=(h.so.lt g hg').2;omega
 ·rcases hat with h1|h1
  ·exact h.pn g (h1 ▸ hg')
  ·have e2:=h1.symm.trans hg';simp only[Option.some.injEq]at e2;have:=h.bel.size;omega
theorem Two.pushS {T:TypeId} {w wr w':World} {sp op v:Value} {k:Nat} {os:List Value} (hpo:wr.ownsRow 0 3 1 op k os) (hsn:∀ g,sp.ownBlock=some g→w.heap.size≤g∧op.ownBlock≠some g) (hpn:∀ g,op.ownBlock=some g→w.heap.size≤g) (hb:Below w.heap.size w wr)
 {m:Nat} {xs:List Value} (ho:w'.ownsRow 0 T 3 v m xs) (hg:wr.grownBy w' sp.ownBlock) (hat:v.ownBlock=sp.ownBlock∨v.ownBlock=some wr.heap.size) (t:MSt) (h1:t.out.length=m) (h2:UM t.out=xs) (h3:t.op.length=k) (h4:t.op.map natV=os):Two T w w' v op t:=by
 have hne:op.ownBlock=none∨op.ownBlock≠sp.ownBlock:=by
  cases hs:op.ownBlock with
  | none=>exact .inl rfl
  | some g=>exact .inr fun e=>(hsn g e.symm).2 hs
 refine⟨by rw[h1,h2];exact ho,by rw[h3,h4];exact hpo.kept hg hne,fun g hg'=>?_,hpn,hb.grown hg hb.size fun g hg'=>(hsn g hg').1⟩
 ·rcases hat with h5|h5
  ·exact hsn g (h5 ▸ hg')
  ·have e2:=h5.symm.trans hg';simp only[Option.some.injEq]at e2;have:=hb.size;refine⟨by omega,fun e=>?_⟩;have:=(hpo.lt g e).2;omega
theorem Two.put {T:TypeId} {w wr:World} {g n c:Nat} {op op':Value} {s t:MSt} (h:Two T w wr (.slice (some ⟨g,0,none⟩) n c) op s) (j:Nat) (u:Value) (h1:t.out.length=s.out.length) (h2:UM t.out=(UM s.out).set j u)
 (hop:op'.ownBlock=op.ownBlock) (hpo:wr.ownsRow 0 3 1 op' t.op.length (t.op.map natV)):Two T w (wr.setCell ⟨g,j,none⟩ u) (.slice (some ⟨g,0,none⟩) n c) op' t:=by
 have hn:n=s.out.length:=by
  rcases h.so.2 with ⟨h,_⟩|⟨g',cap',cur,he,_⟩
  ·cases h
  ·simp only[vI]at he;exact he.2.1
 subst hn;obtain⟨h3,_⟩:=h.so.stored j u;have hgn:=h.sn g rfl;exact⟨by rw[h1,h2];exact h3,ownsRow_setCell_other hpo (by rw[hop];exact hgn.2) u,fun g' hg'=>by rw[hop];exact h.sn g' hg',fun g' hg'=>h.pn g' (hop ▸ hg'),h.bel.setCell (by exact hgn.1) u⟩
theorem pair_any (w:World) (A:Option Addr) (m c:Nat) (ops:List Int) (hc:CodeAt w A m ops) (hm:m≤950000) :
 Calls Tryz.prog 106 #[.slice A m c] w (PairPost ops m w):=by
 have HC:=hD hc;clear hc;go_enter Tryz.func106,Tryz.ntmps106;go_wp2_with fail
 go_loopw [2,3,5,11] (fun sp dp op i wr=>∃ (k:Nat) (s:MSt),k≤m∧i=.int .i64 (k:Int)∧Hid (V1 ops 0 k=some s)∧Hid (Two 220 w wr sp op s)∧dp=.int .i64 (s.deep:Int)∧Hid (s.deep≤k)) (fun _ _ _ i _=>m - (intOf i).toNat)
 case atStart=>exact⟨0,⟨[],[],0⟩,nZ _,rfl,hD rfl,hD ⟨World.ownsRow_nil _ _ _ _,World.ownsRow_nil _ _ _ _,(fun g h=>by cases h),(fun g h=>by cases h),bR _ _⟩,rfl,hD (nR _)⟩
 case round =>
  obtain⟨k,s,hk,rfl,HR,HT,rfl,HDP⟩:=hrel;have HV:=hD (mrun_inv _ _ _ _ HR.out);obtain⟨As,cs,rfl⟩:=Wy HT.out.so;obtain⟨Ap,cp,rfl⟩:=Wy HT.out.po;have hol:s.op.length≤s.out.length:=HV.out.opl;have hsl:s.out.length≤k:=HV.out.outl;by_cases hlt:k<m
  case' neg =>
   obtain rfl:k=m:=by omega
   have hd0:decide ((k:Int)<(k:Int))=false:=by simp
   have HP:Hid (∀ wz,Two 220 w wz (.slice As s.out.length cs) (.slice Ap s.op.length cp) s→PairPost ops k w (.returned (.tuple #[.slice As s.out.length cs,.int .i64 (s.deep:Int),.bool (decide (s.op.length=0))])) wz):=fun wz hz=>by
    unfold PairPost;rw[HR.out];exact⟨_,rfl,hz.so,fun g hg=>(hz.sn g hg).1,hz.bel⟩
   have hbo:(((s.op.length:Nat):Int)==0)=decide (s.op.length=0):=by
    by_cases h0:s.op.length=0
    ·simp[h0]
    ·rw[show decide (s.op.length=0)=false from decide_eq_false h0];simpa using h0
   generalize decide (s.op.length=0)=bo at HP hbo;have HTW:=HT;generalize s.op.length=no at *;generalize s.out.length=ns at *;go_wp2
   go_ret3
   exact HP.out _ HTW.out
  have hd0:decide ((k:Int)<(m:Int))=true:=by simp;omega
  obtain⟨g,o,rfl,hg,hcell⟩:=(HC.out.below HT.out.bel) (by omega);obtain⟨u1,u2,u3,Al,nl,cl,k0,k1,k2,k3,k4⟩:=hcell k hlt;obtain⟨X,hX⟩:∃ X,ops.getD k 0=X:=⟨_,rfl⟩;rw[hX]at k0;have HX:=hD hX;clear hX hcell;have HSU:=hD (mrun_succ HR.out);have HT1:Hid (Two 220 w (wr.alloc (.cells #[.int .i64 X,.int .i64 u1,.int .i64 u2,.int .u64 u3,.slice Al nl cl] 25)) (.slice As s.out.length cs) (.slice Ap s.op.length cp) s):=hD (HT.out.alloc _);have b0:(wr.alloc (.cells #[.int .i64 X,.int .i64 u1,.int .i64 u2,.int .u64 u3,.slice Al nl cl] 25)).cell? ⟨wr.heap.size,0,none⟩=some (.int .i64 X):=wN wr _ _ 0;have HC1:Hid (CodeAt (wr.alloc (.cells #[.int .i64 X,.int .i64 u1,.int .i64 u2,.int .u64 u3,.slice Al nl cl] 25)) (some ⟨g,o,none⟩) m ops):=hD (HC.out.below (HT1.out.bel));have HOP:=hD (fun wz=>opens_any X wz);have HOX:=hD (show WF (ops.getD k 0)=WF X by rw[HX.out]);go_wp2_with fail
  go_at_call 116;refine(HOP.out _).mono ?_;rintro e w' ⟨rfl,rfl⟩;clear HOP k0 k1 k2 k3 k4;generalize wr.alloc (.cells #[.int .i64 X,.int .i64 u1,.int .i64 u2,.int .u64 u3,.slice Al nl cl] 25)=W1 at HT1 b0 HC1 ⊢;generalize hob:WF X=ob at HOX ⊢;have HOB:=hD hob;clear hob;cases ob
  case' true =>
   have HN:=hD (HSU.out.trans (mstep_open HOX.out));clear HSU b0 HT;go_wp2_with (at_builtin;first
    | (refine WE rfl (.tmp 23) (.tmp 26) 23 3 rfl _ 1 8 Tryz.underlying23 Tryz.infoInt rfl (by decide) (by decide) (.slice Ap s.op.length cp) s.op.length (s.op.map natV) (by rfl) ((HT1.out.alloc _).po) _ 1 [natV s.out.length] (by rfl) (by rfl) (Ua W1 _ _ 1 1) (by simp[natV,Value.oneCell']) (by omega) ?_;intro v1 wa ho1 hg1 ha1;obtain⟨q1,q2,q3,q4⟩:=(HT1.out.alloc _).pushP hg1 ha1;have Q1:=hD q1;have Q2:=hD q2;have Q3:=hD q3;have Q4:=hD q4;clear q1 q2 q3 q4;obtain⟨B1,c1,rfl⟩:=Wy ho1)
    | (refine WE rfl (.tmp 28) (.tmp 31) 136 220 rfl _ 3 24 Tryz.underlying136 Tryz.infoSpan rfl (by decide) (by decide) (.slice As s.out.length cs) s.out.length (UM s.out) (by rfl) (Q1.out.alloc _) _ 1 (spCells ((k:Int),-1,0)) (by rfl) (by rfl) (Ua wa _ _ 1 1) (by simp[spCells,Value.oneCell']) (by omega) ?_;intro v2 wb ho2 hg2 ha2;obtain⟨B2,c2,rfl⟩:=Wy ho2))
   go_roundw
   case rel =>
    refine⟨k+1,⟨s.out++[((k:Int),-1,0)],s.op++[s.out.length],max s.deep (s.op.length+1)⟩,by omega,by go_num,HN,hD (Two.pushS (ho1.alloc _) Q2.out Q3.out ((Wb Q4.out _)) ho2 hg2 ha2 _ (by simp) (flatS_snoc _ _) (by simp) (by simp)),?_,hD ?_⟩
    ·simp only[Value.int.injEq,true_and];by_cases hmx:s.deep<s.op.length+1
     ·first|(rw[if_pos (by omega),Nat.max_eq_right (by omega)];omega)|omega
     ·first|rw[if_neg (by omega),Nat.max_eq_left (by omega)]|omega
    ·have:=HDP.out;show max s.deep (s.op.length+1)≤_;omega
   case measure=>simp[intOf];omega
  have hX5:X=5∨X=11∨(X≠5∧X≠11):=by omega
  rcases hX5 with rfl|rfl|⟨hn5,hn11⟩
  case' inr.inr =>
   have HN:=hD (HSU.out.trans (mstep_other HOX.out (by rw[HX.out];exact hn5) (by rw[HX.out];exact hn11)));have d5:(X==5)=false:=by simpa using hn5
   have d11:(X==11)=false:=by simpa using hn11
   clear hn5 hn11;go_wp2;go_roundw
   case rel=>exact⟨k+1,s,by omega,by go_num,HN,HT1,rfl,hD (by have:=HDP.out;omega)⟩
   case measure=>simp[intOf];omega
  all_goals
   obtain⟨no,hno⟩:∃ no,s.op.length=no:=⟨_,rfl⟩;rw[hno]at HT1 hol ⊢;have HNO:=hD hno;clear hno HT;rcases Nat.eq_zero_or_pos no with h0|h0
   case' inl =>
    subst h0;have HN:Hid (V1 ops 0 (k+1)=none):=hD (HSU.out.trans (mstep_none ⟨by rw[HX.out];simp,List.eq_nil_of_length_eq_zero HNO.out⟩));go_wp2
    go_ret3
    exact pair_none HN.out (by omega) HT1.out.bel
   obtain⟨t,j,htj,htl⟩:=list_end (l:=s.op) (by rw[HNO.out];exact h0);obtain⟨tl,rfl⟩:∃ tl,no=tl+1:=⟨no - 1,by omega⟩;have htl2:t.length=tl:=by have:=HNO.out;omega
   have hjs:j<s.out.length:=HV.out.lt j (by rw[htj];simp);obtain⟨ha0,hak⟩:=HV.out.a0 j hjs;obtain⟨an,hne⟩:∃ an:Nat,(WR s.out j).1=(an:Int):=⟨(WR s.out j).1.toNat,by omega⟩;have ham:an<m:=by omega
   obtain⟨gp,cp,hpe⟩:∃ gp cp',Value.slice Ap (tl+1) cp=.slice (some ⟨gp,0,none⟩) (tl+1) cp':=by
    rcases HT1.out.po.2 with ⟨h,_⟩|⟨gp,cap,cur,h,_⟩
    ·cases h
    ·exact Zcw
   obtain⟨gs,cs',hse⟩:∃ gs cs',Value.slice As s.out.length cs=.slice (some ⟨gs,0,none⟩) s.out.length cs':=by
    rcases HT1.out.so.2 with ⟨h,h2⟩|⟨gp,cap,cur,h,_⟩
    ·simp only[vI]at h;omega
    ·exact Zcw
   simp only[vI]at hpe hse;obtain⟨rfl,-,rfl⟩:=hpe;obtain⟨rfl,-,rfl⟩:=hse;have HCL:Hid (∀ wz,Below W1.heap.size W1 wz→wz.cell? ⟨gp,tl,none⟩=some (.int .i64 (j:Int))∧wz.cell? ⟨gs,j * 3,none⟩=some (.int .i64 (an:Int))∧wz.cell? ⟨gs,j * 3+1,none⟩=some (.int .i64 (WR s.out j).2.1)∧wz.cell? ⟨gs,j * 3+2,none⟩=some (.int .i64 (WR s.out j).2.2)∧wz.frozen? ⟨gs,j * 3+1,none⟩=false∧wz.frozen? ⟨gs,j * 3+2,none⟩=false):=fun wz hz=>by
    have h2:=HT1.out.below hz;exact ZbD
   have HJS:=hD hjs;have HTJ:=hD htj;have HTL:=hD htl2;have HNE:=hD hne;clear htj htl htl2 hne h0 ha0 hak;obtain⟨kp,ka,ke,kz,kf,kg⟩:=HCL.out W1 (bR _ _);obtain⟨ev,hev⟩:∃ ev,(WR s.out j).2.1=ev:=⟨_,rfl⟩;obtain⟨zv,hzv⟩:∃ zv,(WR s.out j).2.2=zv:=⟨_,rfl⟩;rw[hev]at ke;rw[hzv]at kz;have HEV:=hD hev;have HZV:=hD hzv;clear hev hzv
  case' false.inl.inr =>
   have HDV:=hD (divides_any W1 (some ⟨g,o,none⟩) m c ops HC1.out an ham (by omega) ev zv);obtain⟨db,hdb⟩:∃ db,decide (ops.getD an 0=4∧ev = -1)=db:=⟨_,rfl⟩;rw[hdb]at HDV;have HDB:Hid (decide (ops.getD (WR s.out j).1.toNat 0=4∧(WR s.out j).2.1 = -1)=db):=by rw[Hid,HNE.out,HEV.out,Int.toNat_natCast];exact hdb
   clear hdb kf kg;go_wp2_with fail
   go_at_call 150;refine HDV.out.mono ?_;rintro e w2 ⟨rfl,hb2⟩;obtain⟨kp2,_,_,_,kf2,_⟩:=HCL.out w2 hb2;have HT2:=hD (HT1.out.below hb2);have b2:w2.cell? ⟨wr.heap.size,0,none⟩=some (.int .i64 5):=(hb2.cell (p:=⟨wr.heap.size,0,none⟩) (wL _ _ b0)).trans b0;clear HDV hb2 kp ka ke kz b0;cases db
   case' false =>
    have HN:=hD (HSU.out.trans (mstep_bad HX.out HTJ.out HDB.out));go_wp2
    go_ret3
    exact pair_none HN.out (by omega) HT2.out.bel
   have HN:=hD (HSU.out.trans (mstep_else HX.out HTJ.out HDB.out));have HPO:=hD (HT2.out.po);go_wp2;go_roundw
   case rel =>
    refine⟨k+1,_,by omega,by go_num,HN,hD (HT2.out.put (j * 3+1) (.int .i64 (k:Int)) (by simp) (flatS_set s.out j (k:Int) 0 HJS.out).1 rfl HPO.out),rfl,hD (by have:=HDP.out;show s.deep≤_;omega)⟩
   case measure=>simp[intOf];omega
  have HN:=hD (HSU.out.trans (mstep_end HX.out HTJ.out));have HPO:Hid (W1.ownsRow 0 3 1 (.slice (some ⟨gp,0,none⟩) tl cp) t.length (t.map natV)):=by
   have h1:=HT1.out.po;exact Zco
  have htc:tl≤cp:=by
   rcases HT1.out.po.2 with ⟨h,_⟩|⟨gp',cap,cur,h,_,_,h3,_⟩
   ·cases h
   ·simp only[vI]at h;obtain⟨_,_,rfl⟩:=h;rw[HNO.out]at h3;omega
  clear kf;go_wp2;go_roundw
  case rel =>
   refine⟨k+1,_,by omega,by go_num,HN,hD (HT1.out.put (j * 3+2) (.int .i64 (k:Int)) (by simp) (flatS_set s.out j 0 (k:Int) HJS.out).2 rfl HPO.out),rfl,hD (by have:=HDP.out;show s.deep≤_;omega)⟩
  case measure=>simp[intOf];omega
end
section
open Go.RowKit
set_option maxHeartbeats 4000000
set_option maxRecDepth 100000
theorem Zl {P:Prop}(h:P:=by
 refine Wm.om 16 22 rfl fun K hK=>?_;refine Um rfl (.tmp 12) (.tmp 21) 118 122 rfl _ 5 72 Tryz.underlying118 Tryz.infoFrameD rfl (by decide) (by decide) (.slice A3 k c3) k (VV x.f) (by rfl) hown5 _ 1 [.int .i64 op,.slice Ap ps.length cp,.slice Ar rs.length cr,.int .i64 (n:Int),.bool false] (by rfl) (by rfl) hnews hone (by omega) ?_;intro v4 w4 ho4 hg4 hat4;have hb4:Below W.heap.size W w4:=hb5.grown hg4 hb5.size hn3;have hn4:∀ g,v4.ownBlock=some g→W.heap.size≤g:=fun g hg=>by
  rcases hat4 with h|h
  ·exact hn3 g (h ▸ hg)
  ·have h:=h.symm.trans hg;simp only[Option.some.injEq]at h;have:=hb5.size;omega
 obtain⟨A4,c4,rfl⟩:=Wy ho4;refine hK.out _ _ (.inr hb4) ?_;clear hK K;try simp only[Act.put,sA,List.set]
 refine Wm.om 17 23 rfl fun K hK=>?_;go_simp;refine hK.out _ _ (.inr hb4) ?_;clear hK K;try simp only[sA,List.set]
 refine Wm.tk 18 24 rfl hb4 ?_;refine Wm.on 19 rfl fun K hK=>?_;obtain⟨a0,a1,b0,b1⟩:=HE.out w4 hb4;have f1:=HZ.out w4 hb4;go_simp;refine hK.out _ _ (.inl rfl) ?_;clear hK K;refine Wm.done (by kernel_rfl) ?_ _;have hst:=HG1.out.1.setF (W:=W) (w:=w4) (.below hb4 fun k hk=>hk.1) (.slice A4 (k+1) c4) (x.f++[⟨op,.slice Ap ps.length cp,.slice Ar rs.length cr,ps,rs,n,false⟩]) (by
  rw[HF.out.2.2,List.length_append,flatF_snoc,HK.out];exact ho4) (.inr hn4) (fun a ha=>by
  rcases List.mem_append.1 ha with h1|h1
  ·exact .inl h1
  ·obtain rfl:=List.mem_singleton.1 h1;exact .inr ⟨HPW.out,HRW.out⟩)
 rw[Wx.ref_f HF.out]at hst;have HST:=hD hst;have c0:=(hst.2.keeps.cell (p:=⟨w.heap.size,0,none⟩) ⟨HLB2.out,HNP.out⟩).trans HB0.out;clear a0 a1 b0 b1 f1 hst hb4;generalize w4.setCell ⟨F.G,12,none⟩ (.slice A4 (k+1) c4)=w6 at HST c0 ⊢;have HGV:=hD (U4 HF.out HST.out.1 _ ps (HST.out.2.ints HPW.out) (by show x.s.length+_≤_;rw[HN.out];exact hb0));go_wp2_with (go_at_call 163;refine HGV.out.mono ?_;rintro e w5 ⟨rfl,x5,g5,s5,r5⟩;have HG5:=hD g5;have HS5:=hD s5;have HR5:=hD r5;clear g5 s5 r5)
 refine bodyPost_end (results_none rfl _ _ _) rfl ⟨rfl,x5,HG5.out,(HG1.out.2.trans HST.out.2).trans HS5.out,HR5.out.1,HR5.out.2⟩):P:=h
theorem ZF {P:Prop}(h:P:=by
 refine Wm.om 6 12 rfl fun K hK=>?_;refine Um rfl (.tmp 7) (.tmp 11) 118 122 rfl _ 5 72 Tryz.underlying118 Tryz.infoFrameD rfl (by decide) (by decide) (.slice (some ⟨R,0,none⟩) 0 0) 0 [] (by rfl) hown _ k (VV x.f) (by rfl) HFL.out (HNF.out _ hb) HOF.out (by omega) ?_;intro v3 w3 ho3 hg3 hat3;simp only[Nat.zero_add,List.nil_append]at ho3;have hb3:Below W.heap.size W w3:=hb.grown hg3 hb.size (fun g hg=>by have hg:some R=some g:=hg;simp only[Option.some.injEq]at hg;omega);have hn3:∀ g,v3.ownBlock=some g→W.heap.size≤g:=fun g hg=>by
  rcases hat3 with h|h
  ·have h:=h.symm.trans hg;have h:some R=some g:=h;simp only[Option.some.injEq]at h;omega
  ·have h:=h.symm.trans hg;simp only[Option.some.injEq]at h;have:=hb.size;omega
 obtain⟨A3,c3,rfl⟩:=Wy ho3;refine hK.out _ _ (.inr hb3) ?_;clear hK K;try simp only[Act.put,sA,List.set]
 have hnews:UZ w3 (.slice (some ⟨B,0,none⟩) 1 1) 1 [.int .i64 op,.slice Ap ps.length cp,.slice Ar rs.length cr,.int .i64 (n:Int),.bool false]:=hnw.keep fun a c he j u _ hc=>by
  simp only[vI,Option.some.injEq]at he;obtain⟨rfl,-⟩:=he;rw[add_lit0]at hc ⊢;exact(World.cell?_of_block (hg3.block B (wL _ _ hc) (fun e=>hBR (Option.some.inj e)))).trans hc
 have hown5:=ho3;have hb5:=hb3;exact Zl):P:=h
theorem Tryz.infoFrameD:(Tryz.prog.info? 122).map (fun i=>(i.zero,i.size,i.bytes))=some (some (.agg #[.int .i64 0,.slice none 0 0,.slice none 0 0,.int .i64 0,.bool false]),5,72):=by kernel_rfl
theorem flat_ones {l:List Fv} (h:∀ a ∈ l,(∃ A n c,a.pv=.slice A n c)∧∃ A n c,a.rv=.slice A n c):∀ u ∈ VV l,u.oneCell'=true:=by
 intro u hu;obtain⟨a,ha,hu⟩:=List.mem_flatMap.1 hu;obtain⟨⟨A,n,c,e1⟩,⟨A2,n2,c2,e2⟩⟩:=h a ha;unfold Fv.cells at hu;rw[e1,e2]at hu;simp only[List.mem_cons,List.not_mem_nil,or_false]at hu;rcases hu with rfl|rfl|rfl|rfl|rfl <;> rfl
theorem dopen_any {F:Wx} {w:World} {x:Ws} (hF:F.ref) (h:Wk F w x) (op:Int) (pv rv:Value) (ps rs:List Int) (hp:Wf (Wq F w x) w pv ps) (hr:Wf (Wq F w x) w rv rs) (hb0:x.s.length+ps.length≤1000000) (hf:x.f.length+1≤1000000) :
 Calls Tryz.prog 166 #[.pointer (some ⟨F.G,0,none⟩),.int .i64 op,.agg #[pv,rv]] w (WPost F w x (.tuple #[]) (fun x'=>x'.f=x.f++[⟨op,pv,rv,ps,rs,x.s.length,false⟩]∧x'.s=x.s++ps)):=by
 obtain⟨Ap,cp,rfl,_⟩:=hp.form;obtain⟨Ar,cr,rfl,_⟩:=hr.form;have hg1:=h.alloc (.cells #[.slice Ap ps.length cp,.slice Ar rs.length cr] 40);obtain⟨W,hW⟩:∃ W,W=w.alloc (.cells #[.slice Ap ps.length cp,.slice Ar rs.length cr] 40):=⟨_,rfl⟩;have hB:∀ j:Nat,W.cell? ⟨w.heap.size,j,none⟩=#[.slice Ap ps.length cp,.slice Ar rs.length cr][j]?:=fun j=>by rw[hW,wN]
 rw[← hW]at hg1;have b0:=hB 0;have b1:=hB 1;simp only[List.getElem?_toArray,List.getElem?_cons_zero,List.getElem?_cons_succ]at b0 b1;have HPW:=hD (hg1.2.ints hp);have HRW:=hD (hg1.2.ints hr);have a0:=hg1.1.d11 hF;have a1:=hg1.1.d12 hF;obtain⟨A,c,hsv,s1,s2⟩:=hg1.1.sform;obtain⟨Af,cf,hfv⟩:=Wy hg1.1.fo;have HNF:Hid (∀ w',Below W.heap.size W w'→UZ w' x.fv x.f.length (VV x.f)):=hD fun w' hb=>owns_news (W8 hg1.1.fo hb);have HFL:Hid ((VV x.f).length=x.f.length * 5):=hD (flatF_length _);have HOF:Hid (∀ u ∈ VV x.f,u.oneCell'=true):=hD (flat_ones fun a ha=>by
  obtain⟨A1,c1,e1,_⟩:=(hg1.1.reads.fr a ha).1.form;obtain⟨A2,c2,e2,_⟩:=(hg1.1.reads.fr a ha).2.form;exact⟨⟨A1,_,c1,e1⟩,⟨A2,_,c2,e2⟩⟩)
 rw[hsv]at a0;rw[hfv]at a1 HNF;have HLB:Hid (w.heap.size<W.heap.size):=hD (wL W _ b0);have HE:Hid (∀ w',Below W.heap.size W w'→w'.cell? ⟨F.G,11,none⟩=some (.slice A x.s.length c)∧w'.cell? ⟨F.G,12,none⟩=some (.slice Af x.f.length cf)∧w'.cell? ⟨w.heap.size,0,none⟩=some (.slice Ap ps.length cp)∧w'.cell? ⟨w.heap.size,1,none⟩=some (.slice Ar rs.length cr)) :=
  hD fun w' hk=>⟨(hk.cell (p:=⟨F.G,11,none⟩) (wL W _ a0)).trans a0,(hk.cell (p:=⟨F.G,12,none⟩) (wL W _ a1)).trans a1,(hk.cell (p:=⟨w.heap.size,0,none⟩) HLB.out).trans b0,(hk.cell (p:=⟨w.heap.size,1,none⟩) HLB.out).trans b1⟩
 have HZ:Hid (∀ w',Below W.heap.size W w'→w'.frozen? ⟨F.G,12,none⟩=false):=hD fun w' hk=>(hg1.1.below hk).1.frozen 12;have HG1:=hD hg1;have HW:=hD hW;have HF:=hD hF;have HNP:=hD (h.new_free (nR _));have HB0:=hD b0;have HLB2:=hD HLB.out;clear hg1 hB b0 b1 a0 a1 hsv hfv hp hr h hF hW HLB;obtain⟨n,hn⟩:∃ n,x.s.length=n:=⟨_,rfl⟩;obtain⟨k,hk⟩:∃ k,x.f.length=k:=⟨_,rfl⟩;have HN:=hD hn;have HK:=hD hk;rw[hn]at HE hb0 s1 ⊢;rw[hk]at HE HNF HFL hf;clear hn hk;have hone:∀ u ∈ ([.int .i64 op,.slice Ap ps.length cp,.slice Ar rs.length cr,.int .i64 (n:Int),.bool false]:List Value),u.oneCell'=true:=by
  exact Zda
 go_enter Tryz.func166,Tryz.ntmps166;go_wp2_with fail
 rw[← HW.out];refine Wm.start (S:=fun wz=>Below W.heap.size W wz) (X:=19) (by kernel_rfl) ?_;show Wm _ _ _ _ _ _ 20 #[false,false,false,false,false,false,false,false,false,false,false,false,false,false,false,false,false,false,false,false] _ _;have hS:Below W.heap.size W W.drew:=(bR _ _).drew;generalize W.drew=w1 at hS ⊢;refine Wm.tk 0 6 rfl hS ?_;refine Wm.tk 2 8 rfl hS ?_;refine Wm.tk 3 9 rfl hS ?_;refine Wm.tk 4 10 rfl hS ?_;refine Wm.tk 5 11 rfl hS ?_ (hy:=by intro w' hSw;obtain⟨a0,a1,b0,b1⟩:=HE.out w' hSw;go_simp;try with_reducible rfl);refine Wm.tk 7 13 rfl hS ?_;refine Wm.tk 8 14 rfl hS ?_ (hy:=by intro w' hSw;obtain⟨a0,a1,b0,b1⟩:=HE.out w' hSw;go_simp;try with_reducible rfl);refine Wm.tk 9 15 rfl hS ?_;refine Wm.tk 10 16 rfl hS ?_;refine Wm.tk 11 17 rfl hS ?_;refine Wm.tk 12 18 rfl hS ?_ (hy:=by intro w' hSw;obtain⟨a0,a1,b0,b1⟩:=HE.out w' hSw;go_simp;try with_reducible rfl);refine Wm.tk 13 19 rfl hS ?_;refine Wm.tk 14 20 rfl hS ?_;refine Wm.two (i:=1) (j:=15) (by kernel_rfl) ?_ ?_
 ·skip
  refine Comes.m 7 rfl fun K hK=>?_;go_simp;refine hK.out _ _ (.inr (hS.alloc hS.size _)) ?_;clear hK K;try simp only[sA,List.set]
  refine Wm.two (i:=6) (j:=15) (by kernel_rfl) ?_ ?_
  ·skip
   obtain⟨R,hR⟩:∃ R,w1.heap.size=R:=⟨_,rfl⟩;have hown:=World.ownsRow_made w1 #[] (e:=122) (size:=5) 0 (base:=0) (nZ _) (nZ _) rfl;have hb:=hS.alloc hS.size (.cells #[] 122);have hRW:W.heap.size≤R:=by rw[← hR];exact hS.size
   rw[hR]at hown ⊢;generalize w1.alloc (.cells #[] 122)=w2 at hown hb ⊢;refine Comes.m 12 rfl fun K hK=>?_;refine Um rfl (.tmp 7) (.tmp 11) 118 122 rfl _ 5 72 Tryz.underlying118 Tryz.infoFrameD rfl (by decide) (by decide) (.slice (some ⟨R,0,none⟩) 0 0) 0 [] (by rfl) hown _ k (VV x.f) (by rfl) HFL.out (HNF.out _ hb) HOF.out (by omega) ?_;intro v3 w3 ho3 hg3 hat3;simp only[Nat.zero_add,List.nil_append]at ho3;have hb3:Below W.heap.size W w3:=hb.grown hg3 hb.size (fun g hg=>by have hg:some R=some g:=hg;simp only[Option.some.injEq]at hg;omega);have hn3:∀ g,v3.ownBlock=some g→W.heap.size≤g:=fun g hg=>by
    rcases hat3 with h|h
    ·have h:=h.symm.trans hg;have h:some R=some g:=h;simp only[Option.some.injEq]at h;omega
    ·have h:=h.symm.trans hg;simp only[Option.some.injEq]at h;have:=hb.size;omega
   obtain⟨A3,c3,rfl⟩:=Wy ho3;refine hK.out _ _ (.inr hb3) ?_;clear hK K;try simp only[Act.put,sA,List.set]
   refine Wm.om 15 21 rfl fun K hK=>?_;go_simp;refine hK.out _ _ (.inr (hb3.alloc hb3.size _)) ?_;clear hK K;try simp only[sA,List.set]
   have hnews:=Ua w3 #[.int .i64 op,.slice Ap ps.length cp,.slice Ar rs.length cr,.int .i64 (n:Int),.bool false] 122 1 1;have hown5:=W8 ho3 (Wb (bR _ _) (.cells #[.int .i64 op,.slice Ap ps.length cp,.slice Ar rs.length cr,.int .i64 (n:Int),.bool false] 122));have hb5:=hb3.alloc hb3.size (.cells #[.int .i64 op,.slice Ap ps.length cp,.slice Ar rs.length cr,.int .i64 (n:Int),.bool false] 122);generalize w3.alloc (.cells #[.int .i64 op,.slice Ap ps.length cp,.slice Ar rs.length cr,.int .i64 (n:Int),.bool false] 122)=w5 at hnews hown5 hb5 ⊢;exact Zl
  ·skip
   refine Comes.m 21 rfl fun K hK=>?_;go_simp;refine hK.out _ _ (.inr ((hS.alloc hS.size _).alloc (by rw[Wj];have:=hS.size;omega) _)) ?_;clear hK K;try simp only[sA,List.set]
   have hown:=W8 (World.ownsRow_made w1 #[] (e:=122) (size:=5) 0 (base:=0) (nZ _) (nZ _) rfl) (Wb (bR _ _) (.cells #[.int .i64 op,.slice Ap ps.length cp,.slice Ar rs.length cr,.int .i64 (n:Int),.bool false] 122));have hnw:=Ua (w1.alloc (.cells #[] 122)) #[.int .i64 op,.slice Ap ps.length cp,.slice Ar rs.length cr,.int .i64 (n:Int),.bool false] 122 1 1;have hb:Below W.heap.size W ((w1.alloc (.cells #[] 122)).alloc (.cells #[.int .i64 op,.slice Ap ps.length cp,.slice Ar rs.length cr,.int .i64 (n:Int),.bool false] 122)):=(hS.alloc hS.size _).alloc (by rw[Wj];have:=hS.size;omega) _;have hRW:W.heap.size≤w1.heap.size:=hS.size;obtain⟨B,hB⟩:∃ B,w1.heap.size+1=B:=⟨_,rfl⟩;have hBR:B≠w1.heap.size:=by omega
   have hnw:UZ ((w1.alloc (.cells #[] 122)).alloc (.cells #[.int .i64 op,.slice Ap ps.length cp,.slice Ar rs.length cr,.int .i64 (n:Int),.bool false] 122)) (.slice (some ⟨B,0,none⟩) 1 1) 1 #[.int .i64 op,.slice Ap ps.length cp,.slice Ar rs.length cr,.int .i64 (n:Int),.bool false].toList:=by rw[← hB,← Wj w1 (.cells #[] 122)];exact hnw
   rw[hB];clear hB;generalize (w1.alloc (.cells #[] 122)).alloc (.cells #[.int .i64 op,.slice Ap ps.length cp,.slice Ar rs.length cr,.int .i64 (n:Int),.bool false] 122)=w2 at hown hnw hb ⊢;generalize w1.heap.size=R at hown hBR hRW ⊢;exact ZF
 ·skip
  refine Comes.m 21 rfl fun K hK=>?_;go_simp;refine hK.out _ _ (.inr (hS.alloc hS.size _)) ?_;clear hK K;try simp only[sA,List.set]
  refine Wm.om 1 7 rfl fun K hK=>?_;go_simp;refine hK.out _ _ (.inr ((hS.alloc hS.size _).alloc (by rw[Wj];have:=hS.size;omega) _)) ?_;clear hK K;try simp only[sA,List.set]
  have hown:=World.ownsRow_made (w1.alloc (.cells #[.int .i64 op,.slice Ap ps.length cp,.slice Ar rs.length cr,.int .i64 (n:Int),.bool false] 122)) #[] (e:=122) (size:=5) 0 (base:=0) (nZ _) (nZ _) rfl;have hnw:=UZ.keep (Ua w1 #[.int .i64 op,.slice Ap ps.length cp,.slice Ar rs.length cr,.int .i64 (n:Int),.bool false] 122 1 1) (w':=(w1.alloc (.cells #[.int .i64 op,.slice Ap ps.length cp,.slice Ar rs.length cr,.int .i64 (n:Int),.bool false] 122)).alloc (.cells #[] 122)) fun a c _ j u _ hc=>((Wb (bR _ _) _).cell (wL _ _ hc)).trans hc;have hb:Below W.heap.size W ((w1.alloc (.cells #[.int .i64 op,.slice Ap ps.length cp,.slice Ar rs.length cr,.int .i64 (n:Int),.bool false] 122)).alloc (.cells #[] 122)):=(hS.alloc hS.size _).alloc (by rw[Wj];have:=hS.size;omega) _;obtain⟨R,hR⟩:∃ R,w1.heap.size+1=R:=⟨_,rfl⟩;have hBR:w1.heap.size≠R:=by omega
  have hRW:W.heap.size≤R:=by have:=hS.size;omega
  rw[show(w1.alloc (.cells #[.int .i64 op,.slice Ap ps.length cp,.slice Ar rs.length cr,.int .i64 (n:Int),.bool false] 122)).heap.size=R by rw[Wj,hR]]at hown;rw[hR];clear hR;generalize (w1.alloc (.cells #[.int .i64 op,.slice Ap ps.length cp,.slice Ar rs.length cr,.int .i64 (n:Int),.bool false] 122)).alloc (.cells #[] 122)=w2 at hown hnw hb ⊢;generalize w1.heap.size=B at hnw hBR ⊢;exact ZF
end
section
open Go.RowKit
set_option maxHeartbeats 1000000
set_option maxRecDepth 100000
def SpIn (w:World) (v:Value) (l:List Sp):Prop :=
 ∃ A c,v=.slice A l.length c∧l.length≤950000∧(0<l.length→∃ g,A=some ⟨g,0,none⟩∧g<w.heap.size∧∀ j,j<l.length→w.cell? ⟨g,j * 3,none⟩=some (.int .i64 (WR l j).1)∧w.cell? ⟨g,j * 3+1,none⟩=some (.int .i64 (WR l j).2.1)∧w.cell? ⟨g,j * 3+2,none⟩=some (.int .i64 (WR l j).2.2))
theorem SpIn.below {w w':World} {v:Value} {l:List Sp} (h:SpIn w v l) (hb:Below w.heap.size w w'):SpIn w' v l:=by
 obtain⟨A,c,rfl,h1,h2⟩:=h;refine⟨A,c,rfl,h1,fun h0=>?_⟩;obtain⟨g,rfl,hg,hc⟩:=h2 h0;refine⟨g,rfl,Ve hg hb.size,fun j hj=>?_⟩;obtain⟨a,b,c⟩:=hc j hj;exact⟨(hb.cell (p:=⟨g,j * 3,none⟩) hg).trans a,(hb.cell (p:=⟨g,j * 3+1,none⟩) hg).trans b,(hb.cell (p:=⟨g,j * 3+2,none⟩) hg).trans c⟩
theorem SpIn.nil (w:World):SpIn w (.slice none 0 0) []:=⟨none,0,rfl,nZ _,fun h=>by simp at h⟩
theorem SpIn.owned {T:TypeId} {w:World} {v:Value} {l:List Sp} (h:w.ownsRow 0 T 3 v l.length (UM l)) (hl:l.length≤950000):SpIn w v l:=by
 rcases h.2 with ⟨rfl,h0⟩|⟨g,cap,cur,rfl,_⟩
 ·obtain rfl:=List.eq_nil_of_length_eq_zero h0;exact .nil w
 ·refine⟨_,cap,rfl,hl,fun _=>⟨g,rfl,(h.lt g rfl).2,fun j hj=>?_⟩⟩;obtain⟨f1,f2,f3⟩:=flatS_at l j hj;exact⟨by rw[h.cellAt _ (by omega),f1],by rw[h.cellAt _ (by omega),f2],by rw[h.cellAt _ (by omega),f3]⟩
def OfPost (ops:List Int) (w:World) (e:Ending) (w':World):Prop :=
 ∃ v,e=.returned (.tuple #[v,.int .i64 (VY ops).2])∧SpIn w' v (VY ops).1∧Below w.heap.size w w'
theorem of_bad {ops:List Int} {n:Int} {w w':World} (h:VY ops=([],n)) (hb:Below w.heap.size w w'):OfPost ops w (.returned (.tuple #[.slice none 0 0,.int .i64 n])) w' :=
 ⟨_,by rw[h],by rw[h];exact .nil _,hb⟩
theorem of_any (w:World) (A:Option Addr) (n c:Nat) (ops:List Int) (hc:CodeAt w A n ops) (hn:ops.length=n) (hm:n≤950000) (hcn:n≤c) :
 Calls Tryz.prog 71 #[.slice A n c] w (OfPost ops w):=by
 rcases Nat.eq_zero_or_pos n with h0|h0
 ·subst h0;have hp:VY ops=([],12):=by unfold VY;rw[if_pos (.inl hn)]
  clear hc hn;have HP:=hD hp;clear hp;go_enter Tryz.func71,Tryz.ntmps71;go_wp2
  go_ret2
  exact of_bad HP.out (.refl _ _)
 ·obtain⟨l,rfl⟩:∃ l,n=l+1:=⟨n - 1,by omega⟩;have hcl:=hc.less (Nat.le_succ l);obtain⟨g,o,rfl,hg,hcell⟩:=hc h0;obtain⟨_,_,_,_,_,_,k0,_⟩:=hcell l (Nat.lt_succ_self l);have HN:=hD hn;have HCL:=hD hcl;clear hc hcell hcl hn;obtain⟨X,hX⟩:∃ X,ops.getD l 0=X:=⟨_,rfl⟩;rw[hX]at k0;have HX:=hD hX;clear hX;by_cases h11:X=11
  case' neg =>
   have hd:(X==11)=false:=by simpa using h11
   have hd2:(X != 11)=true:=by simpa using h11
   have HP:Hid (VY ops=([],12)):=by
    unfold Hid VY;rw[if_pos (.inr (by rw[HN.out,Nat.add_sub_cancel,HX.out];exact h11))]
   clear h11;go_enter Tryz.func71,Tryz.ntmps71;go_wp2
   go_ret2
   exact of_bad HP.out (.refl _ _)
  subst h11;have HPA:=hD (pair_any w (some ⟨g,o,none⟩) l c ops HCL.out (by omega));have HM:Hid (VY ops=match V1 ops 0 l with|none=>(([]:List Sp),(12:Int))|some s=>if s.op≠[] then ([],12) else if 64<s.deep then ([],26) else (s.out,0)):=by
   unfold Hid VY;rw[if_neg (by rw[HN.out,Nat.add_sub_cancel,HX.out];simp),HN.out,Nat.add_sub_cancel];cases V1 ops 0 l <;> rfl
  go_enter Tryz.func71,Tryz.ntmps71;have hlc:l≤c:=by omega
  go_wp2_with fail
  go_at_call 106;refine HPA.out.mono ?_;intro e w' hp;unfold PairPost at hp;cases hr:V1 ops 0 l with
  | none =>
   rw[hr]at hp;have hm2:=HM.out;rw[hr]at hm2;have HM2:=hD hm2;obtain⟨rfl,hb⟩:=hp;clear hr hm2 HM HPA;go_wp2
   go_ret2
   exact of_bad HM2.out hb
  | some s =>
   rw[hr]at hp;have hm2:=HM.out;rw[hr]at hm2;have hv:=mrun_inv _ _ _ _ hr;have hsl:s.out.length≤950000:=by have:=hv.outl;omega
   obtain⟨v,rfl,ho,hnew,hb⟩:=hp;obtain⟨Av,cv,rfl⟩:=Wy ho;have HO:=hD (SpIn.owned ho hsl);clear hr HM HPA hnew ho hv;simp only at hm2;by_cases h1:s.op.length=0
   ·have h2:s.op=[]:=List.eq_nil_of_length_eq_zero h1;rw[if_neg (by simp[h2])]at hm2;have hd1:decide (s.op.length=0)=true:=by simp[h1]
    rw[hd1];clear h1 h2 hd1;by_cases h3:64<s.deep
    ·rw[if_pos h3]at hm2;have hd3:decide ((64:Int)<(s.deep:Int))=true:=by simp;omega
     have HM2:=hD hm2;clear hm2 h3;go_wp2
     go_ret2
     exact of_bad HM2.out hb
    ·rw[if_neg h3]at hm2;have hd3:decide ((64:Int)<(s.deep:Int))=false:=by simp;omega
     have HM2:=hD hm2;clear hm2 h3;go_wp2
     go_ret2
     exact⟨.slice Av s.out.length cv,by rw[HM2.out];rfl,by rw[HM2.out];exact HO.out,hb⟩
   ·have h2:s.op≠[]:=fun e=>h1 (by rw[e];rfl);rw[if_pos h2]at hm2;have hd1:decide (s.op.length=0)=false:=decide_eq_false h1;rw[hd1];have HM2:=hD hm2;clear h1 h2 hd1 hm2;go_wp2
    go_ret2
    exact of_bad HM2.out hb
end
end Go.Proofs.YtmfpnfdinoofpaaGreatDoor
