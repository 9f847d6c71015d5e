/- A part of the proof. -/
import Derived.Test.YtmfpnfdinoofpaaGreatDoorJ28
namespace Go.Proofs.YtmfpnfdinoofpaaGreatDoor
section
open Go.RowKit
set_option maxHeartbeats 2000000
set_option maxRecDepth 100000
theorem ZcN {P:Prop}(h:P:=by
 go_wp2
 go_ret2
 exact of_bad HM.out HT.out.bel):P:=h
theorem Tryz.infoRSpan:(Tryz.prog.info? 189).map (fun i=>(i.zero,i.size,i.bytes))=some (some (.agg #[.int .i64 0,.int .i64 0,.int .i64 0]),3,24):=by kernel_rfl
theorem matchP_fell {ops:List Int} {n k:Nat} (hn:ops.length=n) (hk:k<n) (h:V1 ops (-1) (k+1)=none) (hx:ops.getD k 0≠11∨k+1<n):VY ops=([],12):=by
 rw[matchP_any ops (-1),hn];by_cases h1:k+1<n
 ·rw[mrun_none h (n - 1) (by omega)]
  split <;> rfl
 ·rw[if_pos (.inr (by rw[show n - 1=k by omega];rcases hx with hx|hx;exact hx;omega))]
theorem matchP_open {ops:List Int} {n:Nat} {s:MSt} (hn:ops.length=n) (h:V1 ops (-1) n=some s):VY ops=([],12):=by
 rw[matchP_any ops (-1),hn];rcases Nat.eq_zero_or_pos n with rfl|h0
 ·rw[if_pos (.inl rfl)]
 ·obtain⟨l,rfl⟩:∃ l,n=l+1:=⟨n - 1,by omega⟩;rw[Nat.add_sub_cancel];have h':(V1 ops (-1) l).bind (V3 ops (-1) l)=some s:=h;by_cases h11:ops.getD l 0=11
  ·rw[if_neg (by rw[h11];simp)];cases hr:V1 ops (-1) l with
   | none=>rfl
   | some t =>
    rw[hr]at h';have h2:V3 ops (-1) l t=some s:=h';simp only;rw[if_pos fun e=>by rw[mstep_none ⟨.inr h11,e⟩]at h2;cases h2]
  ·rw[if_pos (.inr h11)]
theorem matchP_done {ops:List Int} {l:Nat} {s:MSt} (hn:ops.length=l+1) (h11:ops.getD l 0=11) (h:V1 ops (-1) l=some s) (h0:s.op.length=0):VY ops=if 64<s.deep then ([],26) else (s.out,0):=by
 rw[matchP_any ops (-1),hn,Nat.add_sub_cancel,if_neg (by rw[h11];simp),h];simp only;rw[if_neg (by simp[List.eq_nil_of_length_eq_zero h0])]
theorem rof_any (w:World) (A:Option Addr) (n c:Nat) (ops:List Int) (hc:CodeAt w A n ops) (hn:ops.length=n) (hm:n≤950000) :
 Calls Tryz.prog 76 #[.slice A n c] w (OfPost ops w):=by
 have HC:=hD hc;have HN:=hD hn;clear hc hn;go_enter Tryz.func76,Tryz.ntmps76;go_wp2_with fail
 go_loopw [4,5,6,7] (fun sp op dp i wr=>∃ (k:Nat) (s:MSt) (db:Bool),k≤n∧i=.int .i64 (k:Int)∧Hid (V1 ops (-1) k=some s)∧Hid (Two 189 w wr sp op s)∧dp=.bool db∧Hid (db=decide (64<s.deep))) (fun _ _ _ i _=>n - (intOf i).toNat)
 case atStart=>exact⟨0,⟨[],[],0⟩,false,nZ _,rfl,hD rfl,hD ⟨World.ownsRow_nil _ _ _ _,World.ownsRow_nil _ _ _ _,(fun g h=>by cases h),(fun g h=>by cases h),bR _ _⟩,rfl,hD rfl⟩
 case round =>
  obtain⟨k,s,db,hk,rfl,HR,HT,rfl,HDP⟩:=hrel;have HV:=hD (mrun_inv _ _ _ _ HR.out);obtain⟨As,cs,rfl⟩:=Wy HT.out.so;obtain⟨Ap,cp,rfl⟩:=Wy HT.out.po;have hol:s.op.length≤s.out.length:=HV.out.opl;have hsl:s.out.length≤k:=HV.out.outl;by_cases hlt:k<n
  case' neg =>
   obtain rfl:k=n:=by omega
   have hd0:decide ((k:Int)<(k:Int))=false:=by simp
   have HM:=hD (matchP_open HN.out HR.out);exact ZcN
  have hd0:decide ((k:Int)<(n:Int))=true:=by simp;omega
  obtain⟨g,o,rfl,hg,hcell⟩:=(HC.out.below HT.out.bel) (by omega);obtain⟨_,_,_,_,_,_,k0,_⟩:=hcell k hlt;obtain⟨X,hX⟩:∃ X,ops.getD k 0=X:=⟨_,rfl⟩;rw[hX]at k0;have HX:=hD hX;clear hX;have HSU:=hD (mrun_succ HR.out);have HOP:=hD (fun wz=>Wl X wz);have HOX:=hD (show WF (ops.getD k 0)=WF X by rw[HX.out]);have HCELL:=hD hcell;clear hcell;go_wp2_with fail
  go_at_call 87;refine(HOP.out _).mono ?_;rintro e w' ⟨rfl,rfl⟩;clear HOP k0;generalize hob:WF X=ob at HOX ⊢;have HOB:=hD hob;clear hob;cases ob
  case' true =>
   have HN2:=hD (HSU.out.trans (mstep_open HOX.out));clear HSU;have hdd:∀ b:Bool,b=db→(b || decide ((64:Int)<((s.op.length:Int)+1)))=decide (64<max s.deep (s.op.length+1)):=fun b hb=>by
    rw[hb,HDP.out];by_cases h1:64<s.deep
    ·rw[show decide (64<s.deep)=true from decide_eq_true h1,Bool.true_or];symm;exact decide_eq_true (by omega)
    ·rw[show decide (64<s.deep)=false from decide_eq_false h1,Bool.false_or];by_cases h2:64<s.op.length+1
     ·rw[decide_eq_true (by omega),decide_eq_true (by omega)]
     ·rw[decide_eq_false (by omega),decide_eq_false (by omega)]
   have HDD:=hD hdd;clear hdd;cases db
   all_goals
    go_wp2_with (at_builtin;first
     | (refine WE rfl (.tmp 24) (.tmp 27) 23 3 rfl _ 1 8 Tryz.underlying23 Tryz.infoInt rfl (by decide) (by decide) (.slice Ap s.op.length cp) s.op.length (s.op.map natV) (by rfl) ((HT.out.alloc _).po) _ 1 [natV s.out.length] (by rfl) (by rfl) (Ua wr _ _ 1 1) (by simp[natV,Value.oneCell']) (by omega) ?_;intro v1 wa ho1 hg1 ha1;obtain⟨q1,q2,q3,q4⟩:=(HT.out.alloc _).pushP hg1 ha1;have Q1:=hD q1;have Q2:=hD q2;have Q3:=hD q3;have Q4:=hD q4;clear q1 q2 q3 q4;obtain⟨B1,c1,rfl⟩:=Wy ho1)
     | (refine WE rfl (.tmp 29) (.tmp 32) 158 189 rfl _ 3 24 Tryz.underlying158 Tryz.infoRSpan rfl (by decide) (by decide) (.slice As s.out.length cs) s.out.length (UM s.out) (by rfl) (Q1.out.alloc _) _ 1 (spCells ((k:Int),-1,-1)) (by rfl) (by rfl) (Ua wa _ _ 1 1) (by simp[spCells,Value.oneCell']) (by omega) ?_;intro v2 wb ho2 hg2 ha2;obtain⟨B2,c2,rfl⟩:=Wy ho2))
    go_roundw
    case rel =>
     refine⟨k+1,⟨s.out++[((k:Int),-1,-1)],s.op++[s.out.length],max s.deep (s.op.length+1)⟩,_,by omega,by go_num,HN2,hD (Two.pushS (ho1.alloc _) Q2.out Q3.out ((Wb Q4.out _)) ho2 hg2 ha2 _ (by simp) (flatS_snoc _ _) (by simp) (by simp)),rfl,?_⟩;have:=HDD.out _ rfl;exact this
    case measure=>simp[intOf];omega
  have hX5:X=5∨X=11∨(X≠5∧X≠11):=by omega
  rcases hX5 with rfl|rfl|⟨hn5,hn11⟩
  case' inr.inr =>
   have HN2:=hD (HSU.out.trans (mstep_other HOX.out (by rw[HX.out];exact hn5) (by rw[HX.out];exact hn11)));have d5:(X==5)=false:=by simpa using hn5
   have d11:(X==11)=false:=by simpa using hn11
   clear hn5 hn11;go_wp2;go_roundw
   case rel=>exact⟨k+1,s,db,by omega,by go_num,HN2,HT,rfl,HDP⟩
   case measure=>simp[intOf];omega
  all_goals
   obtain⟨no,hno⟩:∃ no,s.op.length=no:=⟨_,rfl⟩;rw[hno]at HT hol ⊢;have HNO:=hD hno;clear hno;rcases Nat.eq_zero_or_pos no with h0|h0
  case' false.inl.inl =>
   subst h0;have HM:=hD (matchP_fell HN.out hlt (HSU.out.trans (mstep_none ⟨by rw[HX.out];simp,List.eq_nil_of_length_eq_zero HNO.out⟩)) (.inl (by rw[HX.out];simp)));exact ZcN
  case' false.inr.inl.inl =>
   subst h0;have HN0:Hid (V1 ops (-1) (k+1)=none):=hD (HSU.out.trans (mstep_none ⟨by rw[HX.out];simp,List.eq_nil_of_length_eq_zero HNO.out⟩));by_cases hkn:k+1<n
   ·have HM:=hD (matchP_fell HN.out hlt HN0.out (.inr hkn));have hd1:((k:Int) != (n:Int) - 1)=true:=by simp;omega
    exact ZcN
   ·have HM:=hD (matchP_done (l:=k) (by rw[HN.out];omega) HX.out HR.out HNO.out);obtain rfl:n=k+1:=by omega
    have HO:=hD (SpIn.owned HT.out.so (by omega));by_cases h64:64<s.deep
    ·have hm2:=HM.out;rw[if_pos h64]at hm2;obtain rfl:db=true:=by rw[HDP.out];exact decide_eq_true h64
     have HM2:=hD hm2;clear hm2 h64 HM HDP;go_wp2
     go_ret2
     exact of_bad HM2.out HT.out.bel
    ·have hm2:=HM.out;rw[if_neg h64]at hm2;obtain rfl:db=false:=by rw[HDP.out];exact decide_eq_false h64
     have HM2:=hD hm2;clear hm2 h64 HM HDP;go_wp2
     go_ret2
     exact⟨.slice As s.out.length cs,by rw[HM2.out];rfl,by rw[HM2.out];exact HO.out,HT.out.bel⟩
  all_goals
   obtain⟨t,j,htj,htl⟩:=list_end (l:=s.op) (by rw[HNO.out];exact h0);obtain⟨tl,rfl⟩:∃ tl,no=tl+1:=⟨no - 1,by omega⟩;have htl2:t.length=tl:=by have:=HNO.out;omega
   have hjs:j<s.out.length:=HV.out.lt j (by rw[htj];simp);obtain⟨ha0,hak⟩:=HV.out.a0 j hjs;obtain⟨an,hne⟩:∃ an:Nat,(WR s.out j).1=(an:Int):=⟨(WR s.out j).1.toNat,by omega⟩;have ham:an<n:=by omega
   obtain⟨gp,cp,hpe⟩:∃ gp cp',Value.slice Ap (tl+1) cp=.slice (some ⟨gp,0,none⟩) (tl+1) cp':=by
    rcases HT.out.po.2 with ⟨h,_⟩|⟨gp,cap,cur,h,_⟩
    ·cases h
    ·exact Zcw
   obtain⟨gs,cs',hse⟩:∃ gs cs',Value.slice As s.out.length cs=.slice (some ⟨gs,0,none⟩) s.out.length cs':=by
    rcases HT.out.so.2 with ⟨h,h2⟩|⟨gp,cap,cur,h,_⟩
    ·simp only[vI]at h;omega
    ·exact Zcw
   simp only[vI]at hpe hse;obtain⟨rfl,-,rfl⟩:=hpe;obtain⟨rfl,-,rfl⟩:=hse;have HCL:Hid (∀ wz,Below wr.heap.size wr wz→wz.cell? ⟨gp,tl,none⟩=some (.int .i64 (j:Int))∧wz.cell? ⟨gs,j * 3,none⟩=some (.int .i64 (an:Int))∧wz.cell? ⟨gs,j * 3+1,none⟩=some (.int .i64 (WR s.out j).2.1)∧wz.cell? ⟨gs,j * 3+2,none⟩=some (.int .i64 (WR s.out j).2.2)∧wz.frozen? ⟨gs,j * 3+1,none⟩=false∧wz.frozen? ⟨gs,j * 3+2,none⟩=false):=fun wz hz=>by
    have h2:=HT.out.below hz;exact ZbD
   have HJS:=hD hjs;have HTJ:=hD htj;have HTL:=hD htl2;have HNE:=hD hne;clear htj htl htl2 hne h0 ha0 hak;obtain⟨kp,ka,ke,kz,kf,kg⟩:=HCL.out wr (bR _ _);obtain⟨ev,hev⟩:∃ ev,(WR s.out j).2.1=ev:=⟨_,rfl⟩;obtain⟨zv,hzv⟩:∃ zv,(WR s.out j).2.2=zv:=⟨_,rfl⟩;rw[hev]at ke;rw[hzv]at kz;have HEV:=hD hev;have HZV:=hD hzv;clear hev hzv
  case' false.inl.inr =>
   obtain⟨_,_,_,_,_,_,kc,_⟩:=HCELL.out an ham;obtain⟨Y,hY⟩:∃ Y,ops.getD an 0=Y:=⟨_,rfl⟩;rw[hY]at kc;have HY:=hD hY;clear hY;have hee:=HV.out.ee j HJS.out;rw[HEV.out]at hee;have heven:ev = -1∨0≤ev:=by have:=HV.out.a0 j HJS.out;omega
   clear hee;have HDB:Hid ((ops.getD (WR s.out j).1.toNat 0=4∧(WR s.out j).2.1 = -1)=(Y=4∧ev = -1)):=by rw[Hid,HNE.out,HEV.out,Int.toNat_natCast,HY.out]
   clear kg kz;by_cases h4:Y=4∧ev = -1
   case' neg =>
    have HM:=hD (matchP_fell HN.out hlt (HSU.out.trans (mstep_bad HX.out HTJ.out (decide_eq_false (by rw[HDB.out];exact h4)))) (.inl (by rw[HX.out];simp)));by_cases h5:Y=4
    ·have d1:(Y != 4)=false:=by simpa using h5
     have d2:decide (0≤ev)=true:=by simp;omega
     clear h4 h5;exact ZcN
    ·have d1:(Y != 4)=true:=by simpa using h5
     clear h4 h5;exact ZcN
   have HN2:=hD (HSU.out.trans (mstep_else HX.out HTJ.out (decide_eq_true (by rw[HDB.out];exact h4))));have HPO:=hD (HT.out.po);obtain⟨rfl,rfl⟩:=h4;go_wp2;go_roundw
   case rel =>
    refine⟨k+1,_,db,by omega,by go_num,HN2,hD (HT.out.put (j * 3+1) (.int .i64 (k:Int)) (by simp) (flatS_set s.out j (k:Int) 0 HJS.out).1 rfl HPO.out),rfl,HDP⟩
   case measure=>simp[intOf];omega
  have HN2:=hD (HSU.out.trans (mstep_end HX.out HTJ.out));have HPO:Hid (wr.ownsRow 0 3 1 (.slice (some ⟨gp,0,none⟩) tl cp) t.length (t.map natV)):=by
   have h1:=HT.out.po;exact Zco
  have htc:tl≤cp:=by
   rcases HT.out.po.2 with ⟨h,_⟩|⟨gp',cap,cur,h,_,_,h3,_⟩
   ·cases h
   ·simp only[vI]at h;obtain⟨_,_,rfl⟩:=h;rw[HNO.out]at h3;omega
  clear kf;go_wp2;go_roundw
  case rel =>
   refine⟨k+1,_,db,by omega,by go_num,HN2,hD (HT.out.put (j * 3+2) (.int .i64 (k:Int)) (by simp) (flatS_set s.out j 0 (k:Int) HJS.out).2 rfl HPO.out),rfl,HDP⟩
  case measure=>simp[intOf];omega
end
section
open Go.RowKit
set_option maxHeartbeats 8000000
set_option maxRecDepth 100000
def DShutPost (F:Wx) (w:World) (x:Ws) (e:Ending) (w':World):Prop :=
 ∃ x',Wk F w' x'∧Wz F w x w' x'∧e=.returned (.tuple #[.agg x.top.cells.toArray,.bool (Uz x.pl).isSome])∧((Uz x.pl).isSome=true→x'.f=x.f.take (x.f.length - 1)∧x'.s.length≤x.s.length∧Uz x.pl=some (x.top.fr,x'.pl))
theorem dshut_none {x:Ws} (h:WC x.pl x.top.rs=none):Uz x.pl=none:=by
 unfold Uz;rw[Ws.pl_top,show x.top.fr.rs=x.top.rs from rfl,h];rfl
theorem dshut_far {x x4:Ws} (h:WC x.pl x.top.rs=some x4.pl) (hl:x4.s.length≠x.top.h):Uz x.pl=none:=by
 unfold Uz;rw[Ws.pl_top,show x.top.fr.rs=x.top.rs from rfl,h,Option.bind_some];exact if_neg hl
theorem dshut_at {x x4:Ws} (h:WC x.pl x.top.rs=some x4.pl) (hl:x4.s.length=x.top.h) (hf:x4.f=x.f) (v:Value):Uz x.pl=some (x.top.fr,Ws.pl { x4 with fv:=v,f:=x4.f.take (x.f.length - 1) }):=by
 unfold Uz;rw[Ws.pl_top,show x.top.fr.rs=x.top.rs from rfl,h,Option.bind_some];rw[if_pos (show x4.pl.s.length=x.top.fr.h from hl)];unfold Ws.pl;simp only[hf,List.length_map,List.map_take]
theorem dshut_any {F:Wx} {w:World} {x:Ws} (hF:F.ref) (h:Wk F w x) (h0:0<x.f.length) (hs:x.s.length≤1000000) (hrl:x.top.rs.length≤1000000) (hh:x.top.h≤x.s.length) :
 Calls Tryz.prog 167 #[.pointer (some ⟨F.G,0,none⟩)] w (DShutPost F w x):=by
 have hg1:=h.alloc (.cells #[.int .i64 0,.slice none 0 0,.slice none 0 0,.int .i64 0,.bool false] 122);obtain⟨W,hW⟩:∃ W,W=w.alloc (.cells #[.int .i64 0,.slice none 0 0,.slice none 0 0,.int .i64 0,.bool false] 122):=⟨_,rfl⟩;rw[← hW]at hg1;obtain⟨g,A,c,cf,hc,hsv,hfv⟩:=hg1.1.del hF h0;obtain⟨g',cf',he,_,_,_,_,t0,t1,t2,t3,t4⟩:=hg1.1.tcell h0;rw[hfv]at he;simp only[vI,Option.some.injEq,Addr.mk.injEq]at he;obtain⟨⟨rfl,-⟩,-,rfl⟩:=he;have hmem:x.top ∈ x.f:=by
  exact Z8
 have hrv:=(hg1.1.reads.fr _ hmem).2;have hpv:=(hg1.1.reads.fr _ hmem).1;obtain⟨Ar,cr,er,_⟩:=hrv.form;obtain⟨Ap,cp,ep,_⟩:=hpv.form;rw[er]at t2;rw[ep]at t1;have HC:=hD hc;have HSV:=hD hsv;have HFV:=hD hfv;have HG1:=hD hg1;have HG0:=hD h;have HW:=hD hW;have HF:=hD hF;have HRV:=hD hrv;have HER:=hD er;have HEP:=hD ep;have HNP:=hD (h.new_free (nR _));have HWS:Hid (W.heap.size=w.heap.size+1):=hD (by rw[hW];exact Wj _ _);have HZB:Hid (W.heap[w.heap.size]?=some (.cells #[.int .i64 0,.slice none 0 0,.slice none 0 0,.int .i64 0,.bool false] 122 (0,0))):=hD (by rw[hW];exact Vj _ _);have HH:=hD (⟨h0,hh,hs⟩:0<x.f.length∧x.top.h≤x.s.length∧x.s.length≤1000000);clear hc hsv hfv hg1 hW hrv hpv er ep h hF hmem h0 hh hs;go_enter Tryz.func167,Tryz.ntmps167
 go_upto_region 2 with (first|(go_at_call 50;rw[← HW.out];refine(dtop_at _ F.G g x.f.length cf HC.out.p12 HC.out.k0 HC.out.k1 HC.out.k2).mono ?_;rintro e w2 ⟨rfl,m2,hw2⟩;have HB2:=hD (show Below W.heap.size W w2 from hw2 ▸ Wt (bR _ _) m2);clear hw2;have u0:=(HB2.out.cell (wL W _ t0)).trans t0;have u1:=(HB2.out.cell (wL W _ t1)).trans t1;have u2:=(HB2.out.cell (wL W _ t2)).trans t2;have u3:=(HB2.out.cell (wL W _ t3)).trans t3;have u4:=(HB2.out.cell (wL W _ t4)).trans t4;clear t0 t1 t2 t3 t4))
 obtain⟨W3,hW3⟩:∃ W3,W3=w2.alloc (.cells #[.int .i64 x.top.op,.slice Ap x.top.ps.length cp,.slice Ar x.top.rs.length cr,.int .i64 (x.top.h:Int),.bool x.top.dead] 122):=⟨_,rfl⟩;rw[← hW3];have hb3:Below W.heap.size W W3:=hW3 ▸ HB2.out.alloc HB2.out.size _;have hws3:W3.heap.size=w2.heap.size+1:=by rw[hW3,Wj]
 have hg3:=HG1.out.1.below hb3;have hf3:∀ j:Nat,W3.cell? ⟨w2.heap.size,j,none⟩=(#[.int .i64 x.top.op,.slice Ap x.top.ps.length cp,.slice Ar x.top.rs.length cr,.int .i64 (x.top.h:Int),.bool x.top.dead]:Array Value)[j]?:=fun j=>by rw[hW3,wN]
 have hnf:=HG1.out.1.new_free HB2.out.size;have h2s:=HB2.out.size;have HFF:Hid (∀ wz xz,Wz F W3 x wz xz→(∀ j:Nat,wz.cell? ⟨w2.heap.size,j,none⟩=(#[.int .i64 x.top.op,.slice Ap x.top.ps.length cp,.slice Ar x.top.rs.length cr,.int .i64 (x.top.h:Int),.bool x.top.dead]:Array Value)[j]?)∧wz.heap[w.heap.size]?=some (.cells #[.int .i64 0,.slice none 0 0,.slice none 0 0,.int .i64 0,.bool false] 122 (0,0))∧¬ wpriv F xz w.heap.size):=hD fun wz xz hst=>by
  exact Zbu
 have b2:=hf3 2;simp only[List.getElem?_toArray,List.getElem?_cons_zero,List.getElem?_cons_succ]at b2;have HTK:=hD (VD HF.out (hg3.1.below ((bR _ _).drew)).1 HH.out.1 HH.out.2.2 HH.out.2.1 _ x.top.rs ((hg3.1.below ((bR _ _).drew)).2.ints (hg3.2.ints HRV.out)) hrl);rw[HER.out]at HTK;have HG3:=hD hg3;generalize w2.heap.size=f at *;clear hg3 hf3 hnf h2s hb3 hW3 u0 u1 u2 u3 u4 HC;obtain⟨R,hR⟩:∃ R,WC x.pl x.top.rs=R:=⟨_,rfl⟩;rw[hR]at HTK;cases R with
 | none =>
  have HRN:=hD (dshut_none hR);clear hR;refine wp_region_held_drew (S:=fun _=>True) (by kernel_rfl) trivial (fun hS=>?_);show wpAnyH _ _ _ _ _ 16 #[false,false,false,false,false,false,false,false,false,false,false,false,false,false,false,false] _ _;refine mT 0 9 rfl hS ?_;refine mT 1 10 rfl hS ?_;refine mT 2 11 rfl hS ?_;refine mR 3 12 rfl fun K hK=>?_;go_simp;refine hK.out _ _ trivial (fun _=>?_);clear hK K;try simp only[sA,List.set]
  refine mR 4 13 rfl fun K hK=>?_;go_simp;go_at_call 137;refine HTK.out.mono ?_;rintro e w4 ⟨x4,g4,s4,rfl,⟨hxf,hxl,hxh⟩,hxs⟩;go_wp2_with fail
  refine hK.out _ _ trivial (fun _=>?_);clear hK K;try simp only[sA,List.set]
  refine U3 (S':=fun wz=>Below w4.heap.size w4 wz) (fun _ _=>trivial) ?_;replace hS:Below w4.heap.size w4 w4:=bR _ _;have hst4:=(HG3.out.1.below ((bR W3.heap.size W3).drew)).2.trans s4;have HXF:=hD hxf;clear hxf hxs hxl hxh;refine mT 5 14 rfl hS ?_;refine mT 6 15 rfl hS ?_;refine mN 7 16 rfl hS ?_;refine mN 8 17 rfl hS ?_;refine mN 9 18 rfl hS ?_;refine mN 10 19 rfl hS ?_;refine mN 11 20 rfl hS ?_;refine mN 12 21 rfl hS ?_;refine mN 13 22 rfl hS ?_;refine mN 14 23 rfl hS ?_;refine mT 15 24 rfl hS ?_;refine wpAnyH_done (by kernel_rfl) ?_ _;obtain⟨hff,hz,hnp⟩:=HFF.out _ _ hst4;have c0:=hff 0;have c1:=hff 1;have c2:=hff 2;have c3:=hff 3;have c4:=hff 4;simp only[List.getElem?_toArray,List.getElem?_cons_zero,List.getElem?_cons_succ]at c0 c1 c2 c3 c4;have hfin:=g4.outside HG0.out ((HG1.out.2.trans HG3.out.2).trans hst4) (fun a ha=>HXF.out ▸ ha) (keeps5 _ w.heap.size (.int .i64 x.top.op) (.slice Ap x.top.ps.length cp) (.slice Ar x.top.rs.length cr) (.int .i64 (x.top.h:Int)) (.bool x.top.dead)) (nR _) hnp;have HFN:=hD hfin;have HZE:=hD (fill5_at hz (.int .i64 x.top.op) (.slice Ap x.top.ps.length cp) (.slice Ar x.top.rs.length cr) (.int .i64 (x.top.h:Int)) (.bool x.top.dead));have z0:=WG hz 0;have f0:=Va hz 0;have z1:=WG hz 1;have f1:=Va hz 1;have z2:=WG hz 2;have f2:=Va hz 2;have z3:=WG hz 3;have f3:=Va hz 3;have z4:=WG hz 4;have f4:=Va hz 4;simp only[List.getElem?_toArray,List.getElem?_cons_zero,List.getElem?_cons_succ]at z0 z1 z2 z3 z4;clear hz hnp hfin hst4 g4 s4 hff;go_wp2;have hzz:=WG HZE.out;refine bodyPost_ret (v:=.tuple #[.agg #[.int .i64 x.top.op,.slice Ap x.top.ps.length cp,.slice Ar x.top.rs.length cr,.int .i64 (x.top.h:Int),.bool x.top.dead],.bool false]) (by simp[results,Tryz.results167,go_sem,hzz]) rfl ⟨x4,HFN.out.1,HFN.out.2,(by unfold Fv.cells;rw[HER.out,HEP.out,HRN.out];rfl),fun hx=>by rw[HRN.out]at hx;cases hx⟩
 | some p1 =>
  have HPR:=hD hR;clear hR;refine wp_region_held_drew (S:=fun _=>True) (by kernel_rfl) trivial (fun hS=>?_);show wpAnyH _ _ _ _ _ 16 #[false,false,false,false,false,false,false,false,false,false,false,false,false,false,false,false] _ _;refine mT 0 9 rfl hS ?_;refine mT 1 10 rfl hS ?_;refine mT 2 11 rfl hS ?_;refine mR 3 12 rfl fun K hK=>?_;go_simp;refine hK.out _ _ trivial (fun _=>?_);clear hK K;try simp only[sA,List.set]
  refine mR 4 13 rfl fun K hK=>?_;go_simp;go_at_call 137;refine HTK.out.mono ?_;rintro e w4 ⟨x4,g4,s4,rfl,⟨hxf,hxl,hxh⟩,hxs⟩;go_wp2_with fail
  refine hK.out _ _ trivial (fun _=>?_);clear hK K;try simp only[sA,List.set]
  refine U3 (S':=fun wz=>Below w4.heap.size w4 wz) (fun _ _=>trivial) ?_;replace hS:Below w4.heap.size w4 w4:=bR _ _;have hst4:=(HG3.out.1.below ((bR W3.heap.size W3).drew)).2.trans s4;have HXL:=hD (⟨hxf,hxl,hxh⟩:x4.f=x.f∧x4.s.length≤x.s.length∧x.top.h≤x4.s.length);have hbr:∀ (P:Prop),(x4.s.length=x.top.h→P)→(x4.s.length≠x.top.h→P)→P:=fun P h1 h2=>(Classical.em _).elim h1 h2;refine hbr _ (fun hle=>?_) (fun hle=>?_)
  ·clear hbr;have hdl:((x4.s.length:Int) != (x.top.h:Int))=false:=by simp;omega
   have HLE:=hD hle;clear hle;obtain⟨hff,hz,hnp⟩:=HFF.out w4 x4 hst4;have b3:=hff 3;simp only[List.getElem?_toArray,List.getElem?_cons_zero,List.getElem?_cons_succ]at b3;have hs4:=hxs rfl;obtain⟨gg,A4,c4,cf4,hc4,hsv4,hfv4⟩:=g4.del HF.out (by rw[hxf];exact HH.out.1);have HC4:=hD hc4;have HSV4:=hD hsv4;have HFV4:=hD hfv4;have HB3:=hD (fun wz (hb:Below w4.heap.size w4 wz)=>(hb.cell (wL w4 _ b3)).trans b3);have HXS:=hD hs4;have HXF:=hD hxf;clear hff hz hnp hc4 hsv4 hfv4 b3 hs4 hxf hxs hxl hxh;refine mT 5 14 rfl hS ?_;refine mT 6 15 rfl hS ?_;refine mT 7 16 rfl hS ?_;refine mT 8 17 rfl hS ?_;refine mT 9 18 rfl hS ?_;refine mT 10 19 rfl hS ?_ (hy:=by intro wS hSw;have p0:=(HC4.out.below hSw).p11;go_simp;try with_reducible rfl);refine mT 11 20 rfl hS ?_;refine mT 12 21 rfl hS ?_;refine mT 13 22 rfl hS ?_ (hy:=by intro wS hSw;have b3:=HB3.out _ hSw;go_simp;try with_reducible rfl);refine mT 14 23 rfl hS ?_;refine mT 15 24 rfl hS ?_;refine wpAnyH_done (by kernel_rfl) ?_ _;have HK:=hD (show x4.f.length=x.f.length by rw[HXF.out]);have hk1:0<x.f.length:=HH.out.1;have HG4:=hD g4;have HST4:=hD hst4;clear hst4 g4 s4;have hkc:x.f.length≤cf4∧cf4≤maxLen:=⟨by rw[← HK.out];exact HC4.out.k1,HC4.out.k2⟩;unfold maxLen at hkc;have e1:IntKind.i64.wrap ((x4.f.length:Int) - 1)=((x.f.length - 1:Nat):Int):=by rw[HK.out,show((x.f.length:Int) - 1)=((x.f.length - 1:Nat):Int) by omega];exact IntWalk.i64_in _ (by omega)
   have hkd:x.f.length - 1≤cf4:=by omega
   go_upto_region 4 with (fail)
   refine Wm.start (S:=fun wz=>Below w4.heap.size w4 wz) (X:=14) (by kernel_rfl) ?_;show Wm _ _ _ _ _ _ 15 #[false,false,false,false,false,false,false,false,false,false,false,false,false,false,false] _ _;replace hS:Below w4.heap.size w4 w4.drew:=(bR _ _).drew;generalize w4.drew=w5 at hS ⊢;refine Wm.tk 0 26 rfl hS ?_;refine Wm.tk 1 27 rfl hS ?_;refine Wm.tk 2 28 rfl hS ?_;refine Wm.tk 3 29 rfl hS ?_;refine Wm.tk 4 30 rfl hS ?_ (hy:=by intro w' hSw;have p1:=(HC4.out.below hSw).p12;go_simp;try with_reducible rfl);refine Wm.tk 5 31 rfl hS ?_;refine Wm.tk 6 32 rfl hS ?_;refine Wm.tk 7 33 rfl hS ?_;refine Wm.tk 8 34 rfl hS ?_ (hy:=by intro w' hSw;have p1:=(HC4.out.below hSw).p12;go_simp;try with_reducible rfl);refine Wm.tk 9 35 rfl hS ?_;refine Wm.tk 10 36 rfl hS ?_;refine Wm.tk 11 37 rfl hS ?_;refine Wm.om 12 38 rfl fun K hK=>?_;go_simp;refine hK.out _ _ (.inr hS) ?_;clear hK K;try simp only[sA,List.set]
   refine Wm.tk 13 39 rfl hS ?_;refine Wm.on 14 rfl fun K hK=>?_;have hg5:=HG4.out.below hS;have p1:=hg5.1.d12 HF.out;have fx:=hg5.1.frozen 12;rw[HFV4.out]at p1;go_simp;refine hK.out _ _ (.inl rfl) ?_;clear hK K;refine Wm.done (by kernel_rfl) ?_ _;have how:w5.ownsRow 0 F.ft 5 (.slice (some ⟨gg,0,none⟩) (x.f.length - 1) cf4) (x4.f.take (x.f.length - 1)).length (VV (x4.f.take (x.f.length - 1))):=by
    exact ZcB
   have hst:=hg5.1.setF (W:=w5) (w:=w5) (.refl _ _) (.slice (some ⟨gg,0,none⟩) (x.f.length - 1) cf4) (x4.f.take (x.f.length - 1)) how (.inl (by rw[HFV4.out];rfl)) (fun a ha=>.inl (List.mem_of_mem_take ha));rw[Wx.ref_f HF.out]at hst;have hst6:=HST4.out.trans (hg5.2.trans hst.2);obtain⟨hff,hz,hnp⟩:=HFF.out _ _ hst6;have c0:=hff 0;have c1:=hff 1;have c2:=hff 2;have c3:=hff 3;have c4:=hff 4;simp only[List.getElem?_toArray,List.getElem?_cons_zero,List.getElem?_cons_succ]at c0 c1 c2 c3 c4;have hfin:=hst.1.outside HG0.out ((HG1.out.2.trans HG3.out.2).trans hst6) (fun a ha=>HXF.out ▸ List.mem_of_mem_take ha) (keeps5 _ w.heap.size (.int .i64 x.top.op) (.slice Ap x.top.ps.length cp) (.slice Ar x.top.rs.length cr) (.int .i64 (x.top.h:Int)) (.bool x.top.dead)) (nR _) hnp;have HFN:=hD hfin;have HZE:=hD (fill5_at hz (.int .i64 x.top.op) (.slice Ap x.top.ps.length cp) (.slice Ar x.top.rs.length cr) (.int .i64 (x.top.h:Int)) (.bool x.top.dead));have z0:=WG hz 0;have f0:=Va hz 0;have z1:=WG hz 1;have f1:=Va hz 1;have z2:=WG hz 2;have f2:=Va hz 2;have z3:=WG hz 3;have f3:=Va hz 3;have z4:=WG hz 4;have f4:=Va hz 4;simp only[List.getElem?_toArray,List.getElem?_cons_zero,List.getElem?_cons_succ]at z0 z1 z2 z3 z4;clear hz hnp hfin hst6 hst hg5 p1 fx how hff hS;generalize w5.setCell ⟨F.G,12,none⟩ (.slice (some ⟨gg,0,none⟩) (x.f.length - 1) cf4)=w6 at *;go_wp2;have hzz:=WG HZE.out;have hpr:=HPR.out;rw[HXS.out]at hpr;have hr:=dshut_at hpr HLE.out HXF.out (.slice (some ⟨gg,0,none⟩) (x.f.length - 1) cf4);refine bodyPost_ret (v:=.tuple #[.agg #[.int .i64 x.top.op,.slice Ap x.top.ps.length cp,.slice Ar x.top.rs.length cr,.int .i64 (x.top.h:Int),.bool x.top.dead],.bool true]) (by simp[results,Tryz.results167,go_sem,hzz]) rfl ⟨_,HFN.out.1,HFN.out.2,(by unfold Fv.cells;rw[HER.out,HEP.out,hr];rfl),fun _=>⟨by show x4.f.take _=_;rw[HXF.out],HXL.out.2.1,hr⟩⟩
  ·clear hbr;have hdl:((x4.s.length:Int) != (x.top.h:Int))=true:=by simp;omega
   have HLE:=hD hle;clear hle;obtain⟨hff,hz,hnp⟩:=HFF.out w4 x4 hst4;have b3:=hff 3;simp only[List.getElem?_toArray,List.getElem?_cons_zero,List.getElem?_cons_succ]at b3;have hs4:=hxs rfl;obtain⟨gg,A4,c4,cf4,hc4,hsv4,hfv4⟩:=g4.del HF.out (by rw[hxf];exact HH.out.1);have HC4:=hD hc4;have HSV4:=hD hsv4;have HFV4:=hD hfv4;have HB3:=hD (fun wz (hb:Below w4.heap.size w4 wz)=>(hb.cell (wL w4 _ b3)).trans b3);have HXS:=hD hs4;have HXF:=hD hxf;clear hff hz hnp hc4 hsv4 hfv4 b3 hs4 hxf hxs hxl hxh;refine mT 5 14 rfl hS ?_;refine mT 6 15 rfl hS ?_;refine mT 7 16 rfl hS ?_;refine mT 8 17 rfl hS ?_;refine mT 9 18 rfl hS ?_;refine mT 10 19 rfl hS ?_ (hy:=by intro wS hSw;have p0:=(HC4.out.below hSw).p11;go_simp;try with_reducible rfl);refine mT 11 20 rfl hS ?_;refine mT 12 21 rfl hS ?_;refine mT 13 22 rfl hS ?_ (hy:=by intro wS hSw;have b3:=HB3.out _ hSw;go_simp;try with_reducible rfl);refine mT 14 23 rfl hS ?_;refine mT 15 24 rfl hS ?_;refine wpAnyH_done (by kernel_rfl) ?_ _;obtain⟨hff,hz,hnp⟩:=HFF.out _ _ hst4;have c0:=hff 0;have c1:=hff 1;have c2:=hff 2;have c3:=hff 3;have c4:=hff 4;simp only[List.getElem?_toArray,List.getElem?_cons_zero,List.getElem?_cons_succ]at c0 c1 c2 c3 c4;have hfin:=g4.outside HG0.out ((HG1.out.2.trans HG3.out.2).trans hst4) (fun a ha=>HXF.out ▸ ha) (keeps5 _ w.heap.size (.int .i64 x.top.op) (.slice Ap x.top.ps.length cp) (.slice Ar x.top.rs.length cr) (.int .i64 (x.top.h:Int)) (.bool x.top.dead)) (nR _) hnp;have HFN:=hD hfin;have HZE:=hD (fill5_at hz (.int .i64 x.top.op) (.slice Ap x.top.ps.length cp) (.slice Ar x.top.rs.length cr) (.int .i64 (x.top.h:Int)) (.bool x.top.dead));have z0:=WG hz 0;have f0:=Va hz 0;have z1:=WG hz 1;have f1:=Va hz 1;have z2:=WG hz 2;have f2:=Va hz 2;have z3:=WG hz 3;have f3:=Va hz 3;have z4:=WG hz 4;have f4:=Va hz 4;simp only[List.getElem?_toArray,List.getElem?_cons_zero,List.getElem?_cons_succ]at z0 z1 z2 z3 z4;clear hz hnp hfin hst4 g4 s4 hff;go_wp2;have hzz:=WG HZE.out;have hpr:=HPR.out;rw[HXS.out]at hpr;have hr:=dshut_far hpr HLE.out;refine bodyPost_ret (v:=.tuple #[.agg #[.int .i64 x.top.op,.slice Ap x.top.ps.length cp,.slice Ar x.top.rs.length cr,.int .i64 (x.top.h:Int),.bool x.top.dead],.bool false]) (by simp[results,Tryz.results167,go_sem,hzz]) rfl ⟨x4,HFN.out.1,HFN.out.2,(by unfold Fv.cells;rw[HER.out,HEP.out,hr];rfl),fun hx=>by rw[hr]at hx;cases hx⟩
end
end Go.Proofs.YtmfpnfdinoofpaaGreatDoor
