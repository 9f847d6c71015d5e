/- A part of the proof. -/
import Derived.Test.YtmfpnfdinoofpaaGreatDoorJ8
namespace Go.Proofs.YtmfpnfdinoofpaaGreatDoor
section
open Go.RowKit
set_option maxHeartbeats 1000000
set_option maxRecDepth 100000
theorem ZbT {P:Prop}(h:P:=by
 rw[h.cell];unfold WN;rw[hF.1];rfl):P:=h
theorem agree_any (t want:Int) (w:World):Calls Tryz.prog 159 #[.int .i64 t,.int .i64 want] w fun e w'=>e=.returned (.bool (UE t want))∧w=w':=by
 unfold UE;by_cases h1:t=want
 ·have d1:(t==want)=true:=by simpa using h1
  rw[d1];go_enter Tryz.func159,Tryz.ntmps159;go_wp2;go_ret;exact⟨rfl,rfl⟩
 ·have d1:(t==want)=false:=by simpa using h1
  rw[d1];go_enter Tryz.func159,Tryz.ntmps159;go_wp2;go_ret;exact⟨rfl,rfl⟩
def Wx.prg (F:Wx):Prop:=F.doc=false∧F.bt=165∧F.ft=192
theorem Wk.p0 {F:Wx} {w:World} {x:Ws} (h:Wk F w x) (hF:F.prg):w.cell? ⟨F.G,0,none⟩=some x.sv:=by
 exact ZbT
theorem Wk.p1 {F:Wx} {w:World} {x:Ws} (h:Wk F w x) (hF:F.prg):w.cell? ⟨F.G,1,none⟩=some x.fv:=by
 exact ZbT
def Ws.top (x:Ws):Fv:=x.f.getD (x.f.length - 1) ⟨0,.slice none 0 0,.slice none 0 0,[],[],0,false⟩
theorem Ws.top_fr (x:Ws):x.top.fr=WT (x.f.map Fv.fr):=by
 unfold Ws.top WT;rw[List.length_map,List.getD_eq_getElem?_getD,List.getD_eq_getElem?_getD,List.getElem?_map];cases x.f[x.f.length - 1]? <;> rfl
theorem Wk.tcell {F:Wx} {w:World} {x:Ws} (h:Wk F w x) (h0:0<x.f.length):∃ g c:Nat,x.fv=.slice (some ⟨g,0,none⟩) x.f.length c∧x.f.length≤c∧c≤maxLen∧g<w.heap.size∧(∀ o,w.frozen? ⟨g,o,none⟩=false) ∧
 w.cell? ⟨g,(x.f.length - 1) * 5,none⟩=some (.int .i64 x.top.op)∧w.cell? ⟨g,(x.f.length - 1) * 5+1,none⟩=some x.top.pv∧w.cell? ⟨g,(x.f.length - 1) * 5+2,none⟩=some x.top.rv∧w.cell? ⟨g,(x.f.length - 1) * 5+3,none⟩=some (.int .i64 (x.top.h:Int))∧w.cell? ⟨g,(x.f.length - 1) * 5+4,none⟩=some (.bool x.top.dead):=by
 obtain⟨g,c,he,h1,h2,h3,h4,h5⟩:=h.fcell h0;have h6:=fun i hi=>h5 (x.f.length - 1) (by omega) i hi ⟨0,.slice none 0 0,.slice none 0 0,[],[],0,false⟩;exact⟨g,c,he,h1,h2,h3,h4,h6 0 (by decide),h6 1 (by decide),h6 2 (by decide),h6 3 (by decide),h6 4 (by decide)⟩
def ReadPost (v:Value) (w:World) (e:Ending) (w':World):Prop:=e=.returned v∧∃ m,w'=w.drewN m
theorem ReadPost.below {v:Value} {w:World} {e:Ending} {w':World} (h:ReadPost v w e w'):e=.returned v∧Below w.heap.size w w':=by
 obtain⟨rfl,m,rfl⟩:=h;exact⟨rfl,Wt (bR _ _) m⟩
theorem top_at (w:World) (G g n c:Nat) (p1:w.cell? ⟨G,1,none⟩=some (.slice (some ⟨g,0,none⟩) n c)) (h0:0<n) (h1:n≤c) (h2:c≤maxLen) :
 Calls Tryz.prog 113 #[.pointer (some ⟨G,0,none⟩)] w (ReadPost (.pointer (some ⟨g,(n - 1) * 5,none⟩)) w):=by
 unfold maxLen at h2;have e1:IntKind.i64.wrap ((n:Int) - 1)=((n - 1:Nat):Int):=by rw[show((n:Int) - 1)=((n - 1:Nat):Int) by omega];exact IntWalk.i64_in _ (by omega)
 have hlt:n - 1<n:=by omega
 generalize n - 1=k at *;go_enter Tryz.func113,Tryz.ntmps113;go_wp2_with fail
 go_quiet (fail)
 go_wp2;go_ret;exact⟨rfl,_,rfl⟩
structure Cel (w:World) (G g k:Nat) (A:Option Addr) (n c cf:Nat) (hh:Nat) (dd:Bool):Prop where
 p0:w.cell? ⟨G,0,none⟩=some (.slice A n c)
 p1:w.cell? ⟨G,1,none⟩=some (.slice (some ⟨g,0,none⟩) k cf)
 k0:0<k
 k1:k≤cf
 k2:cf≤maxLen
 n1:n≤c
 n2:c≤maxLen
 ch:w.cell? ⟨g,(k - 1) * 5+3,none⟩=some (.int .i64 (hh:Int))
 cd:w.cell? ⟨g,(k - 1) * 5+4,none⟩=some (.bool dd)
theorem Wk.cel {F:Wx} {w:World} {x:Ws} (h:Wk F w x) (hF:F.prg) (h0:0<x.f.length):∃ (g:Nat) (A:Option Addr) (c cf:Nat),Cel w F.G g x.f.length A x.s.length c cf x.top.h x.top.dead∧x.sv=.slice A x.s.length c∧x.fv=.slice (some ⟨g,0,none⟩) x.f.length cf:=by
 obtain⟨g,cf,he,h1,h2,h3,h4,t0,t1,t2,t3,t4⟩:=h.tcell h0;obtain⟨A,c,hs,s1,s2⟩:=h.sform;exact⟨g,A,c,cf,⟨by rw[h.p0 hF,hs],by rw[h.p1 hF,he],h0,h1,h2,s1,s2,t3,t4⟩,hs,he⟩
theorem Cel.drewN {w:World} {G g k:Nat} {A:Option Addr} {n c cf hh:Nat} {dd:Bool} (h:Cel w G g k A n c cf hh dd) (m:Nat):Cel (w.drewN m) G g k A n c cf hh dd:=⟨h.p0,h.p1,h.k0,h.k1,h.k2,h.n1,h.n2,h.ch,h.cd⟩
theorem Cel.below {w w':World} {G g k:Nat} {A:Option Addr} {n c cf hh:Nat} {dd:Bool} (h:Cel w G g k A n c cf hh dd) (hb:Below w.heap.size w w'):Cel w' G g k A n c cf hh dd :=
 have lt:∀ {p:Addr} {u:Value},w.cell? p=some u→w'.cell? p=some u:=fun hc=>(hb.cell (wL w _ hc)).trans hc
 ⟨lt h.p0,lt h.p1,h.k0,h.k1,h.k2,h.n1,h.n2,lt h.ch,lt h.cd⟩
theorem holdC_yes {h:Nat} {d:Bool} {s q:List Int} (H:∀ k,k<q.length→(if s.length+k<h+q.length then d else UE (s.getD (s.length+k - q.length) 0) (q.getD k 0))=true):Vm h d s q=true:=by
 unfold Vm;rw[List.all_eq_true];intro k hk;exact H k (List.mem_range.1 hk)
theorem holdC_no {h:Nat} {d:Bool} {s q:List Int} {k:Nat} (hk:k<q.length) (H:(if s.length+k<h+q.length then d else UE (s.getD (s.length+k - q.length) 0) (q.getD k 0))=false):Vm h d s q=false:=by
 cases hc:Vm h d s q with
 | false=>rfl
 | true =>
  unfold Vm at hc;rw[List.all_eq_true]at hc;rw[hc k (List.mem_range.2 hk)]at H;cases H
theorem holds_any {F:Wx} {w:World} {x:Ws} (hF:F.prg) (h:Wk F w x) (h0:0<x.f.length) (hs:x.s.length≤1000000) (tv:Value) (q:List Int) (hq:Wf (Wq F w x) w tv q) (hql:q.length≤1000000) (hh:x.top.h≤x.s.length) :
 Calls Tryz.prog 158 #[.pointer (some ⟨F.G,0,none⟩),tv] w (ReadPost (.bool (Vm x.top.h x.top.dead x.s q)) w):=by
 obtain⟨g,A,c,cf,hc,hsv,hfv⟩:=h.cel hF h0;obtain⟨At,ct,htv,hmt,_⟩:=hq.form;have HS:=fun h0=>h.scell h0;rw[hsv]at HS;have HHS:=hD HS;have HQ:=hq;rw[htv]at HQ ⊢;have HHQ:=hD HQ;have HC:=hD hc;obtain⟨R,hR⟩:∃ R,Vm x.top.h x.top.dead x.s q=R:=⟨_,rfl⟩;rw[hR];clear h HS HQ hq htv hsv hfv hF hc;generalize x.top.h=ht at *;generalize x.top.dead=dd at *;obtain⟨n,hn⟩:∃ n,x.s.length=n:=⟨_,rfl⟩;obtain⟨m,hm⟩:∃ m,q.length=m:=⟨_,rfl⟩;obtain⟨k,hk⟩:∃ k,x.f.length=k:=⟨_,rfl⟩;have HHR:Hid (Vm ht dd x.s q=R):=hD hR;have HN:=hD hn;have HM:=hD hm;rw[hn]at HC hs hh HHS;rw[hk]at HC h0;rw[hm]at HHQ hql ⊢;clear hn hm hk hR;have p1:=HC.out.p1;have HT:=hD (fun j=>top_at (w.drewN j) F.G g k cf HC.out.p1 HC.out.k0 HC.out.k1 HC.out.k2);go_enter Tryz.func158,Tryz.ntmps158;go_wp2_with (go_at_call 113;refine(HT.out 0).mono ?_;rintro e w1 ⟨rfl,mm,rfl⟩)
 have hwr0:IntKind.i64.wrap ((n:Int) - (m:Int))=(n:Int) - (m:Int):=IntWalk.i64_in _ (by omega);clear p1 HT;go_loopw [13] (fun i wr=>∃ k a:Nat,k≤m∧i=.int .i64 (k:Int)∧wr=w.drewN a∧Hid (∀ j,j<k→(if n+j<ht+m then dd else UE (x.s.getD (n+j - m) 0) (q.getD j 0))=true)) (fun i _=>m - (intOf i).toNat)
 case atStart=>exact⟨0,_,nZ _,rfl,rfl,hD (fun j hj=>absurd hj (Nat.not_lt_zero j))⟩
 case round =>
  obtain⟨j,a,hj,rfl,rfl,HJ⟩:=hrel;by_cases hjm:j<m
  ·have hjn:(0:Int)≤j:=Int.natCast_nonneg _;have hd:decide ((j:Int)<(m:Int))=true:=by simp;omega
   obtain⟨gl,ol,c2,he,_,_⟩:=HHQ.out.some_ (by rw[HM.out];omega);rw[HM.out]at he;simp only[vI]at he;obtain⟨rfl,-,rfl⟩:=he;have k2:=HHQ.out.at_ j (by omega);obtain⟨y,hy⟩:∃ y,q.getD j 0=y:=⟨_,rfl⟩;rw[hy]at k2;have HY:=hD hy;clear hy;have e2:IntKind.i64.wrap ((n:Int) - (m:Int)+(j:Int))=(n:Int) - (m:Int)+(j:Int):=IntWalk.i64_in _ (by omega);obtain⟨p0,p1,_,_,_,n1,n2,ch,cd⟩:=HC.out;by_cases hlt:n+j<ht+m
   ·have hd2:decide ((n:Int) - (m:Int)+(j:Int)<(ht:Int))=true:=by simp;omega
    have hd3:decide ((ht:Int)≤(n:Int) - (m:Int)+(j:Int))=false:=by simp;omega
    cases dd with
    | false =>
     have hr:R=false:=by rw[← HHR.out];exact holdC_no (k:=j) (by rw[HM.out];exact hjm) (by rw[HN.out,HM.out,if_pos hlt])
     subst hr;go_wp2;go_ret;exact⟨rfl,_,rfl⟩
    | true =>
     go_wp2;go_roundw
     case rel=>exact⟨j+1,_,by omega,by go_num,rfl,hD (fun i hi=>by
      rcases Nat.lt_or_ge i j with h1|h1
      ·exact HJ.out i h1
      ·obtain rfl:i=j:=by omega
       rw[if_pos hlt])⟩
     case measure=>simp[intOf];omega
   ·have hd2:decide ((n:Int) - (m:Int)+(j:Int)<(ht:Int))=false:=by simp;omega
    have hd3:decide ((ht:Int)≤(n:Int) - (m:Int)+(j:Int))=true:=by simp;omega
    obtain⟨z,hz⟩:∃ z:Nat,n+j - m=z:=⟨_,rfl⟩;have hzi:(n:Int) - (m:Int)+(j:Int)=(z:Int):=by omega
    have hd2':decide (z<ht)=false:=by simp;omega
    have hd3':decide (ht≤z)=true:=by simp;omega
    clear hd2 hd3;have e3:IntKind.i64.wrap ((n:Int) - (m:Int)+(j:Int))=(z:Int):=by rw[e2,hzi]
    clear e2;have hzn:z<n:=by omega
    obtain⟨gs,cs,he,_,_,_,hcs⟩:=HHS.out (by omega);simp only[vI]at he;obtain⟨rfl,-,rfl⟩:=he;have k3:=hcs z hzn;obtain⟨t,htt⟩:∃ t,x.s.getD z 0=t:=⟨_,rfl⟩;rw[htt]at k3;have HZ:Hid (UE (x.s.getD (n+j - m) 0) (q.getD j 0)=UE t y):=hD (by rw[hz,htt,HY.out]);clear hcs htt;have HLT:=hD hlt;have HZZ:=hD hz;clear hlt hz hzi;have AG:=fun w=>agree_any t y w;cases hag:UE t y with
    | false =>
     rw[hag]at AG;have hr:R=false:=by rw[← HHR.out];exact holdC_no (k:=j) (by rw[HM.out];exact hjm) (by rw[HN.out,HM.out,if_neg HLT.out,HZ.out,hag])
     subst hr;clear hag;go_wp2_with (go_at_call 159;refine(AG _).mono ?_;rintro e w1 ⟨rfl,rfl⟩)
     go_ret;exact⟨rfl,_,rfl⟩
    | true =>
     rw[hag]at AG;have HAG:=hD hag;clear hag;go_wp2_with (go_at_call 159;refine(AG _).mono ?_;rintro e w1 ⟨rfl,rfl⟩)
     go_roundw
     case rel=>exact⟨j+1,_,by omega,by go_num,rfl,hD (fun i hi=>by
      rcases Nat.lt_or_ge i j with h1|h1
      ·exact HJ.out i h1
      ·obtain rfl:i=j:=by omega
       rw[if_neg HLT.out,HZ.out,HAG.out])⟩
     case measure=>simp[intOf];omega
  ·have hd:decide ((j:Int)<(m:Int))=false:=by simp;omega
   have hr:R=true:=by
    rw[← HHR.out];refine holdC_yes fun k hk=>?_;rw[HN.out,HM.out];exact HJ.out k (by rw[HM.out]at hk;omega)
   subst hr;go_wp2;go_ret;exact⟨rfl,_,rfl⟩
end
section
open Go.RowKit
set_option maxHeartbeats 1000000
set_option maxRecDepth 100000
theorem owns_cutS {w:World} {x:Ws} {F:Wx} (h:Wk F w x) {A:Option Addr} {n c d:Nat} (hv:x.sv=.slice A n c) (hn:x.s.length=n) (hd:d≤n):w.ownsRow 0 3 1 (.slice A d c) (x.s.take d).length ((x.s.take d).map (Value.int .i64)):=by
 have ho:=h.so;rw[hn]at ho;have hl:(x.s.take d).length=d:=by rw[List.length_take];omega
 rw[hl,List.map_take];rcases ho.2 with ⟨h1,h2⟩|⟨g,cap,cur,h1,_⟩
 ·rw[hv]at h1;simp only[vI]at h1;obtain⟨rfl,h3,rfl⟩:=h1;obtain rfl:d=0:=by omega
  exact⟨by simp,.inl ⟨rfl,rfl⟩⟩
 ·rw[hv]at h1;simp only[vI]at h1;obtain⟨rfl,h3,rfl⟩:=h1;rw[hv]at ho;have:=owns_cut ho hd
  rwa [Nat.mul_one]at this
theorem UQ {F:Wx} {w:World} {x:Ws} (hF:F.prg) (h:Wk F w x) (h0:0<x.f.length) (hs:x.s.length≤1000000) (tv:Value) (q:List Int) (hq:Wf (Wq F w x) w tv q) (hql:q.length≤1000000) (hh:x.top.h≤x.s.length) :
 Calls Tryz.prog 129 #[.pointer (some ⟨F.G,0,none⟩),tv] w (WPost F w x (.bool (Vm x.top.h x.top.dead x.s q)) (fun x'=>x'.f=x.f∧(Vm x.top.h x.top.dead x.s q=true→x'.s=x.s.take (max (x.s.length - q.length) x.top.h)))):=by
 have HLD:=hD (holds_any hF h h0 hs tv q hq hql hh);obtain⟨g,A,c,cf,hc,hsv,hfv⟩:=h.cel hF h0;obtain⟨At,ct,htv,hmt,_⟩:=hq.form;have HW:=hD h;have HC:=hD hc;have HF:=hD hF;rw[htv]at HLD ⊢;cases hR:Vm x.top.h x.top.dead x.s q with
 | false =>
  rw[hR]at HLD;go_enter Tryz.func129,Tryz.ntmps129;go_wp2_with (go_at_call 158;refine HLD.out.mono ?_;rintro e w1 ⟨rfl,mm,rfl⟩)
  go_ret;obtain⟨h1,h2⟩:=HW.out.below (Wt (bR _ _) mm);exact⟨rfl,x,h1,h2,rfl,fun hx=>by cases hx⟩
 | true =>
  rw[hR]at HLD;have hown:=fun d hd=>owns_cutS (d:=d) h hsv rfl hd;have HSV:=hD hsv;have HOWN:=hD hown;clear hown hsv hfv htv hq h hR hF hc;obtain⟨n,hn⟩:∃ n,x.s.length=n:=⟨_,rfl⟩;obtain⟨m,hm⟩:∃ m,q.length=m:=⟨_,rfl⟩;obtain⟨k,hk⟩:∃ k,x.f.length=k:=⟨_,rfl⟩;obtain⟨ht,hht⟩:∃ ht,x.top.h=ht:=⟨_,rfl⟩;have HN:=hD hn;rw[hn]at HC HSV HOWN hs hh ⊢;rw[hk]at HC h0;rw[hht]at HC hh ⊢;rw[hm]at HLD hql ⊢;clear hn hm hk hht hmt;obtain⟨d,hd⟩:∃ d,max (n - m) ht=d:=⟨_,rfl⟩;have hdn:d≤n:=by omega
  have e1:IntKind.i64.wrap ((n:Int) - (m:Int))=(n:Int) - (m:Int):=IntWalk.i64_in _ (by omega);have e2:(if (n:Int) - (m:Int)<(ht:Int) then (ht:Int) else (n:Int) - (m:Int))=(d:Int):=by split <;> omega
  have e3:max ((n:Int) - (m:Int)) (ht:Int)=(d:Int):=by omega
  have HD:=hD hd;have hdc:d≤c:=by have:=HC.out.n1;omega
  rw[hd];clear hd;go_enter Tryz.func129,Tryz.ntmps129;go_wp2_with (go_at_call 158;refine HLD.out.mono ?_;rintro e w1 ⟨rfl,mm,rfl⟩)
  have HC1:=hD (HC.out.drewN mm).drewN;refine Wm.start (S:=fun wz=>Below w.heap.size w wz) (X:=22) (by kernel_rfl) ?_;show Wm _ _ _ _ _ _ 23 #[false,false,false,false,false,false,false,false,false,false,false,false,false,false,false,false,false,false,false,false,false,false,false] _ _;have hS:Below w.heap.size w (w.drewN mm).drew:=(Wt (bR _ _) mm).drew;clear HC1;generalize (w.drewN mm).drew=w1 at hS ⊢;refine Wm.tk 0 9 rfl hS ?_;refine Wm.tk 1 10 rfl hS ?_;refine Wm.tk 2 11 rfl hS ?_;refine Wm.tk 3 12 rfl hS ?_;refine Wm.tk 4 13 rfl hS ?_ (hy:=by intro w' hSw;have p0:=(HC.out.below hSw).p0;go_simp;try with_reducible rfl);refine Wm.tk 5 14 rfl hS ?_;refine Wm.tk 6 15 rfl hS ?_;refine Wm.tk 7 16 rfl hS ?_;refine Wm.tk 8 17 rfl hS ?_ (hy:=by intro w' hSw;have p0:=(HC.out.below hSw).p0;go_simp;try with_reducible rfl);refine Wm.tk 9 18 rfl hS ?_;refine Wm.tk 10 19 rfl hS ?_;refine Wm.tk 11 20 rfl hS ?_;refine Wm.tk 12 21 rfl hS ?_;refine Wm.tk 13 22 rfl hS ?_;refine Wm.om 14 23 rfl fun K hK=>?_;go_simp;go_at_call 113;have hcb:=HC.out.below hS;refine(top_at w1 F.G g k cf hcb.p1 hcb.k0 hcb.k1 hcb.k2).mono ?_;rintro e w2 ⟨rfl,m2,rfl⟩;go_wp2_with fail
  refine hK.out _ _ (.inr (Wt hS m2)) ?_;clear hK K hcb;replace hS:=Wt hS m2;generalize w1.drewN m2=w2 at hS ⊢;try simp only[sA,List.set]
  refine Wm.tk 15 24 rfl hS ?_;refine Wm.tk 16 25 rfl hS ?_;refine Wm.tk 17 26 rfl hS ?_ (hy:=by intro w' hSw;have ch:=(HC.out.below hSw).ch;go_simp;try with_reducible rfl);refine Wm.tk 18 27 rfl hS ?_;refine Wm.tk 19 28 rfl hS ?_;refine Wm.om 20 29 rfl fun K hK=>?_;go_simp;refine hK.out _ _ (.inr hS) ?_;clear hK K;try simp only[sA,List.set]
  refine Wm.tk 21 30 rfl hS ?_;refine Wm.on 22 rfl fun K hK=>?_;have hg:=HW.out.below hS;have p0:=hg.1.p0 HF.out;have f0:=hg.1.frozen 0;rw[HSV.out]at p0;go_simp;refine hK.out _ _ (.inl rfl) ?_;clear hK K;refine Wm.done (by kernel_rfl) ?_ _;have hst:=hg.1.setS (W:=w2) (w:=w2) (.refl _ _) (.slice A d c) (x.s.take d) (W8 (HOWN.out d hdn) hS) (.inl (by rw[HSV.out];cases A <;> rfl))
  rw[show F.psv=0 by unfold Wx.psv;rw[HF.out.1];rfl]at hst;have HST:=hD hst;have HG2:=hD hg.2;clear hst hg p0 f0 hS;go_wp2;go_ret;exact⟨rfl,_,HST.out.1,HG2.out.trans HST.out.2,rfl,fun _=>rfl⟩
end
section
open Go.RowKit
set_option maxHeartbeats 1000000
set_option maxRecDepth 100000
theorem Wk.grown {F:Wx} {w w2:World} {x:Ws} (hF:F.prg) (h:Wk F w x) (hgr:w.grownBy w2 x.sv.ownBlock):w2.cell? ⟨F.G,0,none⟩=some x.sv∧w2.frozen? ⟨F.G,0,none⟩=false:=by
 have hb:w2.heap[F.G]?=w.heap[F.G]?:=hgr.block F.G h.lts.1 (fun e=>(h.sp _ e.symm).1 rfl);exact⟨(World.cell?_of_block (w:=w) (a:=⟨F.G,0,none⟩) hb).trans (h.p0 hF),(World.frozen?_of_block (w:=w) (a:=⟨F.G,0,none⟩) hb).trans (h.frozen 0)⟩
theorem give_any {F:Wx} {w:World} {x:Ws} (hF:F.prg) (h:Wk F w x) (tv:Value) (q:List Int) (hq:Wf (Wq F w x) w tv q) (hb:x.s.length+q.length≤1000000) :
 Calls Tryz.prog 112 #[.pointer (some ⟨F.G,0,none⟩),tv] w (WPost F w x (.tuple #[]) (fun x'=>x'.f=x.f∧x'.s=x.s++q)):=by
 have p0:=h.p0 hF;have HW:=hD h;have HF:=hD hF;have HNW:=hD hq.news;have HSO:=hD h.so;have HQL:Hid ((q.map (Value.int .i64)).length=q.length * 1):=hD (by rw[List.length_map,Nat.mul_one]);have HON:=hD (UR q);have HE:Hid (∀ w2,w.grownBy w2 x.sv.ownBlock→w2.cell? ⟨F.G,0,none⟩=some x.sv∧w2.frozen? ⟨F.G,0,none⟩=false):=hD fun w2 hgr=>h.grown hF hgr;obtain⟨A,c,hsv,h1,h2⟩:=h.sform;have HSV:=hD hsv;clear hq h hF hsv;go_enter Tryz.func112,Tryz.ntmps112;go_wp2_with (at_builtin;refine WE rfl (.tmp 8) (.tmp 9) 23 3 rfl _ 1 8 Tryz.underlying23 Tryz.infoInt rfl (by decide) (by decide) x.sv x.s.length (x.s.map (Value.int .i64)) (by rfl) HSO.out _ q.length (q.map (Value.int .i64)) (by rfl) HQL.out HNW.out HON.out (by omega) ?_;intro v' w1 hown hgr hat;obtain⟨e0,f0⟩:=HE.out w1 hgr;obtain⟨A2,c2,rfl⟩:=Wy hown)
 have hk:We (fun k=>k<w.heap.size∧x.sv.ownBlock≠some k) w w1:=.grown hgr (fun k hk=>hk.1) (fun k e hk=>hk.2 e);have hst:=HW.out.setS hk (.slice A2 (x.s.length+q.length) c2) (x.s++q) (by rw[List.length_append,List.map_append];exact hown) (by
  rcases hat with h1|h1
  ·exact .inl h1
  ·exact .inr fun g e=>by have:=h1.symm.trans e;simp only[Option.some.injEq]at this;omega)
 rw[show F.psv=0 by unfold Wx.psv;rw[HF.out.1];rfl]at hst;refine bodyPost_end (results_none rfl _ _ _) rfl ⟨rfl,_,hst.1,hst.2,rfl,rfl⟩
theorem pop_any {F:Wx} {w:World} {x:Ws} (hF:F.prg) (h:Wk F w x) (h0:0<x.f.length) (hs:x.s.length≤1000000) :
 Calls Tryz.prog 127 #[.pointer (some ⟨F.G,0,none⟩)] w (WPost F w x (if x.s.length≤x.top.h then .tuple #[.int .i64 0,.bool x.top.dead] else .tuple #[.int .i64 (x.s.getD (x.s.length - 1) 0),.bool true]) (fun x'=>x'.f=x.f∧x'.s=if x.s.length≤x.top.h then x.s else x.s.take (x.s.length - 1))):=by
 obtain⟨g,A,c,cf,hc,hsv,hfv⟩:=h.cel hF h0;have HSC:=hD (fun h0=>h.scell h0);have HW:=hD h;have HC:=hD hc;have HF:=hD hF;have HOWN:=hD (fun d hd=>owns_cutS (d:=d) h hsv rfl hd);have HSV:=hD hsv;have p0:=hc.p0;have p1:=hc.p1;have HT:=hD (fun j=>top_at (w.drewN j) F.G g x.f.length cf hc.p1 hc.k0 hc.k1 hc.k2);clear hsv hfv h hF hc;obtain⟨n,hn⟩:∃ n,x.s.length=n:=⟨_,rfl⟩;obtain⟨k,hk⟩:∃ k,x.f.length=k:=⟨_,rfl⟩;obtain⟨ht,hht⟩:∃ ht,x.top.h=ht:=⟨_,rfl⟩;obtain⟨dd,hdd⟩:∃ dd,x.top.dead=dd:=⟨_,rfl⟩;have HN:=hD hn;rw[hn]at HC HSV HOWN hs HSC p0 ⊢;rw[hk]at HC h0 HT p1;rw[hht]at HC ⊢;rw[hdd]at HC ⊢;clear hn hk hht hdd;have e1:IntKind.i64.wrap ((n:Int) - 1)=(n:Int) - 1:=IntWalk.i64_in _ (by omega);obtain⟨_,_,_,_,_,n1,n2,ch,cd⟩:=HC.out;by_cases hle:n≤ht
 ·have hd:decide ((n:Int) - 1<(ht:Int))=true:=by simp;omega
  rw[if_pos hle,if_pos hle];go_enter Tryz.func127,Tryz.ntmps127;go_wp2_with fail
  go_quiet (first|(go_at_call 113;exact Calls.quiet_of (HT.out _)))
  go_wp2;go_quiet (fail)
  go_wp2
  go_ret2
  exact⟨rfl,x,(HW.out.below (Wt (Wt (bR _ _) _) _)).1,(HW.out.below (Wt (Wt (bR _ _) _) _)).2,rfl,rfl⟩
 ·rw[if_neg hle,if_neg hle];obtain⟨z,hz⟩:∃ z:Nat,n - 1=z:=⟨_,rfl⟩;rw[hz];have e2:IntKind.i64.wrap ((n:Int) - 1)=(z:Int):=by rw[e1];omega
  have hd:decide (z<ht)=false:=by simp;omega
  obtain⟨gs,cs,he,_,_,_,hcs⟩:=HSC.out (by omega);rw[HSV.out]at he;simp only[vI]at he;obtain⟨rfl,-,rfl⟩:=he;have k3:=hcs z (by omega);have hzn:z<n:=by omega
  have hzc:z≤c:=by omega
  have HZ:=hD hz;have HZN:Hid (z≤n):=hD (by omega);have f0:=HW.out.frozen 0;generalize x.s.getD z 0=t at k3 ⊢;clear hcs e1 hz;go_enter Tryz.func127,Tryz.ntmps127;go_wp2_with fail
  go_quiet (first|(go_at_call 113;exact Calls.quiet_of (HT.out _)))
  go_wp2
  go_ret2
  have hS:=Wt (bR w.heap.size w) nq;have hg:=HW.out.below hS;have hst:=hg.1.setS (W:=w.drewN nq) (w:=w.drewN nq) (.refl _ _) (.slice (some ⟨gs,0,none⟩) z c) (x.s.take z) (W8 (HOWN.out z HZN.out) hS) (.inl (by rw[HSV.out];rfl));rw[show F.psv=0 by unfold Wx.psv;rw[HF.out.1];rfl]at hst;exact⟨rfl,_,hst.1,hg.2.trans hst.2,rfl,rfl⟩
end
section
open Go.RowKit
set_option maxHeartbeats 1000000
set_option maxRecDepth 100000
theorem Z8 {P:Prop}(h:P:=by
 unfold Ws.top;rw[List.getD_eq_getElem?_getD,List.getElem?_eq_getElem (by omega)];exact List.getElem_mem _):P:=h
theorem flatF_dead (l:List Fv) (j:Nat) (b:Bool) (f0:Fv) (hj:j<l.length):VV (l.set j { l.getD j f0 with dead:=b })=(VV l).set (j * 5+4) (.bool b):=by
 induction l generalizing j with
 | nil=>simp at hj
 | cons a l ih =>
  cases j with
  | zero=>simp[VV,Fv.cells]
  | succ j =>
   have hj':j<l.length:=by simpa using hj
   simp only[List.set_cons_succ,List.getD_cons_succ];show a.cells++VV (l.set j _)=(a.cells++VV l).set _ _;rw[ih j hj',List.set_append_right _ _ (by simp[Fv.cells];omega)];rw[show(j+1) * 5+4 - a.cells.length=j * 5+4 by simp[Fv.cells];omega]
def Ws.deadF (x:Ws):List Fv:=x.f.set (x.f.length - 1) { x.top with dead:=true }
theorem Wk.setDead {F:Wx} {w:World} {x:Ws} (h:Wk F w x) (h0:0<x.f.length) {g n c:Nat} (hv:x.fv=.slice (some ⟨g,0,none⟩) n c) :
 Wk F (w.setCell ⟨g,(x.f.length - 1) * 5+4,none⟩ (.bool true)) { x with f:=x.deadF }∧Wz F w x (w.setCell ⟨g,(x.f.length - 1) * 5+4,none⟩ (.bool true)) { x with f:=x.deadF }:=by
 refine h.setC hv _ _ x.deadF (flatF_dead x.f (x.f.length - 1) true _ (by omega)) (by simp[Ws.deadF]) fun a ha=>?_;rcases List.mem_or_eq_of_mem_set ha with h1|h1
 ·exact⟨a,h1,rfl,rfl,rfl,rfl⟩
 ·refine⟨x.top,?_,by rw[h1],by rw[h1],by rw[h1],by rw[h1]⟩;exact Z8
theorem Ws.top_dead {x:Ws} (h0:0<x.f.length) (v:Value) (s:List Int):(Ws.top { x with sv:=v,s:=s,f:=x.deadF })={ x.top with dead:=true }:=by
 show List.getD x.deadF (x.deadF.length - 1) _=_;unfold Ws.deadF;rw[List.length_set,List.getD_eq_getElem?_getD,List.getElem?_set_self (by omega)];rfl
theorem Ws.deadF_length (x:Ws):x.deadF.length=x.f.length:=by simp[Ws.deadF]
theorem wleave_any {F:Wx} {w:World} {x:Ws} (hF:F.prg) (h:Wk F w x) (h0:0<x.f.length) (hs:x.s.length≤1000000) (tv:Value) (q:List Int) (hq:Wf (Wq F w x) w tv q) (hql:q.length≤1000000) (hh:x.top.h≤x.s.length) :
 Calls Tryz.prog 123 #[.pointer (some ⟨F.G,0,none⟩),tv] w (WPost F w x (.bool (Vm x.top.h x.top.dead x.s q)) (fun x'=>Vm x.top.h x.top.dead x.s q=true→x'.s=x.s.take x.top.h∧x'.f=x.deadF)):=by
 have HTK:=hD (UQ hF h h0 hs tv q hq hql hh);have HF:=hD hF;obtain⟨At,ct,htv,_⟩:=hq.form;rw[htv]at HTK ⊢;clear hq htv;cases hR:Vm x.top.h x.top.dead x.s q with
 | false =>
  rw[hR]at HTK;clear h;go_enter Tryz.func123,Tryz.ntmps123;go_wp2_with (go_at_call 129;refine HTK.out.mono ?_;rintro e w1 ⟨rfl,x1,g1,s1,r1⟩;have HG1:=hD g1;have HS1:=hD s1;clear g1 s1 r1)
  go_ret;exact⟨rfl,x1,HG1.out,HS1.out,fun hx=>by cases hx⟩
 | true =>
  rw[hR]at HTK;clear h hR;have HX0:=hD (⟨h0,hh⟩:0<x.f.length∧x.top.h≤x.s.length);clear h0 hh;go_enter Tryz.func123,Tryz.ntmps123
  go_upto_region 4 with (first|(go_at_call 129;refine HTK.out.mono ?_;rintro e w1 ⟨rfl,x1,g1,s1,hxf,hxs⟩;have HG1:=hD g1;have HS1:=hD s1;have HXF:=hD hxf;have HXS:=hD (hxs rfl);obtain⟨g,A,c,cf,hc,hsv,hfv⟩:=HG1.out.cel HF.out (by rw[hxf];exact HX0.out.1);have HC:=hD hc;have HSV:=hD hsv;have HFV:=hD hfv;clear g1 s1 hxf hxs hc hsv hfv)|(go_at_call 113;refine(top_at _ F.G g x1.f.length cf HC.out.p1 HC.out.k0 HC.out.k1 HC.out.k2).mono ?_;rintro e w2 ⟨rfl,m2,rfl⟩))
  have hk1:0<x1.f.length:=by rw[HXF.out];exact HX0.out.1
  have hg2:=HG1.out.below (Wt (bR w1.heap.size w1) m2);have cd:=(HC.out.drewN m2).cd;obtain⟨g',c',he,_,_,_,hfz,_⟩:=hg2.1.fcell hk1;rw[HFV.out]at he;simp only[vI,Option.some.injEq,Addr.mk.injEq]at he;obtain⟨⟨rfl,-⟩,-,rfl⟩:=he;have f4:=hfz ((x1.f.length - 1) * 5+4);have hst:=hg2.1.setDead hk1 HFV.out;have HST:=hD hst;have HG2:=hD hg2;obtain⟨w3,hw3⟩:∃ w3,w3=(w1.drewN m2).setCell ⟨g,(x1.f.length - 1) * 5+4,none⟩ (.bool true):=⟨_,rfl⟩;have HW3:=hD hw3;clear hst hg2 hfz hw3
  go_upto_region 5 with (fail)
  rw[← HW3.out]at HST ⊢;obtain⟨g2,A2,c2,cf2,hc2,hsv2,hfv2⟩:=HST.out.1.cel HF.out (by rw[Ws.deadF_length];exact hk1);have hfv2':x1.fv=_:=hfv2;have hsv2':x1.sv=_:=hsv2;rw[HFV.out]at hfv2';rw[HSV.out]at hsv2';simp only[vI,Option.some.injEq,Addr.mk.injEq,Ws.deadF_length]at hfv2' hsv2';obtain⟨⟨rfl,-⟩,-,rfl⟩:=hfv2';obtain⟨rfl,-,rfl⟩:=hsv2';rw[Ws.top_dead hk1]at hc2;have hc2':Cel w3 F.G g x1.f.length A x1.s.length c cf x1.top.h true:=by rw[Ws.deadF_length]at hc2;exact hc2
  have HC3:=hD hc2';have htop:x1.top=x.top:=by unfold Ws.top;rw[HXF.out]
  have hls:x.top.h≤x1.s.length:=by rw[HXS.out,List.length_take];have:=HX0.out.2;omega
  have HOWN:=hD (owns_cutS (d:=x.top.h) HST.out.1 HSV.out rfl hls);rw[htop]at HC3;have hdc:x.top.h≤c:=by have:=HC.out.n1;omega
  clear hc2 hc2' hfv2 hsv2 HC htop f4 cd;generalize hht:x.top.h=ht at *;have HHT:=hD hht;clear hht;refine Wm.start (S:=fun wz=>Below w3.heap.size w3 wz) (X:=12) (by kernel_rfl) ?_;show Wm _ _ _ _ _ _ 13 #[false,false,false,false,false,false,false,false,false,false,false,false,false] _ _;have hS:=(bR w3.heap.size w3).drew;generalize w3.drew=w4 at hS ⊢;refine Wm.tk 0 15 rfl hS ?_;refine Wm.tk 1 16 rfl hS ?_;refine Wm.tk 2 17 rfl hS ?_;refine Wm.tk 3 18 rfl hS ?_;refine Wm.tk 4 19 rfl hS ?_ (hy:=by intro w' hSw;have p0:=(HC3.out.below hSw).p0;go_simp;try with_reducible rfl);refine Wm.tk 5 20 rfl hS ?_;refine Wm.tk 6 21 rfl hS ?_;refine Wm.tk 7 22 rfl hS ?_;refine Wm.tk 8 23 rfl hS ?_ (hy:=by intro w' hSw;have ch:=(HC3.out.below hSw).ch;go_simp;try with_reducible rfl);refine Wm.tk 9 24 rfl hS ?_;refine Wm.om 10 25 rfl fun K hK=>?_;go_simp;refine hK.out _ _ (.inr hS) ?_;clear hK K;try simp only[sA,List.set]
  refine Wm.tk 11 26 rfl hS ?_;refine Wm.on 12 rfl fun K hK=>?_;have hg:=HST.out.1.below hS;have p0:=hg.1.p0 HF.out;have f0:=hg.1.frozen 0;rw[show(({ x1 with f:=x1.deadF }:Ws).sv)=.slice A x1.s.length c from HSV.out]at p0;go_simp;refine hK.out _ _ (.inl rfl) ?_;clear hK K;refine Wm.done (by kernel_rfl) ?_ _;have hst:=hg.1.setS (W:=w4) (w:=w4) (.refl _ _) (.slice A ht c) (x1.s.take ht) (W8 HOWN.out hS) (.inl (by show _=x1.sv.ownBlock;rw[HSV.out];cases A <;> rfl))
  rw[show F.psv=0 by unfold Wx.psv;rw[HF.out.1];rfl]at hst;have HST2:=hD hst;have HSX:=hD (((HS1.out.trans HG2.out.2).trans HST.out.2).trans (hg.2.trans hst.2));clear hst hg p0 f0 hS;go_wp2;go_ret;refine⟨rfl,_,HST2.out.1,HSX.out,?_,?_⟩
  ·show List.take ht x1.s=_;rw[HXS.out,List.take_take,Nat.min_eq_left (by omega),HHT.out]
  ·show x1.deadF=x.deadF;unfold Ws.deadF Ws.top;rw[HXF.out]
end
end Go.Proofs.YtmfpnfdinoofpaaGreatDoor
