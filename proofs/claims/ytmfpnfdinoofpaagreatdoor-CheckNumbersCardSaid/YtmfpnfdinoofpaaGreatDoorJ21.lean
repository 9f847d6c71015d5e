/- A part of the proof. -/
import Derived.Test.YtmfpnfdinoofpaaGreatDoorJ18
namespace Go.Proofs.YtmfpnfdinoofpaaGreatDoor
section
open Go.RowKit
set_option maxHeartbeats 2000000
set_option maxRecDepth 100000
def Wx.ref (F:Wx):Prop:=F.doc=true∧F.bt=120∧F.ft=122
theorem Wx.ref_s {F:Wx} (hF:F.ref):F.psv=11:=by unfold Wx.psv;rw[hF.1];rfl
theorem Wx.ref_f {F:Wx} (hF:F.ref):F.pfv=12:=by unfold Wx.pfv;rw[hF.1];rfl
theorem Wk.d11 {F:Wx} {w:World} {x:Ws} (h:Wk F w x) (hF:F.ref):w.cell? ⟨F.G,11,none⟩=some x.sv:=by
 exact ZbT
theorem Wk.d12 {F:Wx} {w:World} {x:Ws} (h:Wk F w x) (hF:F.ref):w.cell? ⟨F.G,12,none⟩=some x.fv:=by
 exact ZbT
theorem dtop_at (w:World) (G g n c:Nat) (p12:w.cell? ⟨G,12,none⟩=some (.slice (some ⟨g,0,none⟩) n c)) (h0:0<n) (h1:n≤c) (h2:c≤maxLen) :
 Calls Tryz.prog 50 #[.pointer (some ⟨G,0,none⟩)] w (ReadPost (.pointer (some ⟨g,(n - 1) * 5,none⟩)) w):=by
 unfold maxLen at h2;have e1:IntKind.i64.wrap ((n:Int) - 1)=((n - 1:Nat):Int):=by rw[show((n:Int) - 1)=((n - 1:Nat):Int) by omega];exact IntWalk.i64_in _ (by omega)
 have hlt:n - 1<n:=by omega
 generalize n - 1=k at *;go_enter Tryz.func50,Tryz.ntmps50;go_wp2_with fail
 go_quiet (fail)
 go_wp2;go_ret;exact⟨rfl,_,rfl⟩
structure Del (w:World) (G g k:Nat) (A:Option Addr) (n c cf:Nat) (hh:Nat) (dd:Bool):Prop where
 p11:w.cell? ⟨G,11,none⟩=some (.slice A n c)
 p12:w.cell? ⟨G,12,none⟩=some (.slice (some ⟨g,0,none⟩) k cf)
 k0:0<k
 k1:k≤cf
 k2:cf≤maxLen
 n1:n≤c
 n2:c≤maxLen
 ch:w.cell? ⟨g,(k - 1) * 5+3,none⟩=some (.int .i64 (hh:Int))
 cd:w.cell? ⟨g,(k - 1) * 5+4,none⟩=some (.bool dd)
theorem Wk.del {F:Wx} {w:World} {x:Ws} (h:Wk F w x) (hF:F.ref) (h0:0<x.f.length):∃ (g:Nat) (A:Option Addr) (c cf:Nat),Del w F.G g x.f.length A x.s.length c cf x.top.h x.top.dead∧x.sv=.slice A x.s.length c∧x.fv=.slice (some ⟨g,0,none⟩) x.f.length cf:=by
 obtain⟨g,cf,he,h1,h2,h3,h4,t0,t1,t2,t3,t4⟩:=h.tcell h0;obtain⟨A,c,hs,s1,s2⟩:=h.sform;exact⟨g,A,c,cf,⟨by rw[h.d11 hF,hs],by rw[h.d12 hF,he],h0,h1,h2,s1,s2,t3,t4⟩,hs,he⟩
theorem Del.below {w w':World} {G g k:Nat} {A:Option Addr} {n c cf hh:Nat} {dd:Bool} (h:Del w G g k A n c cf hh dd) (hb:Below w.heap.size w w'):Del w' G g k A n c cf hh dd :=
 have lt:∀ {p:Addr} {u:Value},w.cell? p=some u→w'.cell? p=some u:=fun hc=>(hb.cell (wL w _ hc)).trans hc
 ⟨lt h.p11,lt h.p12,h.k0,h.k1,h.k2,h.n1,h.n2,lt h.ch,lt h.cd⟩
def DPopPost (F:Wx) (w:World) (x:Ws) (want:Int) (e:Ending) (w':World):Prop :=
 ∃ (t:Int) (b:Bool) (x':Ws),e=.returned (.tuple #[.int .i64 t,.bool b])∧Wk F w' x'∧Wz F w x w' x'∧x'.f=x.f∧x'.s.length≤x.s.length∧x.top.h≤x'.s.length∧UL x.pl want=if b then some (t,x'.pl) else none
theorem dpop_low {x:Ws} (want:Int) (hh:x.s.length=x.top.h):UL x.pl want=if x.top.dead then some (0,x.pl) else none:=by
 unfold UL;rw[Ws.pl_top];exact if_pos hh
theorem dpop_high {x:Ws} (want:Int) (hh:x.s.length≠x.top.h) (b:Bool) (hb:(want=0∨x.s.getD (x.s.length - 1) 0=0∨x.s.getD (x.s.length - 1) 0=want)↔b=true) (v:Value):UL x.pl want=if b then some (x.s.getD (x.s.length - 1) 0,Ws.pl { x with sv:=v,s:=x.s.take (x.s.length - 1) }) else none:=by
 unfold UL;rw[Ws.pl_top,Ws.pl_s,if_neg (show ¬ x.s.length=x.top.fr.h from hh)];cases b with
 | true=>rw[if_pos (hb.2 rfl)];rfl
 | false=>rw[if_neg (fun h=>by cases hb.1 h)];rfl
theorem dpop_any {F:Wx} {w:World} {x:Ws} (hF:F.ref) (h:Wk F w x) (h0:0<x.f.length) (hs:x.s.length≤1000000) (hh:x.top.h≤x.s.length) (want:Int) :
 Calls Tryz.prog 164 #[.pointer (some ⟨F.G,0,none⟩),.int .i64 want] w (DPopPost F w x want):=by
 obtain⟨g,A,c,cf,hc,hsv,hfv⟩:=h.del hF h0;have HSC:=hD (fun h0=>h.scell h0);have HW:=hD h;have HC:=hD hc;have HF:=hD hF;have HOWN:=hD (fun d hd=>owns_cutS (d:=d) h hsv rfl hd);have HSV:=hD hsv;have HL:=hD (fun hh=>dpop_low (x:=x) want hh);have HG:=hD (fun hh b hb v=>dpop_high (x:=x) want hh b hb v);have p11:=hc.p11;have p12:=hc.p12;have HT:=hD (fun j=>dtop_at (w.drewN j) F.G g x.f.length cf hc.p12 hc.k0 hc.k1 hc.k2);have HHH:=hD hh;obtain⟨n,hn⟩:∃ n,x.s.length=n:=⟨_,rfl⟩;obtain⟨k,hk⟩:∃ k,x.f.length=k:=⟨_,rfl⟩;obtain⟨ht,hht⟩:∃ ht,x.top.h=ht:=⟨_,rfl⟩;obtain⟨dd,hdd⟩:∃ dd,x.top.dead=dd:=⟨_,rfl⟩;have HN:=hD hn;have HHT:=hD hht;clear hsv hfv h hF hc;rw[hn]at HC HSV HOWN hs HSC hh p11 HL HG;rw[hk]at HC h0 HT p12;rw[hht]at HC hh HL HG;rw[hdd]at HC HL;clear hn hk hht hdd;have e1:IntKind.i64.wrap ((n:Int) - 1)=(n:Int) - 1:=IntWalk.i64_in _ (by omega);obtain⟨_,_,_,_,_,n1,n2,ch,cd⟩:=HC.out;by_cases hle:n=ht
 ·have hd:decide ((n:Int)=(ht:Int))=true:=by simp;omega
  have hd':((n:Int)==(ht:Int))=true:=by simp;omega
  have hL:=HL.out hle;have HLL:=hD hL;have HLE:=hD hle;clear hL hle;go_enter Tryz.func164,Tryz.ntmps164;go_wp2_with (go_at_call 50;refine(HT.out 0).mono ?_;rintro e w1 ⟨rfl,mm,rfl⟩)
  go_quiet (fail)
  go_wp2;go_quiet (fail)
  go_wp2
  go_ret2
  refine⟨0,dd,x,rfl,(HW.out.below (Wt (Wt (Wt (bR _ _) _) _) _)).1,(HW.out.below (Wt (Wt (Wt (bR _ _) _) _) _)).2,rfl,nR _,HHH.out,HLL.out⟩
 ·obtain⟨z,hz⟩:∃ z:Nat,n - 1=z:=⟨_,rfl⟩;have e2:IntKind.i64.wrap ((n:Int) - 1)=(z:Int):=by rw[e1];omega
  have hd:((n:Int)==(ht:Int))=false:=by simp;omega
  obtain⟨gs,cs,he,_,_,_,hcs⟩:=HSC.out (by omega);rw[HSV.out]at he;simp only[vI]at he;obtain⟨rfl,-,rfl⟩:=he;have k3:=hcs z (by omega);have hzn:z<n:=by omega
  have hzc:z≤c:=by omega
  have HZ:=hD hz;have HZN:Hid (z≤n):=hD (by omega);have HHZ:Hid (ht≤z):=hD (by omega);have f0:=HW.out.frozen 11;rw[hz]at HG;obtain⟨t,htt⟩:∃ t,x.s.getD z 0=t:=⟨_,rfl⟩;rw[htt]at k3 HG;have HGG:=hD (fun b hb v=>HG.out hle b hb v);have HBW:Hid (∀ wz,Below w.heap.size w wz→wz.cell? ⟨F.G,11,none⟩=some (.slice (some ⟨gs,0,none⟩) n c)):=hD fun wz hz=>(HC.out.below hz).p11;clear hcs e1 hz htt HG HL HSC hle;go_enter Tryz.func164,Tryz.ntmps164;go_wp2_with (go_at_call 50;refine(HT.out 0).mono ?_;rintro e w1 ⟨rfl,mm,rfl⟩)
  go_quiet (fail)
  go_wp2;go_quiet (fail)
  go_upto_region 5 with (fail)
  refine Wm.start (S:=fun wz=>Below w.heap.size w wz) (X:=14) (by kernel_rfl) ?_;show Wm _ _ _ _ _ _ 15 #[false,false,false,false,false,false,false,false,false,false,false,false,false,false,false] _ _;generalize hw2:World.drew _=w2;have hS:Below w.heap.size w w2:=by
   rw[← hw2];first|exact(Wt (Wt (Wt (bR _ _) _) _) _).drew|exact(Wt (Wt (bR _ _) _) _).drew
  clear hw2;refine Wm.tk 0 36 rfl hS ?_;refine Wm.tk 1 37 rfl hS ?_;refine Wm.tk 2 38 rfl hS ?_;refine Wm.tk 3 39 rfl hS ?_;refine Wm.tk 4 40 rfl hS ?_ (hy:=by intro w' hSw;have p0:=HBW.out _ hSw;go_simp;try with_reducible rfl);refine Wm.tk 5 41 rfl hS ?_;refine Wm.tk 6 42 rfl hS ?_;refine Wm.tk 7 43 rfl hS ?_;refine Wm.tk 8 44 rfl hS ?_ (hy:=by intro w' hSw;have p0:=HBW.out _ hSw;go_simp;try with_reducible rfl);refine Wm.tk 9 45 rfl hS ?_;refine Wm.tk 10 46 rfl hS ?_;refine Wm.tk 11 47 rfl hS ?_;refine Wm.om 12 48 rfl fun K hK=>?_;go_simp;refine hK.out _ _ (.inr hS) ?_;clear hK K;try simp only[sA,List.set]
  refine Wm.tk 13 49 rfl hS ?_;refine Wm.on 14 rfl fun K hK=>?_;have hg:=HW.out.below hS;have p0:=HBW.out _ hS;have f0:=hg.1.frozen 11;go_simp;refine hK.out _ _ (.inl rfl) ?_;clear hK K;refine Wm.done (by kernel_rfl) ?_ _;have hst:=hg.1.setS (W:=w2) (w:=w2) (.refl _ _) (.slice (some ⟨gs,0,none⟩) z c) (x.s.take z) (W8 (HOWN.out z HZN.out) hS) (.inl (by rw[HSV.out];rfl));rw[Wx.ref_s HF.out]at hst;have HST:=hD hst.1;have HS2:=hD (hg.2.trans hst.2);clear hst hg p0 f0 hS;have HXL:Hid ((x.s.take z).length≤x.s.length∧ht≤(x.s.take z).length):=hD (by rw[List.length_take,HN.out];have:=HHZ.out;have:=HZN.out;omega);have HDONE:Hid (∀ b,((want=0∨t=0∨t=want)↔b=true)→DPopPost F w x want (.returned (.tuple #[.int .i64 t,.bool b])) (w2.setCell ⟨F.G,11,none⟩ (.slice (some ⟨gs,0,none⟩) z c))):=hD fun b hb =>
   ⟨t,b,_,rfl,HST.out,HS2.out,rfl,HXL.out.1,by rw[HHT.out];exact HXL.out.2,HGG.out b hb (.slice (some ⟨gs,0,none⟩) z c)⟩
  clear HGG HST HS2 HXL HW HC HF HOWN HSV HN HHT HHH HBW HT HZ;by_cases c1:want=0
  ·have d1:(want==0)=true:=by simpa using c1
   have hx:=HDONE.out true (by simp[c1]);have HX:=hD hx;clear hx c1;go_wp2
   go_ret2
   exact HX.out
  ·have d1:(want==0)=false:=by simpa using c1
   by_cases c2:t=0
   ·have d2:(t==0)=true:=by simpa using c2
    have hx:=HDONE.out true (by simp[c2]);have HX:=hD hx;clear hx c1 c2;go_wp2
    go_ret2
    exact HX.out
   ·have d2:(t==0)=false:=by simpa using c2
    by_cases c3:t=want
    ·have d3:(t==want)=true:=by simpa using c3
     have hx:=HDONE.out true (by simp[c3]);have HX:=hD hx;clear hx c1 c2 c3;go_wp2
     go_ret2
     exact HX.out
    ·have d3:(t==want)=false:=by simpa using c3
     have hx:=HDONE.out false (by simp[c1,c2,c3]);have HX:=hD hx;clear hx c1 c2 c3;go_wp2
     go_ret2
     exact HX.out
theorem ddead_any {F:Wx} {w:World} {x:Ws} (hF:F.ref) (h:Wk F w x) (h0:0<x.f.length) (hh:x.top.h≤x.s.length) :
 Calls Tryz.prog 165 #[.pointer (some ⟨F.G,0,none⟩)] w (WPost F w x (.tuple #[]) (fun x'=>x'.s=x.s.take x.top.h∧x'.f=x.deadF)):=by
 obtain⟨g,A,c,cf,hc,hsv,hfv⟩:=h.del hF h0;have HW:=hD h;have HC:=hD hc;have HF:=hD hF;have HH0:=hD h0;have HOWN:=hD (owns_cutS (d:=x.top.h) h hsv rfl hh);have HSV:=hD hsv;have HFV:=hD hfv;have HT:=hD (dtop_at w F.G g x.f.length cf hc.p12 hc.k0 hc.k1 hc.k2);have hdc:x.top.h≤c:=by have:=hc.n1;omega
 have n1:=hc.n1;have n2:=hc.n2;clear hsv hfv h hF hc;obtain⟨n,hn⟩:∃ n,x.s.length=n:=⟨_,rfl⟩;obtain⟨k,hk⟩:∃ k,x.f.length=k:=⟨_,rfl⟩;obtain⟨ht,hht⟩:∃ ht,x.top.h=ht:=⟨_,rfl⟩;have HN:=hD hn;have HK:=hD hk;have HHT:=hD hht;rw[hn]at HC HSV hh n1;rw[hk]at HC h0 HT HFV;rw[hht]at HC hh HOWN hdc ⊢;clear hn hk hht;go_enter Tryz.func165,Tryz.ntmps165
 go_upto_region 1 with (go_at_call 50;refine HT.out.mono ?_;rintro e w1 ⟨rfl,mm,rfl⟩)
 refine Wm.start (S:=fun wz=>Below w.heap.size w wz) (X:=12) (by kernel_rfl) ?_;show Wm _ _ _ _ _ _ 13 #[false,false,false,false,false,false,false,false,false,false,false,false,false] _ _;have hS:Below w.heap.size w (w.drewN mm).drew:=(Wt (bR _ _) mm).drew;generalize (w.drewN mm).drew=w4 at hS ⊢;refine Wm.tk 0 5 rfl hS ?_;refine Wm.tk 1 6 rfl hS ?_;refine Wm.tk 2 7 rfl hS ?_;refine Wm.tk 3 8 rfl hS ?_;refine Wm.tk 4 9 rfl hS ?_ (hy:=by intro w' hSw;have p0:=(HC.out.below hSw).p11;go_simp;try with_reducible rfl);refine Wm.tk 5 10 rfl hS ?_;refine Wm.tk 6 11 rfl hS ?_;refine Wm.tk 7 12 rfl hS ?_;refine Wm.tk 8 13 rfl hS ?_ (hy:=by intro w' hSw;have ch:=(HC.out.below hSw).ch;go_simp;try with_reducible rfl);refine Wm.tk 9 14 rfl hS ?_;refine Wm.om 10 15 rfl fun K hK=>?_;go_simp;refine hK.out _ _ (.inr hS) ?_;clear hK K;try simp only[sA,List.set]
 refine Wm.tk 11 16 rfl hS ?_;refine Wm.on 12 rfl fun K hK=>?_;have hg:=HW.out.below hS;have p0:=(HC.out.below hS).p11;have f0:=hg.1.frozen 11;go_simp;refine hK.out _ _ (.inl rfl) ?_;clear hK K;refine Wm.done (by kernel_rfl) ?_ _;have hst:=hg.1.setS (W:=w4) (w:=w4) (.refl _ _) (.slice A ht c) (x.s.take ht) (W8 HOWN.out hS) (.inl (by rw[HSV.out];cases A <;> rfl))
 rw[Wx.ref_s HF.out]at hst;have HST:=hD hst.1;have HS2:=hD (hg.2.trans hst.2);clear hst hg p0 f0 hS;generalize w4.setCell ⟨F.G,11,none⟩ (.slice A ht c)=w5 at *;obtain⟨g',c',he,_,_,_,hfz,t0,t1,t2,t3,t4⟩:=HST.out.tcell HH0.out;rw[show({ x with sv:=Value.slice A ht c,s:=x.s.take ht }:Ws).fv=x.fv from rfl,HFV.out]at he;rw[show({ x with sv:=Value.slice A ht c,s:=x.s.take ht }:Ws).f.length=k from HK.out]at he t4;simp only[vI,Option.some.injEq,Addr.mk.injEq]at he;obtain⟨⟨rfl,-⟩,-,rfl⟩:=he;have f4:=hfz ((k - 1) * 5+4);have hst2:=HST.out.setDead HH0.out (g:=g) (n:=k) (c:=cf) HFV.out;rw[show({ x with sv:=Value.slice A ht c,s:=x.s.take ht }:Ws).f.length=k from HK.out]at hst2;have HDD:=hD hst2.1;have HS3:=hD (HS2.out.trans hst2.2);clear hst2 hfz t0 t1 t2 t3 HST HS2 HW HC HOWN HT;go_wp2;refine bodyPost_end (results_none rfl _ _ _) rfl ⟨rfl,_,HDD.out,HS3.out,rfl,rfl⟩
end
section
open Go.RowKit
set_option maxHeartbeats 2000000
set_option maxRecDepth 100000
theorem U4 {F:Wx} {w:World} {x:Ws} (hF:F.ref) (h:Wk F w x) (tv:Value) (q:List Int) (hq:Wf (Wq F w x) w tv q) (hb:x.s.length+q.length≤1000000) :
 Calls Tryz.prog 163 #[.pointer (some ⟨F.G,0,none⟩),tv] w (WPost F w x (.tuple #[]) (fun x'=>x'.f=x.f∧x'.s=x.s++q)):=by
 have p11:=h.d11 hF;have HW:=hD h;have HF:=hD hF;have HNQ:Hid (∀ w',Below w.heap.size w w'→UZ w' tv q.length (q.map (Value.int .i64))):=hD fun w' hb=>((h.below hb).2.ints hq).news;have HNS:Hid (∀ w',Below w.heap.size w w'→UZ w' x.sv x.s.length (x.s.map (Value.int .i64))):=hD fun w' hb=>owns_news (W8 h.so hb);have HQL:Hid ((q.map (Value.int .i64)).length=q.length * 1):=hD (by rw[List.length_map,Nat.mul_one]);have HSL:Hid ((x.s.map (Value.int .i64)).length=x.s.length * 1):=hD (by rw[List.length_map,Nat.mul_one]);have HON:=hD (UR q);have HOS:=hD (UR x.s);have HP:Hid (∀ w',Below w.heap.size w w'→w'.cell? ⟨F.G,11,none⟩=some x.sv∧w'.frozen? ⟨F.G,11,none⟩=false):=hD fun w' hb=>⟨(h.below hb).1.d11 hF,(h.below hb).1.frozen 11⟩;obtain⟨A,c,hsv,h1,h2⟩:=h.sform;have HSV:=hD hsv;have hB0:=bR w.heap.size w;obtain⟨p11',f11⟩:=HP.out _ (Wb hB0 (.cells #[] 3));have HB0:=hD hB0;generalize hnn:x.s.length=nn at *;have HNN:=hD hnn;generalize hmm:q.length=mm at *;clear hq h hF hsv hB0 hnn;go_enter Tryz.func163,Tryz.ntmps163;go_wp2_with (first
  | (at_builtin;refine WE rfl (.tmp 5) (.tmp 9) 23 3 rfl _ 1 8 Tryz.underlying23 Tryz.infoInt rfl (by decide) (by decide) (.slice (some ⟨w.heap.size,0,none⟩) 0 0) 0 [] (by rfl) (World.ownsRow_made w #[] 0 (nZ _) (nZ _) rfl) _ nn (x.s.map (Value.int .i64)) (by rfl) HSL.out (HNS.out _ (Wb HB0.out _)) HOS.out (by omega) ?_;intro v3 w3 ho3 hg3 hat3;simp only[Nat.zero_add,List.nil_append]at ho3;have HB3:=hD ((Wb HB0.out (.cells #[] 3)).grown hg3 (by rw[Wj];omega) (fun g hg=>by have hg:some w.heap.size=some g:=hg;simp only[Option.some.injEq]at hg;omega));have HOW3:=hD ho3;have HNW3:Hid (∀ g,v3.ownBlock=some g→w.heap.size≤g):=hD (fun g hg=>by rcases hat3 with h|h;(have h:=h.symm.trans hg;have h:some w.heap.size=some g:=h;simp only[Option.some.injEq]at h;omega);(have h:=h.symm.trans hg;simp only[Option.some.injEq,Wj]at h;omega));obtain⟨A3,c3,rfl⟩:=Wy ho3;clear ho3 hg3 hat3)
  | (at_builtin;refine WE rfl (.tmp 10) (.tmp 11) 23 3 rfl _ 1 8 Tryz.underlying23 Tryz.infoInt rfl (by decide) (by decide) (.slice A3 nn c3) nn (x.s.map (Value.int .i64)) (by rfl) HOW3.out _ mm (q.map (Value.int .i64)) (by rfl) HQL.out (HNQ.out _ HB3.out) HON.out (by omega) ?_;intro v4 w4 ho4 hg4 hat4;have HB4:=hD (HB3.out.grown hg4 HB3.out.size HNW3.out);have HOW4:=hD ho4;have HNW4:Hid (∀ g,v4.ownBlock=some g→w.heap.size≤g):=hD (fun g hg=>by rcases hat4 with h|h;(exact HNW3.out g (h ▸ hg));(have h:=h.symm.trans hg;simp only[Option.some.injEq]at h;have:=HB3.out.size;omega));obtain⟨A4,c4,rfl⟩:=Wy ho4;obtain⟨e4,f4⟩:=HP.out _ HB4.out;clear ho4 hg4 hat4))
 have hst:=HW.out.setS (W:=w) (w:=w4) (.below HB4.out fun k hk=>hk.1) (.slice A4 (nn+mm) c4) (x.s++q) (by rw[List.length_append,List.map_append,HNN.out,hmm];exact HOW4.out) (.inr HNW4.out);rw[Wx.ref_s HF.out]at hst;refine bodyPost_end (results_none rfl _ _ _) rfl ⟨rfl,_,hst.1,hst.2,rfl,rfl⟩
def DPopsPost (F:Wx) (w:World) (x:Ws) (r:Option Pl) (e:Ending) (w':World):Prop :=
 ∃ x',Wk F w' x'∧Wz F w x w' x'∧e=.returned (.bool r.isSome)∧(x'.f=x.f∧x'.s.length≤x.s.length∧x.top.h≤x'.s.length)∧(r.isSome=true→r=some x'.pl)
theorem Ws.top_of {x y:Ws} (h:x.f=y.f):x.top=y.top:=by unfold Ws.top;rw[h]
theorem dpops_snoc (q:List Int) (j:Nat) (hj:j<q.length) (p:Pl):dpopsR (q.take (j+1)).reverse p=(UL p (q.getD j 0)).bind fun r=>dpopsR (q.take j).reverse r.2:=by
 rw[List.take_add_one,List.getElem?_eq_getElem hj];simp only[Option.toList_some,List.reverse_append,List.reverse_cons,List.reverse_nil,List.nil_append,List.singleton_append];rw[dpopsR,List.getD_eq_getElem?_getD,List.getElem?_eq_getElem hj];rfl
theorem VD {F:Wx} {w:World} {x:Ws} (hF:F.ref) (h:Wk F w x) (h0:0<x.f.length) (hs:x.s.length≤1000000) (hh:x.top.h≤x.s.length) (tv:Value) (q:List Int) (hq:Wf (Wq F w x) w tv q) (hql:q.length≤1000000) :
 Calls Tryz.prog 137 #[.pointer (some ⟨F.G,0,none⟩),tv] w (DPopsPost F w x (WC x.pl q)):=by
 obtain⟨At,ct,htv,_,_⟩:=hq.form;have HW:=hD h;have HF:=hD hF;have HQ:=hD hq;have HX:=hD (⟨h0,hs,hh⟩:0<x.f.length∧x.s.length≤1000000∧x.top.h≤x.s.length);rw[htv]at HQ ⊢;obtain⟨R,hR⟩:∃ R,WC x.pl q=R:=⟨_,rfl⟩;rw[hR];have hR0:dpopsR (q.take q.length).reverse x.pl=R:=by rw[List.take_length];exact hR
 have HR:=hD hR0;obtain⟨m,hm⟩:∃ m,q.length=m:=⟨_,rfl⟩;have HM:=hD hm;rw[hm]at HR HQ hql ⊢;clear h hF hq htv h0 hs hh hR hR0 hm;have e1:IntKind.i64.wrap ((m:Int) - 1)=(m:Int) - 1:=IntWalk.i64_in _ (by omega);go_enter Tryz.func137,Tryz.ntmps137;go_wp2_with fail
 go_loopw [5] (fun i wr=>∃ (j:Nat) (y:Ws),j≤m∧i=.int .i64 ((j:Int) - 1)∧Hid (Wk F wr y∧Wz F w x wr y∧y.f=x.f∧y.s.length≤x.s.length∧x.top.h≤y.s.length∧dpopsR (q.take j).reverse y.pl=R)) (fun i _=>(intOf i+1).toNat)
 case atStart=>exact⟨m,x,nR _,rfl,hD ⟨HW.out,.refl _ _ _,rfl,nR _,HX.out.2.2,HR.out⟩⟩
 case round =>
  obtain⟨j,y,hj,rfl,HY⟩:=hrel;by_cases hj0:j=0
  ·subst hj0;have hd:decide ((0:Int)≤((0:Nat):Int) - 1)=false:=by decide
   have hr:R=some y.pl:=by have:=HY.out.2.2.2.2.2;rw[← this];rfl
   subst hr;go_wp2;go_ret;exact⟨y,HY.out.1,HY.out.2.1,rfl,⟨HY.out.2.2.1,HY.out.2.2.2.1,HY.out.2.2.2.2.1⟩,fun _=>rfl⟩
  ·obtain⟨k,rfl⟩:∃ k,j=k+1:=⟨j - 1,by omega⟩;have ei:((k+1:Nat):Int) - 1=(k:Int):=by omega
   rw[ei];have hd:decide ((0:Int)≤(k:Int))=true:=by simp
   have hkm:k<m:=hj;have hqy:=HY.out.2.1.ints HQ.out;obtain⟨gl,ol,c2,he,_,_⟩:=hqy.some_ (by rw[HM.out];omega);rw[HM.out]at he;simp only[vI]at he;obtain⟨rfl,-,rfl⟩:=he;have k2:=hqy.at_ k (by omega);have hst:=dpops_snoc q k (by rw[HM.out];exact hkm) y.pl;rw[HY.out.2.2.2.2.2]at hst;obtain⟨z,hz⟩:∃ z,q.getD k 0=z:=⟨_,rfl⟩;rw[hz]at k2 hst;have HST:=hD hst;have hpp:=dpop_any HF.out HY.out.1 (by rw[HY.out.2.2.1];exact HX.out.1) (by have:=HY.out.2.2.2.1;have:=HX.out.2.1;omega) (by rw[Ws.top_of HY.out.2.2.1];exact HY.out.2.2.2.2.1) z;have HPP:=hD hpp;have e3:IntKind.i64.wrap ((k:Int) - 1)=(k:Int) - 1:=IntWalk.i64_in _ (by omega);clear hst hz hpp hqy hj0 ei
   go_upto_region 5 with (go_at_call 164;refine HPP.out.mono ?_;rintro e w1 ⟨t,b,y1,rfl,g1,s1,f1,l1,t1,r1⟩;have HY1:=hD (⟨g1,s1,f1,l1,t1,r1⟩:Wk F w1 y1∧Wz F _ y w1 y1∧y1.f=y.f∧y1.s.length≤y.s.length∧y.top.h≤y1.s.length∧_);clear g1 s1 f1 l1 t1 r1)
   cases b with
   | false =>
    have hr:R=none:=by rw[HST.out,HY1.out.2.2.2.2.2];rfl
    subst hr;go_wp2;go_ret;exact⟨y1,HY1.out.1,HY.out.2.1.trans HY1.out.2.1,rfl,⟨HY1.out.2.2.1.trans HY.out.2.2.1,Nat.le_trans HY1.out.2.2.2.1 HY.out.2.2.2.1,by rw[← Ws.top_of HY.out.2.2.1];exact HY1.out.2.2.2.2.1⟩,fun hx=>by cases hx⟩
   | true =>
    have hr:R=dpopsR (q.take k).reverse y1.pl:=by rw[HST.out,HY1.out.2.2.2.2.2];rfl
    have HRR:=hD hr;clear hr;go_wp2;go_roundw
    case rel=>exact⟨k,y1,by omega,rfl,hD ⟨HY1.out.1,HY.out.2.1.trans HY1.out.2.1,HY1.out.2.2.1.trans HY.out.2.2.1,Nat.le_trans HY1.out.2.2.2.1 HY.out.2.2.2.1,by rw[← Ws.top_of HY.out.2.2.1];exact HY1.out.2.2.2.2.1,HRR.out.symm⟩⟩
    case measure=>simp[intOf]
end
end Go.Proofs.YtmfpnfdinoofpaaGreatDoor
