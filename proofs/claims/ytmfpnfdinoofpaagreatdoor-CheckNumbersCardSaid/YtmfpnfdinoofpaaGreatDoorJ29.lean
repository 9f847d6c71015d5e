/- A part of the proof. -/
import Derived.Test.YtmfpnfdinoofpaaGreatDoorJ24
import Derived.Test.YtmfpnfdinoofpaaGreatDoorJ25
namespace Go.Proofs.YtmfpnfdinoofpaaGreatDoor
section
theorem Zde {P:Prop}(h:P:=by
 show some p=(WI p []).map fun q=>Vg q [];rw[takeC_nil];show some p=some (Vg p []);rw[giveC_nil]):P:=h
def dlocC (e:U5) (x:Vl):Int:=e.lo.getD x.a.toNat 0
def dgloC (e:U5) (x:Vl):Int×Bool×Int:=e.m.globs.getD x.a.toNat glob0
def dplainC (e:U5) (p:Pl) (x:Vl):Option Pl :=
 if x.op=26 then (UL p 0).map Prod.snd
 else if x.op=27 then U6 p
 else if x.op=32 then some (Vg p [dlocC e x])
 else if x.op=33 then WC p [dlocC e x]
 else if x.op=34 then VL p [dlocC e x] [dlocC e x]
 else if x.op=35 then some (Vg p [(dgloC e x).1])
 else if x.op=36 then (if (dgloC e x).2.1 then WC p [(dgloC e x).1] else none)
 else if x.op=63 then some (Vg p [127])
 else if x.op=64 then VL p [127] [127]
 else if x.op=64520∨x.op=64522∨x.op=64523 then WC p [127,127,127]
 else some p
def dsigC (e:U5) (x:Vl):List Int×List Int:=(WB e.m x.a).getD ([],[])
def dleaveC (e:U5) (p:Pl) (x:Vl):Option Pl :=
 if x.op=12 then (WC p (Ww p x.a.toNat)).map VP
 else if x.op=13 then (WC p [127]).bind fun q=>VL q (Ww p x.a.toNat) (Ww p x.a.toNat)
 else if x.op=14 then (UJ p x.l).map VP
 else if x.op=15 then (WC p e.ro).map VP
 else if x.op=16 then VL p (dsigC e x).1 (dsigC e x).2
 else (WC p (dsigC e x).1).bind fun q=>if (dsigC e x).2=e.ro then some (VP q) else none
def dblkC (e:U5) (x:Vl):List Int×List Int:=(Wv e.m x.a).getD ([],[])
def dcontrolC (e:U5) (p:Pl) (x:Vl):Option Pl :=
 if x.op=0 then some (VP p)
 else if x.op=2∨x.op=3∨x.op=4 then (if x.op=4 then WC p [127] else some p).bind fun q=>(WC q (dblkC e x).1).map fun r=>WY r x.op (dblkC e x).1 (dblkC e x).2
 else if x.op=5 then (Uz p).map fun q=>WY q.2 5 q.1.ps q.1.rs
 else if x.op=11 then (Uz p).bind fun q=>if q.1.op=4∧q.1.ps≠q.1.rs then none else some (Vg q.2 q.1.rs)
 else if x.op=12∨x.op=13∨x.op=14∨x.op=15∨x.op=16∨x.op=18 then dleaveC e p x
 else some p
def U8 (e:U5) (p:Pl) (x:Vl):Option Pl :=
 if WS x.op then VL p (Vw x.op) (Vf x.op)
 else if 0<(WK x.op).1 then (if 54≤x.op∧x.op≤62 then WC p [127,(WK x.op).2.1] else VL p [127] [(WK x.op).2.1])
 else if WZ x.op≠0 then VL p [] [WZ x.op]
 else if x.op≤18 then dcontrolC e p x
 else dplainC e p x
def restGB (op:Int):Bool:=![2,3,4,5,11,0,12,14,15,18,26,27,36,13,16,32,33,34,35,63,64,64520,64522,64523].contains op
theorem restGB_is {op:Int} (h:restGB op=true):restG op∧restF op:=by
 unfold restGB at h;simp only[Bool.not_eq_true',List.contains_eq_mem,decide_eq_false_iff_not,List.mem_cons,List.not_mem_nil,or_false,not_or]at h;unfold restG restF;omega
theorem num_class (op:Int):WS op=true→restGB op=true∧WZ op=0 :=
 VO (fun op=>WS op=true→restGB op=true∧WZ op=0) (by decide +kernel) (by decide +kernel) (fun op h e=>by rw[far_num op h]at e;cases e) op
theorem acc_class (op:Int):0<(WK op).1→restGB op=true∧WZ op=0∧WS op=false∧(WK op).2.2.2=true∧op≤62 :=
 VO (fun op=>0<(WK op).1→restGB op=true∧WZ op=0∧WS op=false∧(WK op).2.2.2=true∧op≤62) (by decide +kernel) (by decide +kernel) (fun op h e=>by rw[far_acc op h]at e;exact absurd e (by decide)) op
theorem acc_pos1 (op:Int):(WK op).2.2.2=true→0<(WK op).1 :=
 VO (fun op=>(WK op).2.2.2=true→0<(WK op).1) (by decide +kernel) (by decide +kernel) (fun op h e=>by rw[far_acc op h]at e;cases e) op
theorem const_class (op:Int):WZ op≠0→restGB op=true :=
 VO (fun op=>WZ op≠0→restGB op=true) (by decide +kernel) (by decide +kernel) (fun op h e=>absurd (far_const op h) e) op
theorem dgives_eq {p:Pl} (hh:(WT p.f).h≤p.s.length) {a b:List Int} (h:nz a):VL p a b=(WI p a).map fun q=>Vg q b:=by
 unfold VL;rw[Vk p a h hh]
theorem giveC_nil (p:Pl):Vg p []=p:=by unfold Vg;rw[List.append_nil]
theorem give_only {p:Pl} (b:List Int):some (Vg p b)=(WI p []).map fun q=>Vg q b:=by rw[takeC_nil];rfl
theorem take_only {p:Pl} (a:List Int):WI p a=(WI p a).map fun q=>Vg q []:=by
 cases WI p a with
 | none=>rfl
 | some q=>show some q=some (Vg q []);rw[giveC_nil]
theorem leave_eq {p:Pl} (hh:(WT p.f).h≤p.s.length) {a:List Int} (h:nz a):(WC p a).map VP=Vo p a:=by
 unfold Vo;rw[Vk p a h hh]
theorem dead_is {p:Pl}:some (VP p)=Vo p []:=by unfold Vo;rw[takeC_nil];rfl
theorem nz127:nz [127]:=Ud (by decide)
theorem dplainC_eq {e:U5} {p:Pl} {x:Vl} {n:Nat} (he:EnvNz e) (hi:Ur n p) (h0:0<p.f.length) (hz:VS p) (hx:Wo e p x=true) (hop:18<x.op) (hf:V0 x.op=([],[])):dplainC e p x=Wu e p x:=by
 have hh:=(hi.top h0).1;have hloc:x.op=32∨x.op=33∨x.op=34→nz [dlocC e x]:=fun ho=>by
  have h2:Wi x.a e.lo.length=true:=by
   rcases ho with ho|ho|ho <;> (unfold Wo at hx;simp[ho]at hx;exact hx)
  exact Ud (he.lo _ (WA _ _ _ (withinB_lt h2).2))
 have hglo:x.op=36→nz [(dgloC e x).1]:=fun ho=>by
  have h2:Wi x.a e.m.globs.length=true:=by unfold Wo at hx;simp[ho]at hx;exact hx
  exact Ud (he.gl _ (WA _ _ _ (withinB_lt h2).2))
 unfold dplainC Wu;rw[if_neg (show ¬ (x.op=2∨x.op=3∨x.op=4) by omega),if_neg (show ¬ x.op=5 by omega),if_neg (show ¬ x.op=11 by omega),if_neg (show ¬ x.op=0 by omega),if_neg (show ¬ x.op=12 by omega),if_neg (show ¬ x.op=14 by omega),if_neg (show ¬ x.op=15 by omega),if_neg (show ¬ x.op=18 by omega)];by_cases c1:x.op=26
 ·rw[if_pos c1,if_pos c1,dpopC_pop p hh]
 rw[if_neg c1,if_neg c1];by_cases c2:x.op=27
 ·rw[if_pos c2,if_pos c2,dchooseC_eq p hh (hz.low hi h0)]
 rw[if_neg c2,if_neg c2];by_cases c3:x.op=36
 ·rw[if_neg (show ¬ x.op=32 by omega),if_neg (show ¬ x.op=33 by omega),if_neg (show ¬ x.op=34 by omega),if_neg (show ¬ x.op=35 by omega),if_pos c3,if_pos c3,Vk p _ (hglo c3) hh];rfl
 rw[if_neg c3,if_neg c3];unfold Vi;rw[if_neg (show ¬ x.op=13 by omega),if_neg (show ¬ x.op=16 by omega)];by_cases c4:x.op=32
 ·rw[if_pos c4,if_pos c4];exact give_only _
 rw[if_neg c4,if_neg c4];by_cases c5:x.op=33
 ·rw[if_pos c5,if_pos c5,Vk p _ (hloc (.inr (.inl c5))) hh];exact take_only _
 rw[if_neg c5,if_neg c5];by_cases c6:x.op=34
 ·rw[if_pos c6,if_pos c6,dgives_eq hh (hloc (.inr (.inr c6)))];rfl
 rw[if_neg c6,if_neg c6];by_cases c7:x.op=35
 ·rw[if_pos c7,if_pos c7];exact give_only _
 rw[if_neg c7,if_neg c7];by_cases c8:x.op=63
 ·rw[if_pos c8,if_pos c8];exact give_only _
 rw[if_neg c8,if_neg c8];by_cases c9:x.op=64
 ·rw[if_pos c9,if_pos c9,dgives_eq hh nz127]
 rw[if_neg c9,if_neg c9];by_cases c10:x.op=64520∨x.op=64522∨x.op=64523
 ·rw[if_pos c10,if_pos c10,Vk p _ (by simp) hh];exact take_only _
 rw[if_neg c10,if_neg c10,hf];exact Zde
theorem dcontrolC_eq {e:U5} {p:Pl} {x:Vl} {n:Nat} (he:EnvNz e) (hi:Ur n p) (h0:0<p.f.length) (hz:VS p) (hop:x.op≤18) (hf:V0 x.op=([],[])) (hk:0≤x.op):dcontrolC e p x=Wu e p x:=by
 have hh:=(hi.top h0).1;have hrs:nz (WT p.f).rs:=(hz.fr _ (WA _ _ _ (by omega))).2;by_cases hg:restG x.op
 ·rw[restG_is e p x hg];unfold restG at hg;unfold dcontrolC;rw[if_neg (show ¬ x.op=0 by omega),if_neg (show ¬ (x.op=2∨x.op=3∨x.op=4) by omega),if_neg (show ¬ x.op=5 by omega),if_neg (show ¬ x.op=11 by omega)];by_cases c9:x.op=13
  ·have hE:Vi e p x=(Ww p x.a.toNat++[127],Ww p x.a.toNat):=by unfold Vi;rw[if_pos c9]
   rw[hE,if_pos (by omega)];unfold dleaveC;rw[if_neg (show ¬ x.op=12 by omega),if_pos c9,Vk p _ nz127 hh];show _=(WI p (Ww p x.a.toNat++[127])).map _;rw[takeC_snoc _ _ _ hh];cases ht:WI p [127] with
   | none=>rfl
   | some q=>exact dgives_eq (U2 ht hh).2 (labelC_nz hz _)
  by_cases c10:x.op=16
  ·have hE:Vi e p x=dsigC e x:=by unfold Vi;rw[if_neg c9,if_pos c10];rfl
   rw[hE,if_pos (by omega)];unfold dleaveC;rw[if_neg (show ¬ x.op=12 by omega),if_neg c9,if_neg (show ¬ x.op=14 by omega),if_neg (show ¬ x.op=15 by omega),if_pos c10];exact dgives_eq hh (show nz (dsigC e x).1 from (he.sig x.a).1)
  have hE:Vi e p x=([],[]):=by
   rw[restF_is e p x (by unfold restF;omega),hf]
  rw[hE,if_neg (by omega)];exact Zde
 have hgg:x.op=2∨x.op=3∨x.op=4∨x.op=5∨x.op=11∨x.op=0∨x.op=12∨x.op=14∨x.op=15∨x.op=18:=by unfold restG at hg;omega
 unfold dcontrolC Wu;by_cases c1:x.op=0
 ·rw[if_pos c1,if_neg (by omega),if_neg (show ¬ x.op=5 by omega),if_neg (show ¬ x.op=11 by omega),if_pos c1];exact dead_is
 rw[if_neg c1];by_cases c2:x.op=2∨x.op=3∨x.op=4
 ·rw[if_pos c2,if_pos c2];unfold openC;rw[Vk p _ nz127 hh];have hb:nz (dblkC e x).1∧nz (dblkC e x).2:=he.block x.a;by_cases c4:x.op=4
  ·rw[if_pos c4];cases ht:WI p [127] with
   | none=>rfl
   | some q =>
    obtain⟨h1,h2⟩:=U2 ht hh;show(WC q _).map _=(WI q _).map _;rw[Vk q _ hb.1 h2];rfl
  ·rw[if_neg c4];show(WC p _).map _=(WI p _).map _;rw[Vk p _ hb.1 hh];rfl
 rw[if_neg c2,if_neg c2];by_cases c3:x.op=5
 ·rw[if_pos c3,if_pos c3,dshutC_eq p hrs hh];rfl
 rw[if_neg c3,if_neg c3];by_cases c4:x.op=11
 ·rw[if_pos c4,if_pos c4,dshutC_eq p hrs hh];rfl
 rw[if_neg c4,if_neg c4,if_neg c1];unfold dleaveC;by_cases c5:x.op=12
 ·rw[if_pos (.inl c5),if_pos c5,if_pos c5,leave_eq hh (labelC_nz hz _)]
 rw[if_neg c5];by_cases c6:x.op=14
 ·rw[if_pos (by omega),if_pos c6,if_neg (show ¬ x.op=12 by omega),if_neg (show ¬ x.op=13 by omega),if_pos c6];exact dtableC_eq p x.l hz.fr hh
 rw[if_neg c6];by_cases c7:x.op=15
 ·rw[if_pos (by omega),if_pos c7,if_neg (show ¬ x.op=12 by omega),if_neg (show ¬ x.op=13 by omega),if_neg c6,if_pos c7,leave_eq hh he.ro]
 rw[if_neg c7];by_cases c8:x.op=18
 ·rw[if_pos (by omega),if_pos c8,if_neg (show ¬ x.op=12 by omega),if_neg (show ¬ x.op=13 by omega),if_neg c6,if_neg c7,if_neg (show ¬ x.op=16 by omega)];rw[Vk p _ (show nz (dsigC e x).1 from (he.sig x.a).1) hh];show _=if (dsigC e x).2=e.ro then Vo p (dsigC e x).1 else none;unfold Vo;show(WI p (dsigC e x).1).bind _=_;by_cases hr:(dsigC e x).2=e.ro
  ·simp only[if_pos hr];cases WI p (dsigC e x).1 <;> rfl
  ·simp only[if_neg hr];cases WI p (dsigC e x).1 <;> rfl
 omega
theorem dtypedC_eq {e:U5} {p:Pl} {x:Vl} {n:Nat} (he:EnvNz e) (hi:Ur n p) (h0:0<p.f.length) (hz:VS p) (hx:Wo e p x=true) (hk:0≤x.op):U8 e p x=Wu e p x:=by
 have hh:=(hi.top h0).1;have hrest:∀ h:restGB x.op=true,Wu e p x=(WI p (V0 x.op).1).map fun q=>Vg q (V0 x.op).2:=fun h=>by
  rw[restG_is e p x (restGB_is h).1,restF_is e p x (restGB_is h).2]
 unfold U8;by_cases c1:WS x.op=true
 ·obtain⟨h1,h2⟩:=num_class _ c1;rw[if_pos c1,hrest h1,dgives_eq hh (params_nz _)];unfold V0;rw[if_neg (by rw[h2];simp),if_pos c1]
 rw[if_neg c1];by_cases c2:0<(WK x.op).1
 ·obtain⟨h1,h2,h3,h4,h5⟩:=acc_class _ c2;have ht:=acc_nz _ h4;rw[if_pos c2,hrest h1];have hfx:V0 x.op=(if 54≤x.op then ([127,(WK x.op).2.1],[]) else ([127],[(WK x.op).2.1])):=by unfold V0;rw[if_neg (by rw[h2];simp),if_neg c1,if_pos h4]
  rw[hfx];by_cases c3:54≤x.op
  ·rw[if_pos ⟨c3,h5⟩,if_pos c3,Vk p [127,(WK x.op).2.1] (nz_app (a:=[127]) nz127 (Ud ht)) hh];exact take_only _
  ·rw[if_neg (fun h=>c3 h.1),if_neg c3,dgives_eq hh nz127]
 rw[if_neg c2];by_cases c3:WZ x.op≠0
 ·rw[if_pos c3,hrest (const_class _ c3),dgives_eq hh VX];unfold V0;rw[if_pos c3]
 rw[if_neg c3];have hf:V0 x.op=([],[]):=by
  unfold V0;rw[if_neg c3,if_neg c1,if_neg (fun h=>c2 (acc_pos1 _ h))]
 by_cases c4:x.op≤18
 ·rw[if_pos c4];exact dcontrolC_eq he hi h0 hz c4 hf hk
 ·rw[if_neg c4];exact dplainC_eq he hi h0 hz hx (by omega) hf
end
section
def insL (a:Int):Vl:=⟨a,0,0,0,[]⟩
def mDead (a o:Int):Vt:=⟨[([],[])],[],[⟨0,[],[insL a,insL o,insL 26,insL 11]⟩],[],[],[],[],[]⟩
theorem dead_known:Uq (mDead 65 106) 0 2=(1,14)∧UW (mDead 0 106) 1=0∧UW (mDead 0 106) 3=1∧UW ⟨[],[],[],[],[],[],[],[]⟩ 1=0:=by decide +kernel
end
section
open Go.RowKit
set_option maxHeartbeats 4000000
set_option maxRecDepth 100000
def wxD (G:Nat) (v:Mv) (m:Vt) (prof:Int) (lov:Value) (lo:List Int) (rv:Value) (ro:List Int):Wx:=⟨G,true,120,122,v,m,prof,lov,lo,rv,ro,none⟩
theorem dwk_start (w:World) (v:Mv) (m:Vt) (prof:Int) (lov:Value) (lo:List Int) (rv:Value) (ro:List Int) (hm:W7 (fun k=>k<w.heap.size) w v m) (hl:Wf (fun k=>k<w.heap.size) w lov lo) (hr:Wf (fun k=>k<w.heap.size) w rv ro) :
 Wk (wxD w.heap.size v m prof lov lo rv ro) (w.alloc (.cells (WN (wxD w.heap.size v m prof lov lo rv ro) ws0) 120)) ws0∧∀ k,k<w.heap.size→Wq (wxD w.heap.size v m prof lov lo rv ro) (w.alloc (.cells (WN (wxD w.heap.size v m prof lov lo rv ro) ws0) 120)) ws0 k:=by
 have hfr:∀ k,k<w.heap.size→Wq (wxD w.heap.size v m prof lov lo rv ro) (w.alloc (.cells (WN (wxD w.heap.size v m prof lov lo rv ro) ws0) 120)) ws0 k:=fun k hk=>by
  exact ZcU
 have hb:=Wb (bR w.heap.size w) (.cells (WN (wxD w.heap.size v m prof lov lo rv ro) ws0) 120);have hk:We (fun k=>k<w.heap.size) w (w.alloc (.cells (WN (wxD w.heap.size v m prof lov lo rv ro) ws0) 120)):=We.below hb fun _ hk=>hk;exact Zb6
def wsD (g:Nat) (rv:Value) (ro:List Int):Ws:=⟨.slice none 0 0,.slice (some ⟨g,0,none⟩) 1 1,[],[⟨0,.slice none 0 0,rv,[],ro,0,false⟩]⟩
theorem dwk_first {G:Nat} {v:Mv} {m:Vt} {prof:Int} {lov rv:Value} {lo ro:List Int} {W:World} (h:Wk (wxD G v m prof lov lo rv ro) W ws0) :
 Wk (wxD G v m prof lov lo rv ro) ((W.alloc (.cells #[.int .i64 0,.slice none 0 0,rv,.int .i64 0,.bool false] 122)).setCell ⟨G,12,none⟩ (.slice (some ⟨W.heap.size,0,none⟩) 1 1)) (wsD W.heap.size rv ro)∧Wz (wxD G v m prof lov lo rv ro) W ws0 ((W.alloc (.cells #[.int .i64 0,.slice none 0 0,rv,.int .i64 0,.bool false] 122)).setCell ⟨G,12,none⟩ (.slice (some ⟨W.heap.size,0,none⟩) 1 1)) (wsD W.heap.size rv ro):=by
 have hG:G<W.heap.size:=(Array.getElem?_eq_some_iff.1 h.hg).1;have hb:=Wb (bR W.heap.size W) (.cells #[.int .i64 0,.slice none 0 0,rv,.int .i64 0,.bool false] 122);have hM:∀ k,Wq (wxD G v m prof lov lo rv ro) W ws0 k→Wq (wxD G v m prof lov lo rv ro) (W.alloc (.cells #[.int .i64 0,.slice none 0 0,rv,.int .i64 0,.bool false] 122)) (wsD W.heap.size rv ro) k:=fun k hk=>⟨Ve hk.1 hb.size,by
  rintro(e|e|e|e)
  ·exact hk.2 (.inl e)
  ·cases e
  ·have e:W.heap.size=k:=Option.some.inj e;have:=hk.1;omega
  ·cases e⟩
 have hK:We (Wq (wxD G v m prof lov lo rv ro) W ws0) W (W.alloc (.cells #[.int .i64 0,.slice none 0 0,rv,.int .i64 0,.bool false] 122)):=We.below hb fun _ hk=>hk.1;exact Wk.store (F:=wxD G v m prof lov lo rv ro) (x:=ws0) (x':=wsD W.heap.size rv ro) h (We.below hb fun _ hk=>hk.1) 12 _ rfl (World.ownsRow_nil _ _ _ _) (fun g hg=>(by cases hg))
  ⟨rfl,.inr ⟨W.heap.size,1,_,rfl,nZ _,Vj W _,nR _,(by show 1≤maxLen;decide),rfl,rfl⟩⟩
  (fun g hg=>(by
   have e:W.heap.size=g:=Option.some.inj hg;show g≠G;omega))
  (fun k hk=>(by
   rcases hk with e|e|e|e
   ·exact .inl (.inl e)
   ·cases e
   ·have e:W.heap.size=k:=Option.some.inj e;exact .inr (by omega)
   ·cases e))
  ⟨h.reads.mod.keep hK hM,h.reads.loc.keep hK hM,h.reads.own.keep hK hM,fun f hf=>(by
   rw[List.mem_singleton.1 hf];exact⟨Wf.nil _ _,h.reads.own.keep hK hM⟩)⟩ fun g e=>(by cases e)
def DBegPost (v:Mv) (m:Vt) (f prof:Int) (w:World) (e:Ending) (w':World):Prop :=
 ∃ F x,F.ref∧F.v=v∧F.m=m∧F.env=UI m f.toNat prof∧e=.returned (.pointer (some ⟨F.G,0,none⟩))∧Wk F w' x∧x.pl=WY ⟨[],[]⟩ 0 [] F.ro∧(∀ k,k<w.heap.size→Wq F w' x k)∧Below w.heap.size w w'
theorem dbeg_end {w W4:World} {G:Nat} {v:Mv} {m:Vt} {f prof:Int} {lov rv:Value} {ro lo:List Int} (hlo:(UI m f.toNat prof).lo=lo) (hro:(UI m f.toNat prof).ro=ro) (hb:Below w.heap.size w W4)
 (hg:Wk (wxD G v m prof lov lo rv ro) W4 ws0) (hfr:∀ k,k<w.heap.size→Wq (wxD G v m prof lov lo rv ro) W4 ws0 k) :
 DBegPost v m f prof w (.returned (.pointer (some ⟨G,0,none⟩))) ((W4.alloc (.cells #[.int .i64 0,.slice none 0 0,rv,.int .i64 0,.bool false] 122)).setCell ⟨G,12,none⟩ (.slice (some ⟨W4.heap.size,0,none⟩) 1 1)):=by
 obtain⟨g,s⟩:=dwk_first hg;refine⟨_,_,⟨rfl,rfl,rfl⟩,rfl,rfl,?_,rfl,g,rfl,fun k hk=>s.mono k (hfr k hk),hb.trans (s.keeps.to_below hfr)⟩;show(⟨m,prof,lo,ro⟩:U5)=_;rw[← hro,← hlo];rfl
theorem dbeg_any (w:World) (v:Mv) (m:Vt) (h:W7 (fun k=>k<w.heap.size) w v m) (hs:Vq m) (f:Nat) (hf:f<m.funs.length) (t:List Int×List Int) (ht:WB m ((m.imps.length:Int)+(f:Int))=some t) (prof:Int) :
 Calls Tryz.prog 49 #[.agg v.cells,.int .i64 (f:Int),.int .i64 prof] w (DBegPost v m (f:Int) prof w):=by
 have hro:(UI m (f:Int).toNat prof).ro=t.2:=by show((WB m _).getD ([],[])).2=t.2;rw[Int.toNat_natCast,ht];rfl
 have hlo:(UI m (f:Int).toNat prof).lo=locB m ((m.imps.length:Int)+(f:Int)):=by show locB m _=_;rw[Int.toNat_natCast]
 obtain⟨fi,hfi⟩:∃ fi:Int,fi=(m.imps.length:Int)+(f:Int):=⟨_,rfl⟩;have hs1:=hs.2.1;have hs2:=hs.2.2.1;rw[← hfi]at ht hlo;have HRO:=hD hro;have HLO:=hD hlo;have HSG:=hD (fun wz (hb:Below w.heap.size w wz)=>ht ▸ dsig_any wz v m (h.keep (We.below hb fun _ hk=>hk) fun _ hk=>Ve hk hb.size) hs fi);have HLC:=hD (fun wz (hb:Below w.heap.size w wz)=>dlocals_any wz v m (h.keep (We.below hb fun _ hk=>hk) fun _ hk=>Ve hk hb.size) hs fi);generalize locB m fi=lo at HLC HLO;have HMA:=hD (fun wz (hb:Below w.heap.size w wz)=>(h.keep (We.below hb fun _ hk=>hk) fun _ hk=>Ve hk hb.size:W7 (fun k=>k<wz.heap.size) wz v m));obtain⟨A0,c0,A1,c1,A2,c2,A3,c3,A4,c4,A5,c5,A6,c6,A7,c7,rfl⟩:=Wr h;simp only[Mv.cells]at HSG HLC ⊢;clear h hs;obtain⟨⟨n0,hn0⟩,⟨n1,hn1⟩,⟨n2,hn2⟩,⟨n3,hn3⟩,⟨n4,hn4⟩,⟨n5,hn5⟩,⟨n6,hn6⟩,⟨n7,hn7⟩⟩:=len8 m;rw[hn0,hn1,hn2,hn3,hn4,hn5,hn6,hn7]at HSG HLC HMA ⊢;rw[hn1]at hfi hs1;rw[hn2]at hs2;have e1:IntKind.i64.wrap ((n1:Int)+(f:Int))=fi:=by rw[← hfi];exact IntWalk.i64_in _ (by omega)
 obtain⟨W,hW,hbw,HB8⟩:=Vv w (.slice A0 n0 c0) (.slice A1 n1 c1) (.slice A2 n2 c2) (.slice A3 n3 c3) (.slice A4 n4 c4) (.slice A5 n5 c5) (.slice A6 n6 c6) (.slice A7 n7 c7);have HBW:=hD hbw;have HB8:=hD HB8;have HW:=hD hW;obtain⟨b0,b1,b2,b3,b4,b5,b6,b7⟩:=HB8.out W (bR _ _);clear hbw hW hn0 hn1 hn2 hn3 hn4 hn5 hn6 hn7 hs1 hs2 hfi hf ht hro hlo;go_enter Tryz.func49,Tryz.ntmps49
 go_upto_region 1 with (fail)
 rw[← HW.out]
 go_upto_region 3 with (first|(go_at_call 77;refine(HSG.out W HBW.out).mono ?_;rintro e w1 ⟨pv,rv,rfl,hp,hr,hb1⟩;obtain⟨Ap,cp,rfl,_,_⟩:=hp.form;obtain⟨Ar,cr,rfl,_,_⟩:=hr.form;have HB1:=hD hb1;have HRV:=hD hr;clear hp hr hb1))
 obtain⟨W2,hW2⟩:∃ W2,W2=w1.alloc (.cells #[.slice Ap t.1.length cp,.slice Ar t.2.length cr] 40):=⟨_,rfl⟩;have HB2:Hid (Below W.heap.size W W2):=hD (hW2 ▸ Wb HB1.out _);have HB12:Hid (Below w1.heap.size w1 W2):=hD (hW2 ▸ Wb (bR _ _) _);have HZ:Hid (∀ wz,Below W2.heap.size W2 wz→wz.cell? ⟨w1.heap.size,1,none⟩=some (.slice Ar t.2.length cr)∧Box8 wz w.heap.size (.slice A0 n0 c0) (.slice A1 n1 c1) (.slice A2 n2 c2) (.slice A3 n3 c3) (.slice A4 n4 c4) (.slice A5 n5 c5) (.slice A6 n6 c6) (.slice A7 n7 c7)):=hD fun wz hz=>by
  exact ZcR
 rw[← hW2];clear hW2 b0 b1 b2 b3 b4 b5 b6 b7;obtain⟨z1,b0,b1,b2,b3,b4,b5,b6,b7⟩:=HZ.out W2 (bR _ _)
 go_region_held3 (fun wz=>wz.cell? ⟨w1.heap.size,1,none⟩=some (.slice Ar t.2.length cr)∧wz.cell? ⟨w.heap.size,0,none⟩=some (.slice A0 n0 c0)∧wz.cell? ⟨w.heap.size,1,none⟩=some (.slice A1 n1 c1)∧wz.cell? ⟨w.heap.size,2,none⟩=some (.slice A2 n2 c2)∧wz.cell? ⟨w.heap.size,3,none⟩=some (.slice A3 n3 c3)∧wz.cell? ⟨w.heap.size,4,none⟩=some (.slice A4 n4 c4)∧wz.cell? ⟨w.heap.size,5,none⟩=some (.slice A5 n5 c5)∧wz.cell? ⟨w.heap.size,6,none⟩=some (.slice A6 n6 c6)∧wz.cell? ⟨w.heap.size,7,none⟩=some (.slice A7 n7 c7))
  (first|go_keep|exact⟨z1,b0,b1,b2,b3,b4,b5,b6,b7⟩|exact HX3.out)
  ((go_at_call 85;refine(HLC.out _ (Wa HBW.out (Wa HB2.out ((bR _ _).drew)))).mono ?_;rintro e w3 ⟨lov3,rfl,hl3,hb3⟩;obtain⟨Al,cl,rfl,_,_⟩:=hl3.form;have HL3:=hD hl3;have HB3:=hD (Wa ((bR W2.heap.size W2).drew) hb3);have HX3:=hD (HZ.out _ HB3.out);clear hl3 hb3))
 clear z1 b0 b1 b2 b3 b4 b5 b6 b7;obtain⟨W4,hW4⟩:∃ W4,W4=w3.alloc (.cells #[.slice A0 n0 c0,.slice A1 n1 c1,.slice A2 n2 c2,.slice A3 n3 c3,.slice A4 n4 c4,.slice A5 n5 c5,.slice A6 n6 c6,.slice A7 n7 c7,.int .i64 prof,.slice Al lo.length cl,.slice Ar t.2.length cr,.slice none 0 0,.slice none 0 0] 120):=⟨_,rfl⟩;have hb23:Below W.heap.size W w3:=Wa HB2.out HB3.out;have hr3:Wf (fun k=>k<w3.heap.size) w3 (.slice Ar t.2.length cr) t.2:=HRV.out.keep (We.below (HB12.out.trans (HB3.out.mono HB12.out.size)) fun k hk=>by rcases hk with hk|hk;exact Ve hk HB1.out.size;exact hk.2) fun k hk=>by
  have h1:=HB12.out.size;have h2:=HB3.out.size;have h3:=HB1.out.size;rcases hk with hk|hk
  ·omega
  ·omega
 have hst:=dwk_start w3 _ m prof (.slice Al lo.length cl) lo (.slice Ar t.2.length cr) t.2 (HMA.out w3 (Wa HBW.out hb23)) (HL3.out.keep (.refl _ _) fun _ hk=>hk.2) hr3;have HST:=hD (show Wk _ W4 ws0∧∀ k,k<w3.heap.size→Wq _ W4 ws0 k by rw[hW4];exact hst);have HW4:=hD hW4;have hz4:=HZ.out W4 (Wa HB3.out (hW4 ▸ Wb (bR _ _) _));have HZ4:=hD hz4;have z1:=hz4.1;have HB23:=hD hb23;have HLT:Hid (w1.heap.size<w3.heap.size):=hD (Ve (wL W2 _ (HZ.out W2 (bR _ _)).1) HB3.out.size);rw[← HW4.out];clear hst hr3 hb23 hW4 hz4;have hb5:=Wb (bR W4.heap.size W4) (.cells #[.int .i64 0,.slice none 0 0,.slice Ar t.2.length cr,.int .i64 0,.bool false] 122);have x12:(W4.alloc (.cells #[.int .i64 0,.slice none 0 0,.slice Ar t.2.length cr,.int .i64 0,.bool false] 122)).cell? ⟨w3.heap.size,12,none⟩=some (.slice none 0 0):=(HST.out.1.below hb5).1.cell 12;have y12:(W4.alloc (.cells #[.int .i64 0,.slice none 0 0,.slice Ar t.2.length cr,.int .i64 0,.bool false] 122)).frozen? ⟨w3.heap.size,12,none⟩=false:=(HST.out.1.below hb5).1.frozen 12;clear hb5;go_wp2;go_ret;have hsz:w.heap.size≤w3.heap.size:=(Wa HBW.out HB23.out).size;exact dbeg_end HLO.out HRO.out (by rw[HW4.out];exact Wb (Wa HBW.out HB23.out) _) HST.out.1 (fun k hk=>HST.out.2 k (by omega))
end
section
def V6 (e:U5) (p:Pl) (x:Vl):Bool :=
 if WF x.op then (Wv e.m x.a).isSome
 else if x.op=12∨x.op=13 then Wi x.a p.f.length
 else if x.op=14 then x.l.all (fun n=>Wi n p.f.length)
 else if x.op=16∨x.op=18 then (WB e.m x.a).isSome
 else if 32≤x.op∧x.op≤34 then decide (x.a<e.lo.length)
 else if x.op=35∨x.op=36 then decide (x.a<e.m.globs.length)
 else if x.op=64520 then decide (x.a<e.m.mems.length) && decide (x.b<e.m.datas.length)
 else if x.op=64521 then decide (x.a<e.m.datas.length)
 else if x.op=64522 then decide (x.a<e.m.mems.length) && decide (x.b<e.m.mems.length)
 else if 0<(WK x.op).1∨x.op=63∨x.op=64∨x.op=64523 then decide (x.a<e.m.mems.length)
 else true
theorem VW {n:Int} {l:Nat} (h:0≤n):decide (n<(l:Int))=Wi n l:=by
 unfold Wi;rw[decide_eq_true h];rfl
theorem fields_nn (op:Int):¬ (2≤op∧op≤4)→0≤(Wp op).1:=by
 have H:∀ (c:Prop) [Decidable c] (a b:Int×Int×Int×Int×Int×Int),0≤a.1→0≤b.1→0≤(if c then a else b).1:=fun c _ a b ha hb=>by
  by_cases h:c
  ·rw[if_pos h];exact ha
  ·rw[if_neg h];exact hb
 intro hn;unfold Wp;rw[if_neg hn]
 repeat' (first|decide|refine H _ _ _ ?_ ?_)
theorem ins_nn {x:Vl} (h:WX x=true):(¬ (2≤x.op∧x.op≤4)→0≤x.a)∧0≤x.b∧(x.op=14→0<x.l.length)∧W9 x.op=true:=by
 unfold WX insB inB at h;simp only[Bool.and_eq_true,decide_eq_true_eq]at h;obtain⟨⟨⟨⟨⟨hk,ha⟩,hb⟩,_⟩,hl⟩,_⟩:=h;refine⟨fun hn=>Int.le_trans (fields_nn _ hn) ha.1,hb.1,fun ho=>?_,hk⟩;have:(Wp 14).2.2.2.2.1=1:=by decide +kernel
 rw[ho,this]at hl;omega
theorem acc_range (op:Int):0<(WK op).1→40≤op∧op≤62:=by
 intro h;by_cases c:40≤op∧op≤62
 ·exact c
 ·unfold WK at h;rw[if_neg c]at h;exact absurd h (by decide)
theorem dindex_eq (e:U5) (p:Pl) {x:Vl} (hi:WX x=true):V6 e p x=Wo e p x:=by
 obtain⟨ha,hb,hl,_⟩:=ins_nn hi;have hac:=acc_range x.op;unfold V6 Wo;by_cases c1:WF x.op=true
 ·rw[if_pos c1,if_pos (by unfold WF at c1;have:=of_decide_eq_true c1;omega)]
 rw[if_neg c1];have c1':¬ (2≤x.op∧x.op≤4):=fun h=>c1 (decide_eq_true h);have ha:=ha c1';rw[if_neg (show ¬ (x.op=2∨x.op=3∨x.op=4) by omega)];by_cases c2:x.op=12∨x.op=13
 ·rw[if_pos c2,if_pos c2]
 rw[if_neg c2,if_neg c2];by_cases c3:x.op=14
 ·rw[if_pos c3,if_pos c3,decide_eq_true (hl c3),Bool.and_true]
 rw[if_neg c3,if_neg c3];by_cases c4:x.op=16∨x.op=18
 ·rw[if_pos c4,if_pos c4]
 rw[if_neg c4,if_neg c4];by_cases c5:32≤x.op∧x.op≤34
 ·rw[if_pos c5,if_pos (show x.op=32∨x.op=33∨x.op=34 by omega),VW ha]
 rw[if_neg c5,if_neg (show ¬ (x.op=32∨x.op=33∨x.op=34) by omega)];by_cases c6:x.op=35∨x.op=36
 ·rw[if_pos c6,if_pos c6,VW ha]
 rw[if_neg c6,if_neg c6];by_cases c7:x.op=63∨x.op=64∨x.op=64523
 ·rw[if_neg (show ¬ x.op=64520 by omega),if_neg (show ¬ x.op=64521 by omega),if_neg (show ¬ x.op=64522 by omega),if_pos (.inr c7),if_pos c7,VW ha]
 rw[if_neg c7];by_cases c8:x.op=64520
 ·rw[if_pos c8,if_pos c8,VW ha,VW hb]
 rw[if_neg c8,if_neg c8];by_cases c9:x.op=64521
 ·rw[if_pos c9,if_neg (show ¬ x.op=64522 by omega),if_pos c9,VW ha]
 rw[if_neg c9];by_cases c10:x.op=64522
 ·rw[if_pos c10,if_pos c10,VW ha,VW hb]
 rw[if_neg c10,if_neg c10,if_neg c9];by_cases c11:0<(WK x.op).1
 ·rw[if_pos (.inl c11),(acc_class _ c11).2.2.2.1,VW ha];rfl
 ·rw[if_neg (by rintro(h|h);exact c11 h;exact c7 h)];cases h4:(WK x.op).2.2.2 with
  | true=>exact absurd (acc_pos1 _ h4) c11
  | false=>rfl
def VB (e:U5) (p:Pl) (x:Vl):Int×Pl :=
 if e.prof=1∧richI x=true then (24,p)
 else if V6 e p x=false then (23,p)
 else match U8 e p x with
  | none=>(14,p)
  | some q=>(0,q)
theorem dstep_eq {e:U5} {p:Pl} {x:Vl} {n:Nat} (he:EnvNz e) (hi:Ur n p) (h0:0<p.f.length) (hz:VS p) (hx:WX x=true) (hk:0≤x.op) (hp:Vc p x.op=true):VB e p x=Vr e p x:=by
 unfold VB Vr;rw[if_neg (show ¬ Vc p x.op=false by rw[hp];decide),dindex_eq e p hx];by_cases c1:e.prof=1∧richI x=true
 ·rw[if_pos c1,if_pos c1]
 rw[if_neg c1,if_neg c1];cases hc:Wo e p x with
 | false=>rfl
 | true =>
  rw[if_neg (by decide),if_neg (by decide),dtypedC_eq he hi h0 hz hc hk];cases Wu e p x <;> rfl
def UU (f:Fr):Fr:={ f with op:=if f.op=2 then 0 else f.op }
def Uf (p:Pl):Pl:=⟨p.s,p.f.map UU⟩
theorem normF_op3 (f:Fr):(UU f).op=3↔f.op=3:=by
 unfold UU;simp only;split <;> omega
theorem normF_op4 (f:Fr):(UU f).op=4↔f.op=4:=by
 unfold UU;simp only;split <;> omega
theorem normF_idem (f:Fr):UU (UU f)=UU f:=by
 unfold UU;simp only;by_cases h:f.op=2
 ·simp[h]
 ·simp[h]
theorem npl_len (p:Pl):(Uf p).f.length=p.f.length:=by unfold Uf;simp
theorem getD_norm (f:List Fr) (k:Nat):(f.map UU).getD k fr0=UU (f.getD k fr0):=by
 rw[List.getD_eq_getElem?_getD,List.getD_eq_getElem?_getD,List.getElem?_map];cases f[k]? <;> rfl
theorem topF_norm (f:List Fr):WT (f.map UU)=UU (WT f):=by
 unfold WT;rw[List.length_map,getD_norm]
theorem labelC_norm (p:Pl) (n:Nat):Ww (Uf p) n=Ww p n:=by
 unfold Ww;rw[npl_len];show(if ((p.f.map UU).getD _ fr0).op=3 then _ else _)=_;rw[getD_norm];by_cases h:(p.f.getD (p.f.length - 1 - n) fr0).op=3
 ·rw[if_pos ((normF_op3 _).2 h),if_pos h];show((p.f.map UU).getD _ fr0).ps=_;rw[getD_norm];rfl
 ·rw[if_neg (fun h'=>h ((normF_op3 _).1 h')),if_neg h];show((p.f.map UU).getD _ fr0).rs=_;rw[getD_norm];rfl
theorem Ux (p:Pl) (q:List Int):WI (Uf p) q=(WI p q).map Uf:=by
 unfold WI Uf;simp only[topF_norm];show(if Vm (WT p.f).h (WT p.f).dead p.s q=true then some (⟨p.s.take (max (p.s.length - q.length) (WT p.f).h),_⟩:Pl) else none)=_
 split <;> rfl
theorem deadC_norm (p:Pl):VP (Uf p)=Uf (VP p):=by
 unfold VP Uf;simp only[topF_norm,List.length_map,List.map_set];rfl
theorem leaveC_norm (p:Pl) (q:List Int):Vo (Uf p) q=(Vo p q).map Uf:=by
 unfold Vo;rw[Ux,Option.map_map,Option.map_map]
 congr 1
 funext r
 exact deadC_norm r
theorem popC_norm (p:Pl):UD (Uf p)=(UD p).map fun q=>(q.1,Uf q.2):=by
 unfold UD Uf;simp only[topF_norm];show(if p.s.length≤(WT p.f).h then (if (WT p.f).dead=true then _ else _) else _)=_
 split
 ·split <;> rfl
 ·rfl
theorem finishC_norm (p:Pl):VT (Uf p)=(VT p).map fun q=>(UU q.1,Uf q.2):=by
 unfold VT;rw[show WT (Uf p).f=UU (WT p.f) from topF_norm p.f];show(WI (Uf p) (WT p.f).rs).bind _=_;rw[Ux];cases WI p (WT p.f).rs with
 | none=>rfl
 | some p1 =>
  show(if p1.s.length≤(WT p.f).h then _ else _)=Option.map _ (if p1.s.length≤(WT p.f).h then _ else _)
  split
  ·unfold Uf;simp only[List.length_map,List.map_take,Option.map_some]
  ·rfl
theorem giveC_norm (p:Pl) (q:List Int):Vg (Uf p) q=Uf (Vg p q):=rfl
theorem beginC_norm (p:Pl) (op:Int) (a b:List Int):Uf (WY (Uf p) op a b)=Uf (WY p op a b):=by
 unfold WY Uf;simp only[List.map_append,List.map_map]
 congr 2
 exact List.map_congr_left fun f _=>normF_idem f
theorem Ta (p:Pl):Uf (Uf p)=Uf p:=by
 unfold Uf;simp only[List.map_map]
 congr 1
 exact List.map_congr_left fun f _=>normF_idem f
theorem map_npl {r:Option Pl}:(r.map Uf).map Uf=r.map Uf:=by
 cases r with
 | none=>rfl
 | some q=>show some _=some _;rw[Ta]
theorem existsC_norm (e:U5) (p:Pl) (x:Vl):Wo e (Uf p) x=Wo e p x:=by unfold Wo;rw[npl_len]
theorem inPlaceC_norm (p:Pl) (op:Int):Vc (Uf p) op=Vc p op:=by
 unfold Vc;rw[npl_len,show WT (Uf p).f=UU (WT p.f) from topF_norm p.f]
 split
 ·rfl
 ·split
  ·exact decide_eq_decide.2 (normF_op4 _)
  ·rfl
theorem effectC_norm (e:U5) (p:Pl) (x:Vl):Vi e (Uf p) x=Vi e p x:=by unfold Vi;rw[labelC_norm]
theorem U7 {c:Prop} [Decidable c] {a b a' b':Option Pl} (h1:c→a.map Uf=a'.map Uf) (h2:¬ c→b.map Uf=b'.map Uf):(if c then a else b).map Uf=(if c then a' else b').map Uf:=by
 by_cases h:c
 ·rw[if_pos h,if_pos h];exact h1 h
 ·rw[if_neg h,if_neg h];exact h2 h
theorem followC_norm (e:U5) (p:Pl) (x:Vl):(Wu e (Uf p) x).map Uf=(Wu e p x).map Uf:=by
 unfold Wu;rw[labelC_norm,effectC_norm];refine U7 (fun _=>?_) (fun _=>?_)
 ·unfold openC;have hb:∀ q:Pl,(Option.map Uf ((WI (Uf q) ((Wv e.m x.a).getD ([],[])).1).map fun p2=>WY p2 x.op ((Wv e.m x.a).getD ([],[])).1 ((Wv e.m x.a).getD ([],[])).2))=Option.map Uf ((WI q ((Wv e.m x.a).getD ([],[])).1).map fun p2=>WY p2 x.op ((Wv e.m x.a).getD ([],[])).1 ((Wv e.m x.a).getD ([],[])).2):=fun q=>by
   rw[Ux];cases WI q ((Wv e.m x.a).getD ([],[])).1 with
   | none=>rfl
   | some r=>show some _=some _;rw[beginC_norm]
  split
  ·rw[Ux];cases WI p [127] with
   | none=>rfl
   | some q=>exact hb q
  ·exact hb p
 refine U7 (fun _=>?_) (fun _=>?_)
 ·unfold divideC;rw[finishC_norm];cases VT p with
  | none=>rfl
  | some q=>show some _=some _;exact congrArg some (beginC_norm q.2 5 q.1.ps q.1.rs)
 refine U7 (fun _=>?_) (fun _=>?_)
 ·unfold closeC;rw[finishC_norm];cases VT p with
  | none=>rfl
  | some q =>
   show Option.map Uf (if (UU q.1).op=4∧q.1.ps≠q.1.rs then none else some (Vg (Uf q.2) q.1.rs))=Option.map Uf (if q.1.op=4∧q.1.ps≠q.1.rs then none else some (Vg q.2 q.1.rs));by_cases h:q.1.op=4∧q.1.ps≠q.1.rs
   ·rw[if_pos ⟨(normF_op4 _).2 h.1,h.2⟩,if_pos h]
   ·rw[if_neg (fun h'=>h ⟨(normF_op4 _).1 h'.1,h'.2⟩),if_neg h];show some _=some _;rw[giveC_norm,Ta]
 refine U7 (fun _=>?_) (fun _=>?_)
 ·rw[leaveC_norm,map_npl]
 refine U7 (fun _=>?_) (fun _=>?_)
 ·rw[leaveC_norm,map_npl]
 refine U7 (fun _=>?_) (fun _=>?_)
 ·unfold Uw;rw[Ux];cases WI p [127] with
  | none=>rfl
  | some q =>
   show Option.map Uf (if _ then Vo (Uf q) _ else none)=_;simp only[labelC_norm,show WT (Uf q).f=UU (WT q.f) from topF_norm q.f];show Option.map Uf (if (x.l.all fun n=>_ && Vm (WT q.f).h (WT q.f).dead q.s (Ww q n.toNat))=true then _ else none)=Option.map Uf (if _ then _ else none);rw[leaveC_norm]
   split
   ·exact map_npl
   ·rfl
 refine U7 (fun _=>?_) (fun _=>?_)
 ·rw[leaveC_norm,map_npl]
 refine U7 (fun _=>?_) (fun _=>?_)
 ·split
  ·rw[leaveC_norm,map_npl]
  ·rfl
 refine U7 (fun _=>?_) (fun _=>?_)
 ·rw[popC_norm];cases UD p with
  | none=>rfl
  | some q=>show some _=some _;rw[Ta]
 refine U7 (fun _=>?_) (fun _=>?_)
 ·unfold Uu;rw[Ux];cases WI p [127] with
  | none=>rfl
  | some q =>
   show Option.map Uf ((UD (Uf q)).bind _)=Option.map Uf ((UD q).bind _);rw[popC_norm];cases UD q with
   | none=>rfl
   | some u =>
    show Option.map Uf ((UD (Uf u.2)).bind _)=Option.map Uf ((UD u.2).bind _);rw[popC_norm];cases UD u.2 with
    | none=>rfl
    | some l =>
     show Option.map Uf (if UE l.1 u.1=true then some (Vg (Uf l.2) [u.1]) else none)=Option.map Uf (if UE l.1 u.1=true then some (Vg l.2 [u.1]) else none)
     split
     ·show some _=some _;rw[giveC_norm,Ta]
     ·rfl
 refine U7 (fun _=>?_) (fun _=>?_)
 ·split
  ·rw[Ux,map_npl]
  ·rfl
 ·rw[Ux];cases WI p (Vi e p x).1 with
  | none=>rfl
  | some q=>exact congrArg some (Ta (Vg q (Vi e p x).2))
theorem stepC_norm (e:U5) (p:Pl) (x:Vl):(Vr e (Uf p) x).1=(Vr e p x).1∧Uf (Vr e (Uf p) x).2=Uf (Vr e p x).2:=by
 have hf:=followC_norm e p x;unfold Vr;rw[inPlaceC_norm,existsC_norm]
 split
 ·exact⟨rfl,Ta p⟩
 split
 ·exact⟨rfl,Ta p⟩
 split
 ·exact⟨rfl,Ta p⟩
 cases h1:Wu e (Uf p) x with
 | none =>
  rw[h1]at hf;cases h2:Wu e p x with
  | none=>exact⟨rfl,Ta p⟩
  | some q=>rw[h2]at hf;cases hf
 | some q1 =>
  rw[h1]at hf;cases h2:Wu e p x with
  | none=>rw[h2]at hf;cases hf
  | some q=>rw[h2]at hf;exact⟨rfl,Option.some.inj hf⟩
theorem stepC_same (e:U5) {p q:Pl} (h:Uf p=Uf q) (x:Vl):(Vr e p x).1=(Vr e q x).1∧Uf (Vr e p x).2=Uf (Vr e q x).2:=by
 obtain⟨h1,h2⟩:=stepC_norm e p x;obtain⟨h3,h4⟩:=stepC_norm e q x;rw[h]at h1 h2;exact⟨h1.symm.trans h3,h2.symm.trans h4⟩
end
end Go.Proofs.YtmfpnfdinoofpaaGreatDoor
