/- A part of the proof. -/
import Derived.Test.YtmfpnfdinoofpaaGreatDoorJ37
import Derived.Test.YtmfpnfdinoofpaaGreatDoorJ38
namespace Go.Proofs.YtmfpnfdinoofpaaGreatDoor
section
open Go.RowKit
set_option maxHeartbeats 4000000
set_option maxRecDepth 100000
def BegNo (z:Int) (w:World) (e:Ending) (w':World):Prop:=e=.returned (.tuple #[.pointer none,.int .i64 z])∧Below w.heap.size w w'
theorem beg_arg (w:World) (v:Mv) (m:Vt) (h:W7 (fun k=>k<w.heap.size) w v m) (f:Int) (hwi:Wi f m.funs.length=false) (prof:Int) :
 Calls Tryz.prog 46 #[.agg v.cells,.int .i64 f,.int .i64 prof] w (BegNo 1 w):=by
 obtain⟨A0,c0,A1,c1,A2,c2,A3,c3,A4,c4,A5,c5,A6,c6,A7,c7,rfl⟩:=Wr h;simp only[Mv.cells]at ⊢;clear h;obtain⟨⟨n0,hn0⟩,⟨n1,hn1⟩,⟨n2,hn2⟩,⟨n3,hn3⟩,⟨n4,hn4⟩,⟨n5,hn5⟩,⟨n6,hn6⟩,⟨n7,hn7⟩⟩:=len8 m;rw[hn0,hn1,hn2,hn3,hn4,hn5,hn6,hn7];rw[hn2]at hwi;obtain⟨W,hW,hbw,HB8⟩:=Vv w (.slice A0 n0 c0) (.slice A1 n1 c1) (.slice A2 n2 c2) (.slice A3 n3 c3) (.slice A4 n4 c4) (.slice A5 n5 c5) (.slice A6 n6 c6) (.slice A7 n7 c7);have HBW:=hD hbw;have HB8:=hD HB8;have HW:=hD hW;obtain⟨b0,b1,b2,b3,b4,b5,b6,b7⟩:=HB8.out W (bR _ _);clear hbw hW hn0 hn1 hn2 hn3 hn4 hn5 hn6 hn7;go_enter Tryz.func46,Tryz.ntmps46
 go_upto_region 1 with (fail)
 rw[← HW.out];go_wp2_with (go_at_call 79;refine(V7 _ _ _).mono ?_;rintro e w1 ⟨rfl,rfl⟩;rw[hwi])
 go_ret2
 exact⟨rfl,HBW.out⟩
theorem beg_index (w:World) (v:Mv) (m:Vt) (h:W7 (fun k=>k<w.heap.size) w v m) (hs:Vq m) (f:Nat) (hf:f<m.funs.length) (ht:WB m ((m.imps.length:Int)+(f:Int))=none) (prof:Int) :
 Calls Tryz.prog 46 #[.agg v.cells,.int .i64 (f:Int),.int .i64 prof] w (BegNo 23 w):=by
 have hwi:Wi (f:Int) m.funs.length=true:=by unfold Wi;simp;omega
 obtain⟨fi,hfi⟩:∃ fi:Int,fi=(m.imps.length:Int)+(f:Int):=⟨_,rfl⟩;have hs1:=hs.2.1;have hs2:=hs.2.2.1;have hfb : -9223372036854775808≤fi∧fi≤9223372036854775807:=by omega
 rw[← hfi]at ht;have HSG:=hD (fun wz (hb:Below w.heap.size w wz)=>ht ▸ sig_any wz v m (h.keep (We.below hb fun _ hk=>hk) fun _ hk=>Ve hk hb.size) hs fi hfb);obtain⟨A0,c0,A1,c1,A2,c2,A3,c3,A4,c4,A5,c5,A6,c6,A7,c7,rfl⟩:=Wr h;simp only[Mv.cells]at HSG ⊢;clear h hs;obtain⟨⟨n0,hn0⟩,⟨n1,hn1⟩,⟨n2,hn2⟩,⟨n3,hn3⟩,⟨n4,hn4⟩,⟨n5,hn5⟩,⟨n6,hn6⟩,⟨n7,hn7⟩⟩:=len8 m;rw[hn0,hn1,hn2,hn3,hn4,hn5,hn6,hn7]at HSG ⊢;rw[hn1]at hfi hs1;rw[hn2]at hwi hs2;have e1:IntKind.i64.wrap ((n1:Int)+(f:Int))=fi:=by rw[← hfi];exact IntWalk.i64_in _ (by omega)
 obtain⟨W,hW,hbw,HB8⟩:=Vv w (.slice A0 n0 c0) (.slice A1 n1 c1) (.slice A2 n2 c2) (.slice A3 n3 c3) (.slice A4 n4 c4) (.slice A5 n5 c5) (.slice A6 n6 c6) (.slice A7 n7 c7);have HBW:=hD hbw;have HB8:=hD HB8;have HW:=hD hW;obtain⟨b0,b1,b2,b3,b4,b5,b6,b7⟩:=HB8.out W (bR _ _);clear hbw hW hn0 hn1 hn2 hn3 hn4 hn5 hn6 hn7 hs1 hs2 hfi hfb hf ht;go_enter Tryz.func46,Tryz.ntmps46
 go_upto_region 1 with (fail)
 rw[← HW.out]
 go_upto_region 4 with (first|(go_at_call 79;refine(V7 _ _ _).mono ?_;rintro e w1 ⟨rfl,rfl⟩;rw[hwi]))
 go_wp2_with (first|(go_at_call 52;refine(HSG.out W HBW.out).mono ?_;rintro e w1 ⟨pv,rv,rfl,hp,hr,hb1⟩;obtain⟨Ap,cp,rfl,_,_⟩:=hp.form;obtain⟨Ar,cr,rfl,_,_⟩:=hr.form;have HB1:=hD hb1;clear hp hr hb1))
 go_ret2
 exact⟨rfl,Wa HBW.out (Wb HB1.out _)⟩
theorem func_no {w:World} {v:Mv} {m:Vt} (h:W7 (fun k=>k<w.heap.size) w v m) (f prof z:Int) (hz:z=1∨z=23) (HB:∀ wz,Below w.heap.size w wz→Calls Tryz.prog 46 #[.agg v.cells,.int .i64 f,.int .i64 prof] wz (BegNo z wz)) :
 Calls Tryz.prog 21 #[.agg v.cells,.int .i64 f,.int .i64 prof] w (FuncPost (-1,z) w):=by
 have HBG:=hD HB;clear HB;obtain⟨A0,c0,A1,c1,A2,c2,A3,c3,A4,c4,A5,c5,A6,c6,A7,c7,rfl⟩:=Wr h;simp only[Mv.cells]at HBG ⊢;clear h;obtain⟨⟨n0,hn0⟩,⟨n1,hn1⟩,⟨n2,hn2⟩,⟨n3,hn3⟩,⟨n4,hn4⟩,⟨n5,hn5⟩,⟨n6,hn6⟩,⟨n7,hn7⟩⟩:=len8 m;rw[hn0,hn1,hn2,hn3,hn4,hn5,hn6,hn7]at HBG ⊢;obtain⟨W,hW,hbw,HB8⟩:=Vv w (.slice A0 n0 c0) (.slice A1 n1 c1) (.slice A2 n2 c2) (.slice A3 n3 c3) (.slice A4 n4 c4) (.slice A5 n5 c5) (.slice A6 n6 c6) (.slice A7 n7 c7);have HBW:=hD hbw;have HB8:=hD HB8;have HW:=hD hW;obtain⟨b0,b1,b2,b3,b4,b5,b6,b7⟩:=HB8.out W (bR _ _);clear hbw hW hn0 hn1 hn2 hn3 hn4 hn5 hn6 hn7;have hz1:(z != 0)=true:=by rcases hz with rfl|rfl <;> rfl
 clear hz;go_enter Tryz.func21,Tryz.ntmps21
 go_upto_region 1 with (fail)
 rw[← HW.out];go_wp2_with (first|(go_at_call 46;refine(HBG.out W HBW.out).mono ?_;rintro e w1 ⟨rfl,hb1⟩;have HB1:=hD hb1;clear hb1))
 go_ret2
 exact⟨rfl,Wa HBW.out HB1.out⟩
theorem func_any {good:Vl→Prop} (HS:StepsOk good) (w:World) (v:Mv) (m:Vt) (h:W7 (fun k=>k<w.heap.size) w v m) (hs:Vq m) (hty:∀ t ∈ m.types,t.1.length≤8∧t.2.length≤8) (f:Int) (prof:Int) (hcl:∀ f ∈ m.funs,f.code.length≤65536∧∀ i ∈ f.code,good i) :
 Calls Tryz.prog 21 #[.agg v.cells,.int .i64 f,.int .i64 prof] w (FuncPost (Uq m f prof) w):=by
 have hk:=fun wz (hb:Below w.heap.size w wz)=>(h.keep (We.below hb fun _ hk=>hk) fun _ hk=>Ve hk hb.size:W7 (fun k=>k<wz.heap.size) wz v m);cases hwi:Wi f m.funs.length with
 | false =>
  have e:Uq m f prof=(-1,1):=by unfold Uq;rw[if_pos hwi]
  rw[e];exact func_no h f prof 1 (.inl rfl) fun wz hb=>beg_arg wz v m (hk wz hb) f hwi prof
 | true =>
  obtain⟨k,rfl,hkl⟩:∃ k:Nat,f=(k:Int)∧k<m.funs.length:=by
   unfold Wi at hwi;rw[Bool.and_eq_true]at hwi;have h1:=of_decide_eq_true hwi.1;have h2:=of_decide_eq_true hwi.2;exact⟨f.toNat,by omega,by omega⟩
  cases ht:WB m ((m.imps.length:Int)+(k:Int)) with
  | none =>
   have e:Uq m (k:Int) prof=(-1,23):=by unfold Uq;rw[if_neg (by rw[hwi];decide),ht,if_pos (by rfl)]
   rw[e];exact func_no h _ prof 23 (.inr rfl) fun wz hb=>beg_index wz v m (hk wz hb) hs k hkl ht prof
  | some t =>
   have hm:=WA m.funs k WW hkl;exact func_ok HS w v m h hs hty k hkl t ht prof (hcl _ hm).1 (hcl _ hm).2
end
section
open Go.RowKit
set_option maxHeartbeats 4000000
set_option maxRecDepth 100000
theorem effect_34 {F:Wx} {w:World} {x:Ws} (hF:F.prg) (h:Wk F w x) (k:Nat) (hk:k<F.lo.length) (a b n:Int) (ha:a=(k:Int)) (Al:Option Addr) (nl cl:Nat) :
 Calls Tryz.prog 130 #[.pointer (some ⟨F.G,0,none⟩),.agg #[.int .i64 34,.int .i64 a,.int .i64 b,.int .u64 n,.slice Al nl cl]] w (Uv ([F.lo.getD k 0],[F.lo.getD k 0]) w):=by
 subst ha;obtain⟨W,hW⟩:∃ W,W=w.alloc (.cells #[.int .i64 34,.int .i64 (k:Int),.int .i64 b,.int .u64 n,.slice Al nl cl] 25):=⟨_,rfl⟩;have k0:W.cell? ⟨w.heap.size,0,none⟩=some (.int .i64 34):=by rw[hW,wN];rfl
 have k1:W.cell? ⟨w.heap.size,1,none⟩=some (.int .i64 (k:Int)):=by rw[hW,wN];rfl
 have hb:Below w.heap.size w W:=hW ▸ (bR _ _).alloc (nR _) _;have hg:=(h.below hb).1;obtain⟨gl,ol,cl2,hlv,hml,_⟩:=hg.reads.loc.some_ (by omega);have hlo:=hg.reads.loc;rw[hlv]at hlo;have c1:=hlo.at_ k hk;have p1:=(hg.q hF).2.2.2.2.1;rw[hlv]at p1;generalize F.lo.getD k 0=t at c1 ⊢;have HW:=hD hW;have HB:=hD hb;clear hW hb hg hlv hlo h hF;generalize F.lo.length=m at *;have hk0:decide ((0:Int)≤(k:Int))=true:=by simp
 have hk1:decide ((k:Int)<(m:Int))=true:=by simp;omega
 go_enter Tryz.func130,Tryz.ntmps130
 go_upto_region 1 with (fail)
 rw[← HW.out]
 go_upto_region 13 with (fail)
 clear k0
 go_region_held3 (fun wz=>wz.cell? ⟨F.G,11,none⟩=some (.slice (some ⟨gl,ol,none⟩) m cl2)∧wz.cell? ⟨w.heap.size,1,none⟩=some (.int .i64 (k:Int))∧wz.cell? ⟨gl,ol+k,none⟩=some (.int .i64 t))
  (first|go_keep|exact⟨p1,k1,c1⟩)
  (fail)
 all_goals
  have hb2:=Wb HB.out (.cells #[.int .i64 t] 3);have i1:=WH w HB.out t;have i2:=WH w hb2 t;have hbx:=Wb (bR (W.alloc (.cells #[.int .i64 t] 3)).heap.size (W.alloc (.cells #[.int .i64 t] 3))) (.cells #[.int .i64 t] 3);have hbd:=(bR ((W.alloc (.cells #[.int .i64 t] 3)).alloc (.cells #[.int .i64 t] 3)).heap.size ((W.alloc (.cells #[.int .i64 t] 3)).alloc (.cells #[.int .i64 t] 3))).drew;have i1':=i1.keep (K':=fun k=>w.heap.size≤k∧k<((W.alloc (.cells #[.int .i64 t] 3)).alloc (.cells #[.int .i64 t] 3)).drew.heap.size) (We.below (Wa hbx hbd) fun _ hk=>hk.2) fun _ hk=>⟨hk.1,Ve hk.2 (Wa hbx hbd).size⟩;have i2':=i2.keep (K':=fun k=>w.heap.size≤k∧k<((W.alloc (.cells #[.int .i64 t] 3)).alloc (.cells #[.int .i64 t] 3)).drew.heap.size) (We.below hbd fun _ hk=>hk.2) fun _ hk=>⟨hk.1,Ve hk.2 hbd.size⟩;rw[Wj]at i2';have HFIN:=hD (⟨i1',i2',Wa (Wb hb2 (.cells #[.int .i64 t] 3)) hbd⟩:_∧_∧_);clear hb2 i1 i2 i1' i2' hbx hbd p1 k1 c1;go_wp2
  go_ret2
  first|exact⟨_,_,rfl,HFIN.out.1,HFIN.out.2.1,HFIN.out.2.2⟩|exact⟨_,_,rfl,HFIN.out.2.1,HFIN.out.1,HFIN.out.2.2⟩
end
section
theorem drop_here {α:Type} (l:List α) (k:Nat) (d:α) (h:k<l.length):l.drop k=l.getD k d :: l.drop (k+1):=by
 rw[List.drop_eq_getElem_cons h,List.getD_eq_getElem?_getD,List.getElem?_eq_getElem h];rfl
theorem dwalkC_at {e:U5} {l:List Vl} {k:Nat} {p:Pl} (h:k<l.length):dwalkC e (l.drop k) k p=if (VB e p (l.getD k Un)).1=0 then dwalkC e (l.drop (k+1)) (k+1) (VB e p (l.getD k Un)).2 else ((k:Int),(VB e p (l.getD k Un)).1):=by
 rw[drop_here l k Un h,dwalkC]
def DReach (code:List Vl) (k:Nat) (q:Pl):Prop :=
 ∃ s p,V1 (code.map Vl.op) 0 k=some s∧FI (code.map Vl.op) s p∧Uf q=Uf p∧Ur k q∧VS q
theorem DReach.first {code:List Vl} {ro:List Int} (h8:ro.length≤8) (hz:nz ro):DReach code 0 (WY ⟨[],[]⟩ 0 [] ro) :=
 ⟨⟨[],[],0⟩,WY ⟨[],[]⟩ 2 [] ro,rfl,⟨2,rfl⟩,rfl,Ur.first 0 _ h8,VS.first 0 _ hz⟩
theorem DReach.pos {code:List Vl} {k:Nat} {q:Pl} (h:DReach code k q):0<q.f.length:=by
 obtain⟨s,p,_,hFI,hpq,_,_⟩:=h;rw[npl_flen hpq];exact hFI.pos
theorem DReach.inv {code:List Vl} {k:Nat} {q:Pl} (h:DReach code k q):Ur k q:=by
 obtain⟨s,p,_,_,_,hI,_⟩:=h;exact hI
theorem DReach.step {e:U5} (ho:EnvOk e) (he:EnvNz e) {code:List Vl} (hv:∀ x ∈ code,WX x=true) (hm:(VY (code.map Vl.op)).2=0) {k:Nat} (hk:k+1<code.length) {q:Pl} (h:DReach code k q) (hz:(VB e q (code.getD k Un)).1=0):DReach code (k+1) (VB e q (code.getD k Un)).2:=by
 obtain⟨hl,h11,sl,hsl,hop⟩:=match_run hm;rw[List.length_map]at hl h11 hsl;obtain⟨s,p,hs,hFI,hpq,hI,hZ⟩:=h;have hi:k<code.length:=by omega
 have hx:(code.map Vl.op).getD k 0=(code.getD k Un).op:=by
  rw[List.getD_eq_getElem?_getD,List.getElem?_map,List.getD_eq_getElem?_getD,List.getElem?_eq_getElem hi];rfl
 have hxv:=hv _ (WA code k Un hi);generalize code.getD k Un=x at hx hxv hz;have hkn:=(ins_nn hxv).2.2.2;have hnn:=known_nn _ hkn;have hq0:0<q.f.length:=by rw[npl_flen hpq];exact hFI.pos
 cases ht:V1 (code.map Vl.op) 0 (k+1) with
 | none=>have:=mrun_none ht (code.length - 1) (by omega);rw[this]at hsl;cases hsl
 | some t =>
  have ht':(V1 (code.map Vl.op) 0 k).bind (V3 (code.map Vl.op) 0 k)=some t:=ht;rw[hs]at ht';have hplace:Vc p x.op=true:=hFI.place hx ht' hkn;have hqp:=inPlace_same hpq x.op;rw[hplace]at hqp;have hds:=dstep_eq (e:=e) he hI hq0 hZ hxv hnn hqp;obtain⟨g1,g2⟩:=stepC_same e hpq x;rw[hds]at hz ⊢;have hzp:(Vr e p x).1=0:=by rw[← g1];exact hz
  exact⟨t,_,ht,hFI.step (mrun_inv _ _ _ _ hs) hx ht' hzp,g2,hI.step ho hz,hZ.step he hI hz⟩
theorem dfunc_env {m:Vt} {f:Nat} (prof:Int) (hr:WU m=0) (hf:f<m.funs.length) :
 EnvOk (UI m f prof)∧EnvNz (UI m f prof)∧(∀ x ∈ (m.funs.getD f WW).code,WX x=true)∧(m.funs.getD f WW).code.length≤65536:=by
 have hp:UG m=true:=by
  exact Zdk
 unfold UG at hp;simp only[Bool.and_eq_true]at hp;obtain⟨⟨⟨⟨⟨⟨⟨hty,_⟩,hfu⟩,_⟩,hgl⟩,_⟩,_⟩,_⟩:=hp;have hfn:=List.all_eq_true.1 hfu _ (WA m.funs f WW hf);unfold fncB codeB at hfn;simp only[Bool.and_eq_true]at hfn;have htn:∀ t ∈ m.types,nz t.1∧nz t.2∧t.1.length≤8∧t.2.length≤8:=fun t ht=>by
  exact Zct
 have hsn:∀ k,nz ((WB m k).getD ([],[])).1∧nz ((WB m k).getD ([],[])).2∧((WB m k).getD ([],[])).2.length≤8:=fun k=>by
  exact ZcQ
 have hlo:nz (locB m ((m.imps.length:Int)+f)):=by
  exact ZbQ
 refine⟨⟨(hsn _).2.2,fun t ht=>(htn t ht).2.2⟩,⟨(hsn _).2.1,hlo,fun t ht=>⟨(htn t ht).1,(htn t ht).2.1⟩,fun g hg=>?_⟩,List.all_eq_true.1 hfn.2.2,of_decide_eq_true hfn.2.1⟩;have:=List.all_eq_true.1 hgl g hg;unfold Uj VF at this;rw[Bool.and_eq_true]at this;have h2:=of_decide_eq_true this.1;omega
theorem dfuncC_ok {m:Vt} {f:Nat} (hf:f<m.funs.length) (prof:Int):VJ m (f:Int) prof=dwalkC (UI m f prof) (m.funs.getD f WW).code 0 (WY ⟨[],[]⟩ 0 [] (UI m f prof).ro):=by
 unfold VJ;rw[if_neg (by unfold Wi;simp;omega),Int.toNat_natCast]
end
section
open Go.RowKit
set_option maxHeartbeats 8000000
set_option maxRecDepth 100000
theorem Zbd {P:Prop}(h:P:=by
 go_wp2;go_roundw
 case rel=>exact⟨k+1,by omega,by go_num,hD (Wa HB.out HNX.out),HY⟩
 case measure=>simp[intOf];omega):P:=h
theorem ZbV {P:Prop}(h:P:=by
 go_wp2;go_ret;exact⟨Vd (HF.out).symm,Wa HBW.out (Wa HB.out HNX.out)⟩):P:=h
theorem Zcs {P:Prop}(h:P:=by
 clear hp hpl;go_wp2_with (go_at_call 78;refine(HFC.out).mono ?_;rintro e w1 ⟨rfl,hb1⟩;have HB1:=hD (Wa HB.out hb1);clear hb1)
 go_ret;exact⟨Vd (HF.out).symm,Wa HBW.out HB1.out⟩):P:=h
theorem dsigs_no {m:Vt} {k:Nat} (hk:k<m.imps.length+m.funs.length) (h:WB m (k:Int)=none):dsigsC m=false:=by
 unfold dsigsC;rw[List.all_eq_false];exact⟨k,List.mem_range.2 hk,by rw[h];decide⟩
theorem dsigs_yes {m:Vt} (h:∀ j,j<m.imps.length+m.funs.length→(WB m (j:Int)).isSome=true):dsigsC m=true:=by
 unfold dsigsC;rw[List.all_eq_true];exact fun k hk=>h k (List.mem_range.1 hk)
theorem dah_1 {m:Vt} {prof:Int} (h:dsigsC m=false):V8 m prof=23:=by unfold V8;rw[if_pos h]
theorem dah_2 {m:Vt} {prof:Int} (h1:dsigsC m=true) (h:m.exps.all (dexpIn m)=false):V8 m prof=23:=by unfold V8;rw[h1,if_neg (by decide),if_pos h]
theorem dah_3 {m:Vt} {prof:Int} (h1:dsigsC m=true) (h2:m.exps.all (dexpIn m)=true) (h:m.datas.all (ddatIn m.mems.length)=false):V8 m prof=23:=by unfold V8;rw[h1,h2,if_neg (by decide),if_neg (by decide),if_pos h]
theorem dah_4 {m:Vt} {prof:Int} (h1:dsigsC m=true) (h2:m.exps.all (dexpIn m)=true) (h3:m.datas.all (ddatIn m.mems.length)=true):V8 m prof=if prof=1∧plainC m=false then 24 else 0:=by unfold V8;rw[h1,h2,h3,if_neg (by decide),if_neg (by decide),if_neg (by decide)]
def AheadPost (m:Vt) (prof:Int) (w:World) (e:Ending) (w':World):Prop:=e=.returned (.int .i64 (V8 m prof))∧Below w.heap.size w w'
theorem dahead_any (w:World) (v:Mv) (m:Vt) (h:W7 (fun k=>k<w.heap.size) w v m) (hs:Vq m) (hr:WU m=0) (prof:Int) :
 Calls Tryz.prog 45 #[.agg v.cells,.int .i64 prof] w (AheadPost m prof w):=by
 have HSG:=hD (fun wz (hb:Below w.heap.size w wz) (f:Int)=>dsig_any wz v m (h.keep (We.below hb fun _ hk=>hk) fun _ hk=>Ve hk hb.size) hs f);have HFL:=hD (fun wz (hb:Below w.heap.size w wz) (he:m.exps.all (expIn m)=true)=>dflat_any wz v m (h.keep (We.below hb fun _ hk=>hk) fun _ hk=>Ve hk hb.size) he);have HRT:=hD (dexps_eq hr);have hs1:=hs.2.1;have hs2:=hs.2.2.1;have q0:=h.types;have q1:=h.imps;have q2:=h.funs;have q3:=h.mems;have q4:=h.globs;have q5:=h.exps;have q6:=h.datas;have q7:=h.cus;obtain⟨A0,c0,A1,c1,A2,c2,A3,c3,A4,c4,A5,c5,A6,c6,A7,c7,rfl⟩:=Wr h;simp only[Mv.cells]at HSG HFL ⊢;simp only at q0 q1 q2 q3 q4 q5 q6 q7;clear h hs hr;obtain⟨⟨n0,hn0⟩,⟨n1,hn1⟩,⟨n2,hn2⟩,⟨n3,hn3⟩,⟨n4,hn4⟩,⟨n5,hn5⟩,⟨n6,hn6⟩,⟨n7,hn7⟩⟩:=len8 m;have HN0:=hD hn0;have HN1:=hD hn1;have HN2:=hD hn2;have HN3:=hD hn3;have HN4:=hD hn4;have HN5:=hD hn5;have HN6:=hD hn6;have HN7:=hD hn7;rw[hn0]at q0 ⊢;rw[hn1]at q1 ⊢;rw[hn2]at q2 ⊢;rw[hn3]at q3 ⊢;rw[hn4]at q4 ⊢;rw[hn5]at q5 ⊢;rw[hn6]at q6 ⊢;rw[hn7]at q7 ⊢;rw[hn0,hn1,hn2,hn3,hn4,hn5,hn6,hn7]at HSG HFL;rw[hn1]at hs1;rw[hn2]at hs2;obtain⟨nn,hnn⟩:∃ nn,nn=n1+n2:=⟨_,rfl⟩;have e1:IntKind.i64.wrap ((n1:Int)+(n2:Int))=(nn:Int):=by rw[show(n1:Int)+(n2:Int)=(nn:Int) by omega];exact IntWalk.i64_in _ (by omega)
 have HNN:Hid (m.imps.length+m.funs.length=nn):=hD (by omega);obtain⟨W,hW,hbw,HB8⟩:=Vv w (.slice A0 n0 c0) (.slice A1 n1 c1) (.slice A2 n2 c2) (.slice A3 n3 c3) (.slice A4 n4 c4) (.slice A5 n5 c5) (.slice A6 n6 c6) (.slice A7 n7 c7);have HBW:=hD hbw;have HB8:=hD HB8;have HW:=hD hW;have Q6:=hD (DatasK.keep (K':=fun k=>k<W.heap.size) q6 (We.below hbw fun _ hk=>hk) (fun _ hk=>Ve hk hbw.size));have Q5:=hD (Wd.keep (K':=fun k=>k<W.heap.size) q5 (We.below hbw fun _ hk=>hk) (fun _ hk=>Ve hk hbw.size) (fun _ _ _ h=>h));clear hbw hW q0 q1 q2 q3 q4 q5 q6 q7 hn0 hn1 hn2 hn3 hn4 hn5 hn6 hn7;go_enter Tryz.func45,Tryz.ntmps45
 go_upto_region 1 with (fail)
 rw[← HW.out];go_wp2_with fail
 go_loopw [5] (fun i wr=>∃ k:Nat,k≤nn∧i=.int .i64 (k:Int)∧Hid (Below W.heap.size W wr)∧Hid (∀ j,j<k→(WB m (j:Int)).isSome=true)) (fun i _=>nn - (intOf i).toNat)
 case atStart=>exact⟨0,nZ _,rfl,hD (bR _ _),hD fun j hj=>absurd hj (Nat.not_lt_zero _)⟩
 case round =>
  obtain⟨w0,rfl⟩:∃ w0,w0=wr:=⟨_,rfl⟩;obtain⟨k,hk,rfl,HB,HA⟩:=hrel;obtain⟨b0,b1,b2,b3,b4,b5,b6,b7⟩:=HB8.out w0 HB.out;by_cases hlt:k<nn
  ·have hd:decide ((k:Int)<(nn:Int))=true:=by simp;omega
   have hd2:decide (k<nn)=true:=by simp;omega
   have HSK:=hD (HSG.out w0 (Wa HBW.out HB.out) (k:Int));obtain⟨tk,htk⟩:∃ tk,WB m (k:Int)=tk:=⟨_,rfl⟩;rw[htk]at HSK;cases tk with
   | none =>
    have HF:=hD (dah_1 (prof:=prof) (dsigs_no (by rw[HNN.out];exact hlt) htk));clear htk;go_wp2_with (go_at_call 77;refine(HSK.out).mono ?_;rintro e w1 ⟨pv,rv,rfl,hp,hr,hb1⟩;obtain⟨Ap,cp,rfl,_,_⟩:=hp.form;obtain⟨Ar,cr,rfl,_,_⟩:=hr.form;have HB1:=hD (Wa HB.out hb1);clear hp hr hb1)
    go_ret;exact⟨Vd (HF.out).symm,Wa HBW.out (Wb HB1.out _)⟩
   | some tk =>
    have HA2:Hid (∀ j,j<k+1→(WB m (j:Int)).isSome=true):=hD fun j hj=>by
     rcases Nat.lt_or_ge j k with h1|h1
     ·exact HA.out j h1
     ·rw[show j=k by omega,htk];rfl
    clear htk;go_wp2_with (go_at_call 77;refine(HSK.out).mono ?_;rintro e w1 ⟨pv,rv,rfl,hp,hr,hb1⟩;obtain⟨Ap,cp,rfl,_,_⟩:=hp.form;obtain⟨Ar,cr,rfl,_,_⟩:=hr.form;have HB1:=hD (Wa HB.out hb1);clear hp hr hb1)
    go_roundw
    case rel=>exact⟨k+1,by omega,by go_num,hD (Wb HB1.out _),HA2⟩
    case measure=>simp[intOf];omega
  ·have hd:decide ((k:Int)<(nn:Int))=false:=by simp;omega
   have hd2:decide (k<nn)=false:=by simp;omega
   obtain rfl:nn=k:=by omega
   have HS1:=hD (dsigs_yes (m:=m) (by rw[HNN.out];exact HA.out));have HBL1:=HB;clear HSG HA;go_wp2;clear b0 b1 b2 b3 b4 b5 b6 b7;go_loopw [35] (fun i wr=>∃ k:Nat,k≤n5∧i=.int .i64 (k:Int)∧Hid (Below W.heap.size W wr)∧Hid (W0 (dexpIn m) m.exps (ByteArray.empty,0,0) k)) (fun i _=>n5 - (intOf i).toNat)
   case atStart=>exact⟨0,nZ _,rfl,HBL1,hD (W0.zero _ _ _)⟩
   case round =>
    obtain⟨w0,rfl⟩:∃ w0,w0=wr:=⟨_,rfl⟩;obtain⟨k,hk,rfl,HB,HA⟩:=hrel;by_cases hlt:k<n5
    ·have hd:decide ((k:Int)<(n5:Int))=true:=by simp;omega
     have hd2:decide (k<n5)=true:=by simp;omega
     obtain⟨g,o,c',he,hq1,hq2⟩:=Wd.some_ Q5.out (by rw[HN5.out];omega);rw[HN5.out]at hq1;unfold maxLen at hq2;simp only[vI]at he;obtain⟨rfl,-,rfl⟩:=he;have hAT:=Wd.keep (K':=fun k=>k<w0.heap.size) Q5.out (We.below HB.out fun _ hk=>hk) (fun _ hk=>Ve hk HB.out.size) (fun _ _ _ h=>h);obtain⟨u0,k0,h0⟩:=Wd.at_ hAT k 0 (by rw[HN5.out];exact hlt) (by decide);obtain⟨u1,k1,h1⟩:=Wd.at_ hAT k 1 (by rw[HN5.out];exact hlt) (by decide);obtain⟨u2,k2,h2⟩:=Wd.at_ hAT k 2 (by rw[HN5.out];exact hlt) (by decide);have HNO:=hD (fun (h:(dexpIn m) (m.exps.getD k (ByteArray.empty,0,0))=false)=>VM (p:=dexpIn m) (by rw[HN5.out];exact hlt) h);have HYE:=hD (fun (h:(dexpIn m) (m.exps.getD k (ByteArray.empty,0,0))=true)=>HA.out.succ h);clear hAT;generalize m.exps.getD k (ByteArray.empty,0,0)=x at h0 h1 h2 HNO HYE;obtain⟨x1,x2,x3⟩:=x;obtain rfl:u0=.string x1:=h0;obtain rfl:u1=.int .i64 x2:=h1;obtain rfl:u2=.int .i64 x3:=h2;rw[Nat.add_zero]at k0;have hnx:=Wb (bR w0.heap.size w0) (.cells #[.string x1,.int .i64 x2,.int .i64 x3] 102);have HNX:=hD hnx;obtain⟨b0,b1,b2,b3,b4,b5,b6,b7⟩:=HB8.out _ (Wa HB.out hnx);have hways:(∃ nm:Nat,mostC m x2=nm∧nm=n3∧x2=2)∨(∃ nm:Nat,mostC m x2=nm∧nm=n4∧x2=3)∨(∃ nm:Nat,mostC m x2=nm∧nm=nn∧x2≠2∧x2≠3):=by
      unfold mostC;by_cases c2:x2=2
      ·exact .inl ⟨_,rfl,by rw[if_pos c2,HN3.out],c2⟩
      ·by_cases c3:x2=3
       ·exact .inr (.inl ⟨_,rfl,by rw[if_neg c2,if_pos c3,HN4.out],c3⟩)
       ·exact .inr (.inr ⟨_,rfl,by rw[if_neg c2,if_neg c3,HNN.out],c2,c3⟩)
     have hE:∀ nm:Nat,mostC m x2=nm→dexpIn m (x1,x2,x3)=decide (x3<(nm:Int)):=fun nm h=>by unfold dexpIn;simp only[h]
     clear hnx;rcases hways with ⟨nm,hm,hnm,hx2⟩|⟨nm,hm,hnm,hx2⟩|⟨nm,hm,hnm,hx2,hx3⟩
     ·subst hx2;rw[hnm]at hm;have hex:=hE _ hm;clear hm hnm hE;cases hb0:decide (x3<(n3:Int)) with
      | false =>
       have HF:=hD (dah_2 (prof:=prof) HS1.out (HNO.out (hex.trans hb0)));have hb1:decide ((n3:Int)≤x3)=true:=by have:=of_decide_eq_false hb0;simp;omega
       clear HNO HYE hex hb0;exact ZbV
      | true =>
       have HY:=hD (HYE.out (hex.trans hb0));have hb1:decide ((n3:Int)≤x3)=false:=by have:=of_decide_eq_true hb0;simp;omega
       clear HNO HYE hex hb0;exact Zbd
     ·subst hx2;rw[hnm]at hm;have hex:=hE _ hm;clear hm hnm hE;cases hb0:decide (x3<(n4:Int)) with
      | false =>
       have HF:=hD (dah_2 (prof:=prof) HS1.out (HNO.out (hex.trans hb0)));have hb1:decide ((n4:Int)≤x3)=true:=by have:=of_decide_eq_false hb0;simp;omega
       clear HNO HYE hex hb0;exact ZbV
      | true =>
       have HY:=hD (HYE.out (hex.trans hb0));have hb1:decide ((n4:Int)≤x3)=false:=by have:=of_decide_eq_true hb0;simp;omega
       clear HNO HYE hex hb0;exact Zbd
     ·have y2:(x2==2)=false:=by simpa using hx2
      have y3:(x2==3)=false:=by simpa using hx3
      clear hx2 hx3;rw[hnm]at hm;have hex:=hE _ hm;clear hm hnm hE;cases hb0:decide (x3<(nn:Int)) with
      | false =>
       have HF:=hD (dah_2 (prof:=prof) HS1.out (HNO.out (hex.trans hb0)));have hb1:decide ((n1:Int)+(n2:Int)≤x3)=true:=by have:=of_decide_eq_false hb0;simp;omega
       clear HNO HYE hex hb0;exact ZbV
      | true =>
       have HY:=hD (HYE.out (hex.trans hb0));have hb1:decide ((n1:Int)+(n2:Int)≤x3)=false:=by have:=of_decide_eq_true hb0;simp;omega
       clear HNO HYE hex hb0;exact Zbd
    ·have hd:decide ((k:Int)<(n5:Int))=false:=by simp;omega
     have hd2:decide (k<n5)=false:=by simp;omega
     obtain rfl:n5=k:=by omega
     have HS2:=hD (show m.exps.all (dexpIn m)=true by have h:=HA.out;rw[← HN5.out]at h;exact h.done);have HBL2:=HB;clear HA HBL1;obtain⟨b0,b1,b2,b3,b4,b5,b6,b7⟩:=HB8.out w0 HB.out;go_wp2;clear b0 b1 b2 b3 b4 b5 b6 b7;go_loopw [66] (fun i wr=>∃ k:Nat,k≤n6∧i=.int .i64 (k:Int)∧Hid (Below W.heap.size W wr)∧Hid (W0 (ddatIn m.mems.length) m.datas dat0 k)) (fun i _=>n6 - (intOf i).toNat)
     case atStart=>exact⟨0,nZ _,rfl,HBL2,hD (W0.zero _ _ _)⟩
     case round =>
      obtain⟨w0,rfl⟩:∃ w0,w0=wr:=⟨_,rfl⟩;obtain⟨k,hk,rfl,HB,HA⟩:=hrel;by_cases hlt:k<n6
      ·have hd:decide ((k:Int)<(n6:Int))=true:=by simp;omega
       have hd2:decide (k<n6)=true:=by simp;omega
       obtain⟨g,o,c',he,hq1,hq2⟩:=Wd.some_ Q6.out (by rw[HN6.out];omega);rw[HN6.out]at hq1;unfold maxLen at hq2;simp only[vI]at he;obtain⟨rfl,-,rfl⟩:=he;have hAT:=DatasK.keep (K':=fun k=>k<w0.heap.size) Q6.out (We.below HB.out fun _ hk=>hk) (fun _ hk=>Ve hk HB.out.size);obtain⟨u0,k0,h0⟩:=Wd.at_ hAT k 0 (by rw[HN6.out];exact hlt) (by decide);obtain⟨u1,k1,h1⟩:=Wd.at_ hAT k 1 (by rw[HN6.out];exact hlt) (by decide);obtain⟨u2,k2,h2⟩:=Wd.at_ hAT k 2 (by rw[HN6.out];exact hlt) (by decide);obtain⟨u3,k3,h3⟩:=Wd.at_ hAT k 3 (by rw[HN6.out];exact hlt) (by decide);have HNO:=hD (fun (h:(ddatIn m.mems.length) (m.datas.getD k dat0)=false)=>VM (p:=ddatIn m.mems.length) (by rw[HN6.out];exact hlt) h);have HYE:=hD (fun (h:(ddatIn m.mems.length) (m.datas.getD k dat0)=true)=>HA.out.succ h);clear hAT;generalize m.datas.getD k dat0=x at h0 h1 h2 h3 HNO HYE;obtain⟨x1,x2,x3,x4⟩:=x;obtain rfl:u0=.bool x1:=h0;obtain rfl:u1=.int .i64 x2:=h1;obtain rfl:u2=.int .i64 x3:=h2;obtain⟨P3,p3,rfl,_,_⟩:=h3;generalize hm3:x4.length=m3 at k3;clear hm3;rw[Nat.add_zero]at k0;have HNX:=hD (Wb (bR w0.heap.size w0) (.cells #[.bool x1,.int .i64 x2,.int .i64 x3,.slice P3 m3 p3] 61));obtain⟨b0,b1,b2,b3,b4,b5,b6,b7⟩:=HB8.out _ (Wa HB.out HNX.out);have hE:ddatIn m.mems.length ⟨x1,x2,x3,x4⟩=(!x1 || decide (x2<(n3:Int))):=by unfold ddatIn;rw[HN3.out]
       cases x1 with
       | false =>
        have HY:=hD (HYE.out (hE.trans rfl));clear HNO HYE hE;exact Zbd
       | true =>
        cases hb0:decide (x2<(n3:Int)) with
        | false =>
         have HF:=hD (dah_3 (prof:=prof) HS1.out HS2.out (HNO.out (hE.trans (by rw[hb0];rfl))));have hb1:decide ((n3:Int)≤x2)=true:=by have:=of_decide_eq_false hb0;simp;omega
         clear HNO HYE hE hb0;exact ZbV
        | true =>
         have HY:=hD (HYE.out (hE.trans (by rw[hb0];rfl)));have hb1:decide ((n3:Int)≤x2)=false:=by have:=of_decide_eq_true hb0;simp;omega
         clear HNO HYE hE hb0;exact Zbd
      ·have hd:decide ((k:Int)<(n6:Int))=false:=by simp;omega
       have hd2:decide (k<n6)=false:=by simp;omega
       obtain rfl:n6=k:=by omega
       have HS3:=hD (show m.datas.all (ddatIn m.mems.length)=true by have h:=HA.out;rw[← HN6.out]at h;exact h.done);have HA4:=hD (dah_4 (prof:=prof) HS1.out HS2.out HS3.out);have HBL3:=HB;clear HA HBL2;obtain⟨b0,b1,b2,b3,b4,b5,b6,b7⟩:=HB8.out w0 HB.out;have HFC:=hD (HFL.out w0 (Wa HBW.out HB.out) (HRT.out ▸ HS2.out));unfold Wh at HFC;by_cases hp:prof=1
       ·have d1:(prof==1)=true:=by simpa using hp
        cases hpl:plainC m with
        | false =>
         rw[hpl]at HFC;have HF:=hD (HA4.out.trans (if_pos ⟨hp,hpl⟩));exact Zcs
        | true =>
         rw[hpl]at HFC;have HF:=hD (HA4.out.trans (if_neg (fun hx=>by rw[hpl]at hx;cases hx.2)));exact Zcs
       ·have d1:(prof==1)=false:=by simpa using hp
        have HF:=hD (HA4.out.trans (if_neg (fun hx=>hp hx.1)));clear hp;go_wp2;go_ret;exact⟨Vd (HF.out).symm,Wa HBW.out HB.out⟩
end
end Go.Proofs.YtmfpnfdinoofpaaGreatDoor
