/- A part of the proof. -/
import Derived.Test.YtepgopnnaeoolaaGreatDoorJ40
namespace Go.Proofs.YtepgopnnaeoolaaGreatDoor
section
open Go.RowKit
set_option maxHeartbeats 8000000
set_option maxRecDepth 100000
theorem ZG {P:Prop}(h:P:=by
 rw[if_pos ⟨hp,rfl⟩];rw[hri]at HRI;clear hri hin HE HFo hp hpr;go_enter Tryz.func43,Tryz.ntmps43
 go_upto_region 1 with (fail)
 rw[← HW.out];go_wp2_with (first|(go_at_call 68;refine HIP.out.mono ?_;rintro e w1 ⟨rfl,hb1⟩;have HB1:=hD (show Below W.heap.size W w1 from hb1);obtain⟨j0,j1,j2,j3,j4,jp⟩:=HKX.out w1 hb1;clear hb1)|(go_at_call 69;refine(HRI.out _).mono ?_;rintro e w2 ⟨rfl,hb2⟩;have HB2:=hD (show Below W.heap.size W w2 from Wa HB1.out hb2);obtain⟨j0,j1,j2,j3,j4,jp⟩:=HKX.out w2 HB2.out;clear hb2))
 go_ret;exact⟨x,(HG1.out.1.below HB2.out).1,HG1.out.2.trans (HG1.out.1.below HB2.out).2,rfl,fun hx=>(by simp at hx)⟩):P:=h
theorem ZR {P:Prop}(h:P:=by
 rw[if_pos rfl];rw[hin]at HIP;clear hin HE HFo;go_enter Tryz.func43,Tryz.ntmps43
 go_upto_region 1 with (fail)
 rw[← HW.out];go_wp2_with (first|(go_at_call 68;refine HIP.out.mono ?_;rintro e w1 ⟨rfl,hb1⟩;have HB1:=hD (show Below W.heap.size W w1 from hb1);obtain⟨j0,j1,j2,j3,j4,jp⟩:=HKX.out w1 hb1;clear hb1))
 go_ret;exact⟨x,(HG1.out.1.below HB1.out).1,HG1.out.2.trans (HG1.out.1.below HB1.out).2,rfl,fun hx=>(by simp at hx)⟩):P:=h
theorem Z0 {P:Prop}(h:P:=by
 go_ret;exact⟨x,(HG1.out.1.below HB3.out).1,HG1.out.2.trans (HG1.out.1.below HB3.out).2,rfl,fun hx=>(by simp at hx)⟩):P:=h
theorem Z3 {P:Prop}(h:P:=by
 go_ret;exact⟨x4,HG4.out,(HG1.out.2.trans (HG1.out.1.below HB3.out).2).trans HS4.out,rfl,fun hx=>(by simp at hx)⟩):P:=h
theorem Z4 {P:Prop}(h:P:=by
 go_ret;exact⟨x4,HG4.out,(HG1.out.2.trans (HG1.out.1.below HB3.out).2).trans HS4.out,rfl,fun _=>HP4.out q rfl⟩):P:=h
def StepPost (F:Wx) (w:World) (x:Ws) (r:Int×Pl) (e:Ending) (w':World):Prop :=
 ∃ x',Wk F w' x'∧WE F w x w' x'∧e=.returned (.int .i64 r.1)∧(r.1=0→x'.pl=r.2)
theorem step_of {F:Wx} {w:World} {x:Ws} (hF:F.prg) (h:Wk F w x) (op a b n:Int) (l:List Int) (Al:Option Addr) (nl cl:Nat)
 (hE:Vt x.pl op=true→∀ w1,Wk F w1 x→Calls Tryz.prog 70 #[.pointer (some ⟨F.G,0,none⟩),.agg #[.int .i64 op,.int .i64 a,.int .i64 b,.int .u64 n,.slice Al nl cl]] w1 (Wo (Wn F.env x.pl ⟨op,a,b,n,l⟩) w1))
 (hFo:Vt x.pl op=true→Wn F.env x.pl ⟨op,a,b,n,l⟩=true→∀ w1,Wk F w1 x→Calls Tryz.prog 71 #[.pointer (some ⟨F.G,0,none⟩),.agg #[.int .i64 op,.int .i64 a,.int .i64 b,.int .u64 n,.slice Al nl cl]] w1 (Vb F w1 x (Wr F.env x.pl ⟨op,a,b,n,l⟩))) :
 Calls Tryz.prog 43 #[.pointer (some ⟨F.G,0,none⟩),.agg #[.int .i64 op,.int .i64 a,.int .i64 b,.int .u64 n,.slice Al nl cl]] w (StepPost F w x (VZ F.env x.pl ⟨op,a,b,n,l⟩)):=by
 have HE:=hD hE;have HFo:=hD hFo;have HRI:=hD (fun w=>richI_any ⟨op,a,b,n,l⟩ (.slice Al nl cl) ⟨_,_,_,rfl⟩ w);obtain⟨W,hW⟩:∃ W,W=w.alloc (.cells #[.int .i64 op,.int .i64 a,.int .i64 b,.int .u64 n,.slice Al nl cl] 76):=⟨_,rfl⟩;have hk:∀ j:Nat,W.cell? ⟨w.heap.size,j,none⟩=(#[.int .i64 op,.int .i64 a,.int .i64 b,.int .u64 n,.slice Al nl cl]:Array Value)[j]?:=fun j=>by rw[hW,wN]
 have HG1:=hD (hW ▸ h.alloc (.cells #[.int .i64 op,.int .i64 a,.int .i64 b,.int .u64 n,.slice Al nl cl] 76):Wk F W x∧WE F w x W x);have HKX:Hid (∀ wz,Below W.heap.size W wz→wz.cell? ⟨w.heap.size,0,none⟩=some (.int .i64 op)∧wz.cell? ⟨w.heap.size,1,none⟩=some (.int .i64 a)∧wz.cell? ⟨w.heap.size,2,none⟩=some (.int .i64 b)∧wz.cell? ⟨w.heap.size,3,none⟩=some (.int .u64 n)∧wz.cell? ⟨w.heap.size,4,none⟩=some (.slice Al nl cl)∧wz.cell? ⟨F.G,10,none⟩=some (.int .i64 F.prof)):=hD fun wz hz =>
  ⟨(hz.cell (wL W _ (hk 0))).trans (hk 0),(hz.cell (wL W _ (hk 1))).trans (hk 1),(hz.cell (wL W _ (hk 2))).trans (hk 2),(hz.cell (wL W _ (hk 3))).trans (hk 3),(hz.cell (wL W _ (hk 4))).trans (hk 4),((HG1.out.1.below hz).1.q hF).2.2.2.1⟩
 have HIP:=hD (inPlace_any hF HG1.out.1 op);have HW:=hD hW;obtain⟨k0,k1,k2,k3,k4,kp⟩:=HKX.out W (bR _ _);unfold VZ;clear hE hFo hk hW h;cases hin:Vt x.pl op with
 | false =>
  exact ZR
 | true =>
  rw[if_neg (by decide)];rw[hin]at HIP;generalize hpr:F.prof=pr at *;rw[show F.env.prof=pr from hpr];by_cases hp:pr=1
  ·have d1:(pr==1)=true:=by simpa using hp
   cases hri:richI ⟨op,a,b,n,l⟩ with
   | true =>
    exact ZG
   | false =>
    rw[if_neg (fun hx=>by cases hx.2)];rw[hri]at HRI;clear hri hp hpr;cases he:Wn F.env x.pl ⟨op,a,b,n,l⟩ with
    | false =>
     rw[if_pos rfl];have HEX:=hD (fun w1 g1=>he ▸ HE.out hin w1 g1);clear HE HFo he;go_enter Tryz.func43,Tryz.ntmps43
     go_upto_region 1 with (fail)
     rw[← HW.out];go_wp2_with (first|(go_at_call 68;refine HIP.out.mono ?_;rintro e w1 ⟨rfl,hb1⟩;have HB1:=hD (show Below W.heap.size W w1 from hb1);obtain⟨j0,j1,j2,j3,j4,jp⟩:=HKX.out w1 hb1;clear hb1)|(go_at_call 69;refine(HRI.out _).mono ?_;rintro e w2 ⟨rfl,hb2⟩;have HB2:=hD (show Below W.heap.size W w2 from Wa HB1.out hb2);obtain⟨j0,j1,j2,j3,j4,jp⟩:=HKX.out w2 HB2.out;clear hb2)|(go_at_call 70;refine(HEX.out _ (HG1.out.1.below HB2.out).1).mono ?_;rintro e w3 ⟨rfl,hb3⟩;have HB3:=hD (show Below W.heap.size W w3 from Wa HB2.out hb3);obtain⟨j0,j1,j2,j3,j4,jp⟩:=HKX.out w3 HB3.out;clear hb3))
     exact Z0
    | true =>
     rw[if_neg (by decide)];have HEX:=hD (fun w1 g1=>he ▸ HE.out hin w1 g1);have HFO:=hD (HFo.out hin he);clear HE HFo he;cases hf:Wr F.env x.pl ⟨op,a,b,n,l⟩ with
     | none =>
      rw[hf]at HFO;clear hf;go_enter Tryz.func43,Tryz.ntmps43
      go_upto_region 1 with (fail)
      rw[← HW.out];go_wp2_with (first|(go_at_call 68;refine HIP.out.mono ?_;rintro e w1 ⟨rfl,hb1⟩;have HB1:=hD (show Below W.heap.size W w1 from hb1);obtain⟨j0,j1,j2,j3,j4,jp⟩:=HKX.out w1 hb1;clear hb1)|(go_at_call 69;refine(HRI.out _).mono ?_;rintro e w2 ⟨rfl,hb2⟩;have HB2:=hD (show Below W.heap.size W w2 from Wa HB1.out hb2);obtain⟨j0,j1,j2,j3,j4,jp⟩:=HKX.out w2 HB2.out;clear hb2)|(go_at_call 70;refine(HEX.out _ (HG1.out.1.below HB2.out).1).mono ?_;rintro e w3 ⟨rfl,hb3⟩;have HB3:=hD (show Below W.heap.size W w3 from Wa HB2.out hb3);obtain⟨j0,j1,j2,j3,j4,jp⟩:=HKX.out w3 HB3.out;clear hb3)|(go_at_call 71;refine(HFO.out _ (HG1.out.1.below HB3.out).1).mono ?_;rintro e w4 ⟨x4,g4,s4,rfl,hp4⟩;have HG4:=hD g4;have HS4:=hD s4;have HP4:=hD hp4;clear g4 s4 hp4))
      exact Z3
     | some q =>
      rw[hf]at HFO;clear hf;go_enter Tryz.func43,Tryz.ntmps43
      go_upto_region 1 with (fail)
      rw[← HW.out];go_wp2_with (first|(go_at_call 68;refine HIP.out.mono ?_;rintro e w1 ⟨rfl,hb1⟩;have HB1:=hD (show Below W.heap.size W w1 from hb1);obtain⟨j0,j1,j2,j3,j4,jp⟩:=HKX.out w1 hb1;clear hb1)|(go_at_call 69;refine(HRI.out _).mono ?_;rintro e w2 ⟨rfl,hb2⟩;have HB2:=hD (show Below W.heap.size W w2 from Wa HB1.out hb2);obtain⟨j0,j1,j2,j3,j4,jp⟩:=HKX.out w2 HB2.out;clear hb2)|(go_at_call 70;refine(HEX.out _ (HG1.out.1.below HB2.out).1).mono ?_;rintro e w3 ⟨rfl,hb3⟩;have HB3:=hD (show Below W.heap.size W w3 from Wa HB2.out hb3);obtain⟨j0,j1,j2,j3,j4,jp⟩:=HKX.out w3 HB3.out;clear hb3)|(go_at_call 71;refine(HFO.out _ (HG1.out.1.below HB3.out).1).mono ?_;rintro e w4 ⟨x4,g4,s4,rfl,hp4⟩;have HG4:=hD g4;have HS4:=hD s4;have HP4:=hD hp4;clear g4 s4 hp4))
      exact Z4
  ·have d1:(pr==1)=false:=by simpa using hp
   rw[if_neg (fun hx=>hp hx.1)];clear hp hpr;cases he:Wn F.env x.pl ⟨op,a,b,n,l⟩ with
   | false =>
    rw[if_pos rfl];have HEX:=hD (fun w1 g1=>he ▸ HE.out hin w1 g1);clear HE HFo he;go_enter Tryz.func43,Tryz.ntmps43
    go_upto_region 1 with (fail)
    rw[← HW.out];go_wp2_with (first|(go_at_call 68;refine HIP.out.mono ?_;rintro e w1 ⟨rfl,hb1⟩;have HB1:=hD (show Below W.heap.size W w1 from hb1);obtain⟨j0,j1,j2,j3,j4,jp⟩:=HKX.out w1 hb1;clear hb1)|(go_at_call 70;refine(HEX.out _ (HG1.out.1.below HB1.out).1).mono ?_;rintro e w3 ⟨rfl,hb3⟩;have HB3:=hD (show Below W.heap.size W w3 from Wa HB1.out hb3);obtain⟨j0,j1,j2,j3,j4,jp⟩:=HKX.out w3 HB3.out;clear hb3))
    exact Z0
   | true =>
    rw[if_neg (by decide)];have HEX:=hD (fun w1 g1=>he ▸ HE.out hin w1 g1);have HFO:=hD (HFo.out hin he);clear HE HFo he;cases hf:Wr F.env x.pl ⟨op,a,b,n,l⟩ with
    | none =>
     rw[hf]at HFO;clear hf;go_enter Tryz.func43,Tryz.ntmps43
     go_upto_region 1 with (fail)
     rw[← HW.out];go_wp2_with (first|(go_at_call 68;refine HIP.out.mono ?_;rintro e w1 ⟨rfl,hb1⟩;have HB1:=hD (show Below W.heap.size W w1 from hb1);obtain⟨j0,j1,j2,j3,j4,jp⟩:=HKX.out w1 hb1;clear hb1)|(go_at_call 70;refine(HEX.out _ (HG1.out.1.below HB1.out).1).mono ?_;rintro e w3 ⟨rfl,hb3⟩;have HB3:=hD (show Below W.heap.size W w3 from Wa HB1.out hb3);obtain⟨j0,j1,j2,j3,j4,jp⟩:=HKX.out w3 HB3.out;clear hb3)|(go_at_call 71;refine(HFO.out _ (HG1.out.1.below HB3.out).1).mono ?_;rintro e w4 ⟨x4,g4,s4,rfl,hp4⟩;have HG4:=hD g4;have HS4:=hD s4;have HP4:=hD hp4;clear g4 s4 hp4))
     exact Z3
    | some q =>
     rw[hf]at HFO;clear hf;go_enter Tryz.func43,Tryz.ntmps43
     go_upto_region 1 with (fail)
     rw[← HW.out];go_wp2_with (first|(go_at_call 68;refine HIP.out.mono ?_;rintro e w1 ⟨rfl,hb1⟩;have HB1:=hD (show Below W.heap.size W w1 from hb1);obtain⟨j0,j1,j2,j3,j4,jp⟩:=HKX.out w1 hb1;clear hb1)|(go_at_call 70;refine(HEX.out _ (HG1.out.1.below HB1.out).1).mono ?_;rintro e w3 ⟨rfl,hb3⟩;have HB3:=hD (show Below W.heap.size W w3 from Wa HB1.out hb3);obtain⟨j0,j1,j2,j3,j4,jp⟩:=HKX.out w3 HB3.out;clear hb3)|(go_at_call 71;refine(HFO.out _ (HG1.out.1.below HB3.out).1).mono ?_;rintro e w4 ⟨x4,g4,s4,rfl,hp4⟩;have HG4:=hD g4;have HS4:=hD s4;have HP4:=hD hp4;clear g4 s4 hp4))
     exact Z4
end
section
open Go.RowKit
set_option maxHeartbeats 4000000
set_option maxRecDepth 100000
theorem ZbD {P:Prop}(h:P:=by
 clear HWN h0 hb0;go_wp2_with (go_at_call 44;refine(HED.out).mono ?_;rintro e w3 ⟨rfl,rfl⟩)
 go_ret2
 exact⟨by rw[HPE.out,HWN2.out];rfl,HBE.out _ _ HST.out⟩):P:=h
def StepsOk (good:VV→Prop):Prop:=∀ (F:Wx) (w:World) (x:Ws) (n:Nat) (i:VV) (Al:Option Addr) (nl cl:Nat),F.prg→Wk F w x→VI F.m→EnvOk F.env→Inv n x.pl→n≤65536→good i→Wg (WB F w x) w (.slice Al nl cl) i.l →
 Calls Tryz.prog 43 #[.pointer (some ⟨F.G,0,none⟩),.agg #[.int .i64 i.op,.int .i64 i.a,.int .i64 i.b,.int .u64 i.n,.slice Al nl cl]] w (StepPost F w x (VZ F.env x.pl i))
theorem drop_at {α:Type} (l:List α) (k:Nat) (d:α) (h:k<l.length):l.drop k=l.getD k d :: l.drop (k+1):=by
 rw[List.drop_eq_getElem_cons h,List.getD_eq_getElem?_getD,List.getElem?_eq_getElem h];rfl
theorem walkC_at {e:Env} {l:List VV} {k:Nat} {p:Pl} (h:k<l.length):walkC e (l.drop k) k p=if (VZ e p (l.getD k ins0)).1=0 then walkC e (l.drop (k+1)) (k+1) (VZ e p (l.getD k ins0)).2 else ((k:Int),(VZ e p (l.getD k ins0)).1):=by
 rw[drop_at l k ins0 h,walkC]
theorem walkC_end {e:Env} {l:List VV} {p:Pl}:walkC e (l.drop l.length) l.length p=if 0<p.f.length then (-1,12) else (-1,0):=by
 rw[List.drop_eq_nil_of_le (nR _),walkC]
def FuncPost (r:Int×Int) (w:World) (e:Ending) (w':World):Prop:=e=.returned (.tuple #[.int .i64 r.1,.int .i64 r.2])∧Below w.heap.size w w'
theorem funcC_ok {m:W8} {f:Nat} {t:List Int×List Int} (hf:f<m.funs.length) (ht:WT m ((m.imps.length:Int)+(f:Int))=some t) (prof:Int):Um m (f:Int) prof=walkC (UD m f prof) (m.funs.getD f VF).code 0 (V0 ⟨[],[]⟩ 2 [] (UD m f prof).ro):=by
 unfold Um;rw[if_neg (by unfold Wm;simp;omega),ht,if_neg (by simp),Int.toNat_natCast]
theorem func_ok {good:VV→Prop} (HS:StepsOk good) (w:World) (v:Mv) (m:W8) (h:WQ (fun k=>k<w.heap.size) w v m) (hs:VI m) (hty:∀ t ∈ m.types,t.1.length≤8∧t.2.length≤8) (f:Nat) (hf:f<m.funs.length) (t:List Int×List Int) (ht:WT m ((m.imps.length:Int)+(f:Int))=some t) (prof:Int)
 (hcl:(m.funs.getD f VF).code.length≤65536) (hgd:∀ i ∈ (m.funs.getD f VF).code,good i) :
 Calls Tryz.prog 23 #[.agg v.cells,.int .i64 (f:Int),.int .i64 prof] w (FuncPost (Um m (f:Int) prof) w):=by
 rw[funcC_ok hf ht prof];have HBG:=hD (fun wz (hb:Below w.heap.size w wz)=>beg_any wz v m (h.keep (Wf.below hb fun _ hk=>hk) fun _ hk=>WW hk hb.size) hs f hf t ht prof);have HEN:Hid (EnvOk (UD m f prof)):=hD ⟨by show((WT m _).getD ([],[])).2.length≤8;rw[ht];exact(hty t (fsigB_mem ht)).2,hty⟩;have q2:=h.funs;obtain⟨A0,c0,A1,c1,A2,c2,A3,c3,A4,c4,A5,c5,A6,c6,A7,c7,rfl⟩:=WC h;simp only[Mv.cells]at HBG ⊢;simp only at q2;clear h;obtain⟨g,o,c',he,hq1,hq2⟩:=Wd.some_ q2 (by omega);simp only[vI]at he;obtain⟨rfl,-,rfl⟩:=he;obtain⟨u2,k2,h2⟩:=Wd.at_ q2 f 2 hf (by decide);have h2:Vh (fun k=>k<w.heap.size) w u2 (m.funs.getD f VF).code:=h2;generalize (m.funs.getD f VF).code=code at h2 hcl hgd ⊢;obtain⟨Pc,cc,rfl,_,_⟩:=Wd.form h2;have HSH:=hD hs;obtain⟨n0,hn0⟩:∃ n,m.types.length=n:=⟨_,rfl⟩;obtain⟨n1,hn1⟩:∃ n,m.imps.length=n:=⟨_,rfl⟩;obtain⟨n2,hn2⟩:∃ n,m.funs.length=n:=⟨_,rfl⟩;obtain⟨n3,hn3⟩:∃ n,m.mems.length=n:=⟨_,rfl⟩;obtain⟨n4,hn4⟩:∃ n,m.globs.length=n:=⟨_,rfl⟩;obtain⟨n5,hn5⟩:∃ n,m.exps.length=n:=⟨_,rfl⟩;obtain⟨n6,hn6⟩:∃ n,m.datas.length=n:=⟨_,rfl⟩;obtain⟨n7,hn7⟩:∃ n,m.cus.length=n:=⟨_,rfl⟩;rw[hn0,hn1,hn2,hn3,hn4,hn5,hn6,hn7]at HBG ⊢;rw[hn2]at hf hq1;unfold maxLen at hq2;obtain⟨nc,hnc⟩:∃ n,code.length=n:=⟨_,rfl⟩;have HNC:=hD hnc;have HC2:=hD h2;rw[hnc]at k2 hcl HC2;have HGD:=hD hgd;have hf0:decide ((0:Int)≤(f:Int))=true:=by simp
 have hf1:decide ((f:Int)<(n2:Int))=true:=by simp;omega
 have hf2:decide (f<n2)=true:=by simp;omega
 obtain⟨W,hW⟩:∃ W,W=w.alloc (.cells #[.slice A0 n0 c0,.slice A1 n1 c1,.slice (some ⟨g,o,none⟩) n2 c2,.slice A3 n3 c3,.slice A4 n4 c4,.slice A5 n5 c5,.slice A6 n6 c6,.slice A7 n7 c7] 33):=⟨_,rfl⟩;have hbw:Below w.heap.size w W:=hW ▸ (bR _ _).alloc (nR _) _;have HBW:=hD hbw;have HB8:Hid (∀ wz,Below W.heap.size W wz→V4 wz w.heap.size (.slice A0 n0 c0) (.slice A1 n1 c1) (.slice (some ⟨g,o,none⟩) n2 c2) (.slice A3 n3 c3) (.slice A4 n4 c4) (.slice A5 n5 c5) (.slice A6 n6 c6) (.slice A7 n7 c7)):=hD fun wz hz=>by rw[hW]at hz;exact Vq w _ _ _ _ _ _ _ _ hz
 have HK2:Hid (∀ wz,Below W.heap.size W wz→wz.cell? ⟨g,o+f * 3+2,none⟩=some (.slice Pc nc cc)):=hD fun wz hz=>((Wa hbw hz).cell (wL w _ k2)).trans k2;have HW:=hD hW;obtain⟨b0,b1,b2,b3,b4,b5,b6,b7⟩:=HB8.out W (bR _ _);clear hbw hW hn0 hn1 hn2 hn3 hn4 hn5 hn6 hn7 k2 h2 q2 hs hgd hnc hty ht;go_enter Tryz.func23,Tryz.ntmps23
 go_upto_region 1 with (fail)
 rw[← HW.out]
 go_upto_region 2 with (first|(go_at_call 42;refine(HBG.out W HBW.out).mono ?_;rintro e w1 ⟨F,x1,hF,hFv,hFm,hFe,rfl,hg1,hp1,hfr1,hb1⟩))
 clear b0 b1 b2 b3 b4 b5 b6 b7 HBG;obtain⟨b0,b1,b2,b3,b4,b5,b6,b7⟩:=HB8.out w1 hb1;have k2:=HK2.out w1 hb1;have hpe:(V0 ⟨[],[]⟩ 2 [] (UD m f prof).ro)=x1.pl:=by rw[hp1];show _=V0 ⟨[],[]⟩ 2 [] F.env.ro;rw[hFe,Int.toNat_natCast]
 have HPE:=hD hpe;have HFE:Hid (F.env=UD m f prof):=hD (by rw[hFe,Int.toNat_natCast]);have HIN:Hid (Inv 0 x1.pl):=hD (hpe ▸ Inv.first 2 _ HEN.out.ro);have HFM:=hD hFm;have HF:=hD hF;have HG1:=hD hg1;have HB1:=hD (Wa HBW.out hb1);have HCK:Hid (∀ wz xz,WE F w1 x1 wz xz→Vh (WB F wz xz) wz (.slice Pc nc cc) code):=hD fun wz xz hsz=>by
  have hsw:=HBW.out.size;exact Vh.keep HC2.out ((Wf.below HB1.out fun _ hk=>hk).trans (hsz.keeps.mono fun k hk=>hfr1 k (WW hk hsw))) fun k hk=>hsz.mono k (hfr1 k (WW hk hsw))
 have HBE:Hid (∀ wz xz,WE F w1 x1 wz xz→Below w.heap.size w wz):=hD fun wz xz hsz=>HB1.out.trans (hsz.keeps.to_below fun k hk=>hfr1 k (WW hk HBW.out.size));clear hb1 hpe hp1 hF hFv hFm hFe hg1 hfr1 HB8 HK2 HC2;go_wp2_with fail
 clear b0 b1 b2 b3 b4 b5 b6 b7 k2;go_loopw [30] (fun i wr=>∃ k:Nat,k≤nc∧i=.int .i64 (k:Int)∧∃ x,Hid (Wk F wr x)∧Hid (WE F w1 x1 wr x)∧Hid (Inv k x.pl)∧Hid (walkC (UD m f prof) code 0 x1.pl=walkC (UD m f prof) (code.drop k) k x.pl)) (fun i _=>nc - (intOf i).toNat)
 case atStart=>exact⟨0,nZ _,rfl,x1,HG1,hD (WE.refl _ _ _),HIN,hD rfl⟩
 case round =>
  obtain⟨w0,rfl⟩:∃ w0,w0=wr:=⟨_,rfl⟩;obtain⟨k,hk,rfl,x,HG,HST,HI,HWC⟩:=hrel;by_cases hlt:k<nc
  ·have hd:decide ((k:Int)<(nc:Int))=true:=by simp;omega
   have hd2:decide (k<nc)=true:=by simp;omega
   have hAT:=HCK.out w0 x HST.out;obtain⟨g1,o1,c1',he1,_,_⟩:=Wd.some_ hAT (by rw[HNC.out];omega);simp only[vI]at he1;obtain⟨rfl,-,rfl⟩:=he1;obtain⟨u0,k0,h0⟩:=Wd.at_ hAT k 0 (by rw[HNC.out];exact hlt) (by decide);obtain⟨u1,k1,h1⟩:=Wd.at_ hAT k 1 (by rw[HNC.out];exact hlt) (by decide);obtain⟨u2,k2,h2⟩:=Wd.at_ hAT k 2 (by rw[HNC.out];exact hlt) (by decide);obtain⟨u3,k3,h3⟩:=Wd.at_ hAT k 3 (by rw[HNC.out];exact hlt) (by decide);obtain⟨u4,k4,h4⟩:=Wd.at_ hAT k 4 (by rw[HNC.out];exact hlt) (by decide);have hwc:=HWC.out.trans (walkC_at (by rw[HNC.out];exact hlt));have hgi:=HGD.out _ (Ve code k ins0 (by rw[HNC.out];exact hlt));generalize code.getD k ins0=i at h0 h1 h2 h3 h4 hwc hgi;obtain⟨op,a,b,n,l⟩:=i;obtain rfl:u0=.int .i64 op:=h0;obtain rfl:u1=.int .i64 a:=h1;obtain rfl:u2=.int .i64 b:=h2;obtain⟨rfl,_⟩:u3=.int .u64 n∧VK n:=h3;obtain⟨h4,_⟩:Wg (WB F w0 x) w0 u4 l∧fitN l.length:=h4;obtain⟨P4,q4,rfl,_,_⟩:=h4.form;rw[Nat.add_zero]at k0;obtain⟨W6,hW6⟩:∃ W6,W6=w0.alloc (.cells #[.int .i64 op,.int .i64 a,.int .i64 b,.int .u64 n,.slice P4 l.length q4] 76):=⟨_,rfl⟩;have hg6:=HG.out.alloc (.cells #[.int .i64 op,.int .i64 a,.int .i64 b,.int .u64 n,.slice P4 l.length q4] 76);rw[← hW6]at hg6;have y:∀ j:Nat,W6.cell? ⟨w0.heap.size,j,none⟩=(#[.int .i64 op,.int .i64 a,.int .i64 b,.int .u64 n,.slice P4 l.length q4]:Array Value)[j]?:=fun j=>by rw[hW6,wN]
   have y0:=y 0;have y1:=y 1;have y2:=y 2;have y3:=y 3;have y4:=y 4;simp only[List.getElem?_toArray,List.getElem?_cons_zero,List.getElem?_cons_succ]at y0 y1 y2 y3 y4;have hsp:=HS F W6 x k ⟨op,a,b,n,l⟩ P4 l.length q4 HF.out hg6.1 (HFM.out ▸ HSH.out) (HFE.out ▸ HEN.out) HI.out (by omega) hgi (hg6.2.ints h4);rw[HFE.out]at hsp;have hin:=fun (hz:(VZ (UD m f prof) x.pl ⟨op,a,b,n,l⟩).1=0)=>HI.out.step HEN.out hz;have HSP:=hD hsp;have HW6:=hD hW6;have HS6:=hD (HST.out.trans hg6.2);have HWN:=hD hwc;have HINN:=hD hin;clear hAT h4 hgi hsp hW6 hwc hg6 y hin;generalize VZ (UD m f prof) x.pl ⟨op,a,b,n,l⟩=r at HSP HWN HINN;obtain⟨r1,r2⟩:=r;by_cases hr:r1=0
   ·subst hr;have HWN2:=hD (HWN.out.trans (if_pos rfl));have HIN2:=hD (HINN.out rfl);clear HWN HINN
    go_upto_region 7 with (fail)
    rw[← HW6.out];go_wp2_with (go_at_call 43;refine(HSP.out).mono ?_;rintro e w3 ⟨x3,hg3,hs3,rfl,hp3⟩;have HG3:=hD hg3;have HS3:=hD (HS6.out.trans hs3);have HP3:=hD (hp3 rfl);clear hg3 hs3 hp3)
    go_roundw
    case rel=>exact⟨k+1,by omega,by go_num,x3,HG3,HS3,hD (by rw[HP3.out];exact HIN2.out),hD (by rw[HP3.out];exact HWN2.out)⟩
    case measure=>simp[intOf];omega
   ·have hr2:(r1 != 0)=true:=by simpa using hr
    have HWN2:=hD (HWN.out.trans (if_neg hr));clear HWN HINN hr
    go_upto_region 7 with (fail)
    rw[← HW6.out];go_wp2_with (go_at_call 43;refine(HSP.out).mono ?_;rintro e w3 ⟨x3,hg3,hs3,rfl,hp3⟩;have HS3:=hD (HS6.out.trans hs3);clear hg3 hs3 hp3)
    go_ret2
    exact⟨by rw[HPE.out,HWN2.out];rfl,HBE.out _ _ HS3.out⟩
  ·have hd:decide ((k:Int)<(nc:Int))=false:=by simp;omega
   have hd2:decide (k<nc)=false:=by simp;omega
   obtain rfl:nc=k:=by omega
   have hwc:=HWC.out;rw[← HNC.out]at hwc;have HWN:=hD (hwc.trans walkC_end);have HED:=hD (ended_any HF.out HG.out);clear hwc;by_cases h0:x.f.length=0
   ·have hb0:(x.f.length==0)=true:=by simpa using h0
    rw[hb0]at HED;have HWN2:=hD (HWN.out.trans (if_neg (by show ¬ 0<(x.f.map Fv.fr).length;rw[List.length_map];omega)));exact ZbD
   ·have hb0:(x.f.length==0)=false:=by simpa using h0
    rw[hb0]at HED;have HWN2:=hD (HWN.out.trans (if_pos (by show 0<(x.f.map Fv.fr).length;rw[List.length_map];omega)));exact ZbD
end
section
open Go.RowKit
set_option maxHeartbeats 8000000
set_option maxRecDepth 100000
theorem step_rel {F:Wx} {w:World} {x:Ws} (hF:F.prg) (h:Wk F w x) (op a b n:Int) (l:List Int) (Al:Option Addr) (nl cl:Nat)
 (hE:Vt x.pl op=true→∀ w1,Wk F w1 x→WE F w x w1 x→Calls Tryz.prog 70 #[.pointer (some ⟨F.G,0,none⟩),.agg #[.int .i64 op,.int .i64 a,.int .i64 b,.int .u64 n,.slice Al nl cl]] w1 (Wo (Wn F.env x.pl ⟨op,a,b,n,l⟩) w1))
 (hFo:Vt x.pl op=true→Wn F.env x.pl ⟨op,a,b,n,l⟩=true→∀ w1,Wk F w1 x→WE F w x w1 x→Calls Tryz.prog 71 #[.pointer (some ⟨F.G,0,none⟩),.agg #[.int .i64 op,.int .i64 a,.int .i64 b,.int .u64 n,.slice Al nl cl]] w1 (Vb F w1 x (Wr F.env x.pl ⟨op,a,b,n,l⟩))) :
 Calls Tryz.prog 43 #[.pointer (some ⟨F.G,0,none⟩),.agg #[.int .i64 op,.int .i64 a,.int .i64 b,.int .u64 n,.slice Al nl cl]] w (StepPost F w x (VZ F.env x.pl ⟨op,a,b,n,l⟩)):=by
 have HE:=hD hE;have HFo:=hD hFo;have HRI:=hD (fun w=>richI_any ⟨op,a,b,n,l⟩ (.slice Al nl cl) ⟨_,_,_,rfl⟩ w);obtain⟨W,hW⟩:∃ W,W=w.alloc (.cells #[.int .i64 op,.int .i64 a,.int .i64 b,.int .u64 n,.slice Al nl cl] 76):=⟨_,rfl⟩;have hk:∀ j:Nat,W.cell? ⟨w.heap.size,j,none⟩=(#[.int .i64 op,.int .i64 a,.int .i64 b,.int .u64 n,.slice Al nl cl]:Array Value)[j]?:=fun j=>by rw[hW,wN]
 have HG1:=hD (hW ▸ h.alloc (.cells #[.int .i64 op,.int .i64 a,.int .i64 b,.int .u64 n,.slice Al nl cl] 76):Wk F W x∧WE F w x W x);have HKX:Hid (∀ wz,Below W.heap.size W wz→wz.cell? ⟨w.heap.size,0,none⟩=some (.int .i64 op)∧wz.cell? ⟨w.heap.size,1,none⟩=some (.int .i64 a)∧wz.cell? ⟨w.heap.size,2,none⟩=some (.int .i64 b)∧wz.cell? ⟨w.heap.size,3,none⟩=some (.int .u64 n)∧wz.cell? ⟨w.heap.size,4,none⟩=some (.slice Al nl cl)∧wz.cell? ⟨F.G,10,none⟩=some (.int .i64 F.prof)):=hD fun wz hz =>
  ⟨(hz.cell (wL W _ (hk 0))).trans (hk 0),(hz.cell (wL W _ (hk 1))).trans (hk 1),(hz.cell (wL W _ (hk 2))).trans (hk 2),(hz.cell (wL W _ (hk 3))).trans (hk 3),(hz.cell (wL W _ (hk 4))).trans (hk 4),((HG1.out.1.below hz).1.q hF).2.2.2.1⟩
 have HIP:=hD (inPlace_any hF HG1.out.1 op);have HW:=hD hW;obtain⟨k0,k1,k2,k3,k4,kp⟩:=HKX.out W (bR _ _);unfold VZ;clear hE hFo hk hW h;cases hin:Vt x.pl op with
 | false =>
  exact ZR
 | true =>
  rw[if_neg (by decide)];rw[hin]at HIP;generalize hpr:F.prof=pr at *;rw[show F.env.prof=pr from hpr];by_cases hp:pr=1
  ·have d1:(pr==1)=true:=by simpa using hp
   cases hri:richI ⟨op,a,b,n,l⟩ with
   | true =>
    exact ZG
   | false =>
    rw[if_neg (fun hx=>by cases hx.2)];rw[hri]at HRI;clear hri hp hpr;cases he:Wn F.env x.pl ⟨op,a,b,n,l⟩ with
    | false =>
     rw[if_pos rfl];have HEX:=hD (fun w1 g1 s1=>he ▸ HE.out hin w1 g1 s1);clear HE HFo he;go_enter Tryz.func43,Tryz.ntmps43
     go_upto_region 1 with (fail)
     rw[← HW.out];go_wp2_with (first|(go_at_call 68;refine HIP.out.mono ?_;rintro e w1 ⟨rfl,hb1⟩;have HB1:=hD (show Below W.heap.size W w1 from hb1);obtain⟨j0,j1,j2,j3,j4,jp⟩:=HKX.out w1 hb1;clear hb1)|(go_at_call 69;refine(HRI.out _).mono ?_;rintro e w2 ⟨rfl,hb2⟩;have HB2:=hD (show Below W.heap.size W w2 from Wa HB1.out hb2);obtain⟨j0,j1,j2,j3,j4,jp⟩:=HKX.out w2 HB2.out;clear hb2)|(go_at_call 70;refine(HEX.out _ (HG1.out.1.below HB2.out).1 (HG1.out.2.trans (HG1.out.1.below HB2.out).2)).mono ?_;rintro e w3 ⟨rfl,hb3⟩;have HB3:=hD (show Below W.heap.size W w3 from Wa HB2.out hb3);obtain⟨j0,j1,j2,j3,j4,jp⟩:=HKX.out w3 HB3.out;clear hb3))
     exact Z0
    | true =>
     rw[if_neg (by decide)];have HEX:=hD (fun w1 g1 s1=>he ▸ HE.out hin w1 g1 s1);have HFO:=hD (HFo.out hin he);clear HE HFo he;cases hf:Wr F.env x.pl ⟨op,a,b,n,l⟩ with
     | none =>
      rw[hf]at HFO;clear hf;go_enter Tryz.func43,Tryz.ntmps43
      go_upto_region 1 with (fail)
      rw[← HW.out];go_wp2_with (first|(go_at_call 68;refine HIP.out.mono ?_;rintro e w1 ⟨rfl,hb1⟩;have HB1:=hD (show Below W.heap.size W w1 from hb1);obtain⟨j0,j1,j2,j3,j4,jp⟩:=HKX.out w1 hb1;clear hb1)|(go_at_call 69;refine(HRI.out _).mono ?_;rintro e w2 ⟨rfl,hb2⟩;have HB2:=hD (show Below W.heap.size W w2 from Wa HB1.out hb2);obtain⟨j0,j1,j2,j3,j4,jp⟩:=HKX.out w2 HB2.out;clear hb2)|(go_at_call 70;refine(HEX.out _ (HG1.out.1.below HB2.out).1 (HG1.out.2.trans (HG1.out.1.below HB2.out).2)).mono ?_;rintro e w3 ⟨rfl,hb3⟩;have HB3:=hD (show Below W.heap.size W w3 from Wa HB2.out hb3);obtain⟨j0,j1,j2,j3,j4,jp⟩:=HKX.out w3 HB3.out;clear hb3)|(go_at_call 71;refine(HFO.out _ (HG1.out.1.below HB3.out).1 (HG1.out.2.trans (HG1.out.1.below HB3.out).2)).mono ?_;rintro e w4 ⟨x4,g4,s4,rfl,hp4⟩;have HG4:=hD g4;have HS4:=hD s4;have HP4:=hD hp4;clear g4 s4 hp4))
      exact Z3
     | some q =>
      rw[hf]at HFO;clear hf;go_enter Tryz.func43,Tryz.ntmps43
      go_upto_region 1 with (fail)
      rw[← HW.out];go_wp2_with (first|(go_at_call 68;refine HIP.out.mono ?_;rintro e w1 ⟨rfl,hb1⟩;have HB1:=hD (show Below W.heap.size W w1 from hb1);obtain⟨j0,j1,j2,j3,j4,jp⟩:=HKX.out w1 hb1;clear hb1)|(go_at_call 69;refine(HRI.out _).mono ?_;rintro e w2 ⟨rfl,hb2⟩;have HB2:=hD (show Below W.heap.size W w2 from Wa HB1.out hb2);obtain⟨j0,j1,j2,j3,j4,jp⟩:=HKX.out w2 HB2.out;clear hb2)|(go_at_call 70;refine(HEX.out _ (HG1.out.1.below HB2.out).1 (HG1.out.2.trans (HG1.out.1.below HB2.out).2)).mono ?_;rintro e w3 ⟨rfl,hb3⟩;have HB3:=hD (show Below W.heap.size W w3 from Wa HB2.out hb3);obtain⟨j0,j1,j2,j3,j4,jp⟩:=HKX.out w3 HB3.out;clear hb3)|(go_at_call 71;refine(HFO.out _ (HG1.out.1.below HB3.out).1 (HG1.out.2.trans (HG1.out.1.below HB3.out).2)).mono ?_;rintro e w4 ⟨x4,g4,s4,rfl,hp4⟩;have HG4:=hD g4;have HS4:=hD s4;have HP4:=hD hp4;clear g4 s4 hp4))
      exact Z4
  ·have d1:(pr==1)=false:=by simpa using hp
   rw[if_neg (fun hx=>hp hx.1)];clear hp hpr;cases he:Wn F.env x.pl ⟨op,a,b,n,l⟩ with
   | false =>
    rw[if_pos rfl];have HEX:=hD (fun w1 g1 s1=>he ▸ HE.out hin w1 g1 s1);clear HE HFo he;go_enter Tryz.func43,Tryz.ntmps43
    go_upto_region 1 with (fail)
    rw[← HW.out];go_wp2_with (first|(go_at_call 68;refine HIP.out.mono ?_;rintro e w1 ⟨rfl,hb1⟩;have HB1:=hD (show Below W.heap.size W w1 from hb1);obtain⟨j0,j1,j2,j3,j4,jp⟩:=HKX.out w1 hb1;clear hb1)|(go_at_call 70;refine(HEX.out _ (HG1.out.1.below HB1.out).1 (HG1.out.2.trans (HG1.out.1.below HB1.out).2)).mono ?_;rintro e w3 ⟨rfl,hb3⟩;have HB3:=hD (show Below W.heap.size W w3 from Wa HB1.out hb3);obtain⟨j0,j1,j2,j3,j4,jp⟩:=HKX.out w3 HB3.out;clear hb3))
    exact Z0
   | true =>
    rw[if_neg (by decide)];have HEX:=hD (fun w1 g1 s1=>he ▸ HE.out hin w1 g1 s1);have HFO:=hD (HFo.out hin he);clear HE HFo he;cases hf:Wr F.env x.pl ⟨op,a,b,n,l⟩ with
    | none =>
     rw[hf]at HFO;clear hf;go_enter Tryz.func43,Tryz.ntmps43
     go_upto_region 1 with (fail)
     rw[← HW.out];go_wp2_with (first|(go_at_call 68;refine HIP.out.mono ?_;rintro e w1 ⟨rfl,hb1⟩;have HB1:=hD (show Below W.heap.size W w1 from hb1);obtain⟨j0,j1,j2,j3,j4,jp⟩:=HKX.out w1 hb1;clear hb1)|(go_at_call 70;refine(HEX.out _ (HG1.out.1.below HB1.out).1 (HG1.out.2.trans (HG1.out.1.below HB1.out).2)).mono ?_;rintro e w3 ⟨rfl,hb3⟩;have HB3:=hD (show Below W.heap.size W w3 from Wa HB1.out hb3);obtain⟨j0,j1,j2,j3,j4,jp⟩:=HKX.out w3 HB3.out;clear hb3)|(go_at_call 71;refine(HFO.out _ (HG1.out.1.below HB3.out).1 (HG1.out.2.trans (HG1.out.1.below HB3.out).2)).mono ?_;rintro e w4 ⟨x4,g4,s4,rfl,hp4⟩;have HG4:=hD g4;have HS4:=hD s4;have HP4:=hD hp4;clear g4 s4 hp4))
     exact Z3
    | some q =>
     rw[hf]at HFO;clear hf;go_enter Tryz.func43,Tryz.ntmps43
     go_upto_region 1 with (fail)
     rw[← HW.out];go_wp2_with (first|(go_at_call 68;refine HIP.out.mono ?_;rintro e w1 ⟨rfl,hb1⟩;have HB1:=hD (show Below W.heap.size W w1 from hb1);obtain⟨j0,j1,j2,j3,j4,jp⟩:=HKX.out w1 hb1;clear hb1)|(go_at_call 70;refine(HEX.out _ (HG1.out.1.below HB1.out).1 (HG1.out.2.trans (HG1.out.1.below HB1.out).2)).mono ?_;rintro e w3 ⟨rfl,hb3⟩;have HB3:=hD (show Below W.heap.size W w3 from Wa HB1.out hb3);obtain⟨j0,j1,j2,j3,j4,jp⟩:=HKX.out w3 HB3.out;clear hb3)|(go_at_call 71;refine(HFO.out _ (HG1.out.1.below HB3.out).1 (HG1.out.2.trans (HG1.out.1.below HB3.out).2)).mono ?_;rintro e w4 ⟨x4,g4,s4,rfl,hp4⟩;have HG4:=hD g4;have HS4:=hD s4;have HP4:=hD hp4;clear g4 s4 hp4))
     exact Z4
end
end Go.Proofs.YtepgopnnaeoolaaGreatDoor
