/- A part of the proof. -/
import Derived.Test.YtmfpnfdinoofpaaGreatDoorJ17
namespace Go.Proofs.YtmfpnfdinoofpaaGreatDoor
section
open Go.RowKit
set_option maxHeartbeats 8000000
set_option maxRecDepth 100000
theorem Z3 {P:Prop}(h:P:=by
 rw[if_pos ⟨hp,rfl⟩];rw[hri]at HRI;clear hri hin HE HFo hp hpr;go_enter Tryz.func47,Tryz.ntmps47
 go_upto_region 1 with (fail)
 rw[← HW.out];go_wp2_with (first|(go_at_call 81;refine HIP.out.mono ?_;rintro e w1 ⟨rfl,hb1⟩;have HB1:=hD (show Below W.heap.size W w1 from hb1);obtain⟨j0,j1,j2,j3,j4,jp⟩:=HKX.out w1 hb1;clear hb1)|(go_at_call 82;refine(HRI.out _).mono ?_;rintro e w2 ⟨rfl,hb2⟩;have HB2:=hD (show Below W.heap.size W w2 from Wa HB1.out hb2);obtain⟨j0,j1,j2,j3,j4,jp⟩:=HKX.out w2 HB2.out;clear hb2))
 go_ret;exact⟨x,(HG1.out.1.below HB2.out).1,HG1.out.2.trans (HG1.out.1.below HB2.out).2,rfl,fun hx=>(by simp at hx)⟩):P:=h
theorem Zbn {P:Prop}(h:P:=by
 rw[if_pos rfl];rw[hin]at HIP;clear hin HE HFo;go_enter Tryz.func47,Tryz.ntmps47
 go_upto_region 1 with (fail)
 rw[← HW.out];go_wp2_with (first|(go_at_call 81;refine HIP.out.mono ?_;rintro e w1 ⟨rfl,hb1⟩;have HB1:=hD (show Below W.heap.size W w1 from hb1);obtain⟨j0,j1,j2,j3,j4,jp⟩:=HKX.out w1 hb1;clear hb1))
 go_ret;exact⟨x,(HG1.out.1.below HB1.out).1,HG1.out.2.trans (HG1.out.1.below HB1.out).2,rfl,fun hx=>(by simp at hx)⟩):P:=h
theorem Zby {P:Prop}(h:P:=by
 go_ret;exact⟨x,(HG1.out.1.below HB3.out).1,HG1.out.2.trans (HG1.out.1.below HB3.out).2,rfl,fun hx=>(by simp at hx)⟩):P:=h
theorem ZbA {P:Prop}(h:P:=by
 go_ret;exact⟨x4,HG4.out,(HG1.out.2.trans (HG1.out.1.below HB3.out).2).trans HS4.out,rfl,fun hx=>(by simp at hx)⟩):P:=h
theorem ZbB {P:Prop}(h:P:=by
 go_ret;exact⟨x4,HG4.out,(HG1.out.2.trans (HG1.out.1.below HB3.out).2).trans HS4.out,rfl,fun _=>HP4.out q rfl⟩):P:=h
def StepPost (F:Wx) (w:World) (x:Ws) (r:Int×Pl) (e:Ending) (w':World):Prop :=
 ∃ x',Wk F w' x'∧Wz F w x w' x'∧e=.returned (.int .i64 r.1)∧(r.1=0→x'.pl=r.2)
theorem step_of {F:Wx} {w:World} {x:Ws} (hF:F.prg) (h:Wk F w x) (op a b n:Int) (l:List Int) (Al:Option Addr) (nl cl:Nat)
 (hE:Vc x.pl op=true→∀ w1,Wk F w1 x→Calls Tryz.prog 83 #[.pointer (some ⟨F.G,0,none⟩),.agg #[.int .i64 op,.int .i64 a,.int .i64 b,.int .u64 n,.slice Al nl cl]] w1 (Wh (Wo F.env x.pl ⟨op,a,b,n,l⟩) w1))
 (hFo:Vc x.pl op=true→Wo F.env x.pl ⟨op,a,b,n,l⟩=true→∀ w1,Wk F w1 x→Calls Tryz.prog 84 #[.pointer (some ⟨F.G,0,none⟩),.agg #[.int .i64 op,.int .i64 a,.int .i64 b,.int .u64 n,.slice Al nl cl]] w1 (Vy F w1 x (Wu F.env x.pl ⟨op,a,b,n,l⟩))) :
 Calls Tryz.prog 47 #[.pointer (some ⟨F.G,0,none⟩),.agg #[.int .i64 op,.int .i64 a,.int .i64 b,.int .u64 n,.slice Al nl cl]] w (StepPost F w x (Vr F.env x.pl ⟨op,a,b,n,l⟩)):=by
 have HE:=hD hE;have HFo:=hD hFo;have HRI:=hD (fun w=>richI_any ⟨op,a,b,n,l⟩ (.slice Al nl cl) ⟨_,_,_,rfl⟩ w);obtain⟨W,hW⟩:∃ W,W=w.alloc (.cells #[.int .i64 op,.int .i64 a,.int .i64 b,.int .u64 n,.slice Al nl cl] 25):=⟨_,rfl⟩;have hk:∀ j:Nat,W.cell? ⟨w.heap.size,j,none⟩=(#[.int .i64 op,.int .i64 a,.int .i64 b,.int .u64 n,.slice Al nl cl]:Array Value)[j]?:=fun j=>by rw[hW,wN]
 have HG1:=hD (hW ▸ h.alloc (.cells #[.int .i64 op,.int .i64 a,.int .i64 b,.int .u64 n,.slice Al nl cl] 25):Wk F W x∧Wz F w x W x);have HKX:Hid (∀ wz,Below W.heap.size W wz→wz.cell? ⟨w.heap.size,0,none⟩=some (.int .i64 op)∧wz.cell? ⟨w.heap.size,1,none⟩=some (.int .i64 a)∧wz.cell? ⟨w.heap.size,2,none⟩=some (.int .i64 b)∧wz.cell? ⟨w.heap.size,3,none⟩=some (.int .u64 n)∧wz.cell? ⟨w.heap.size,4,none⟩=some (.slice Al nl cl)∧wz.cell? ⟨F.G,10,none⟩=some (.int .i64 F.prof)):=hD fun wz hz =>
  ⟨(hz.cell (wL W _ (hk 0))).trans (hk 0),(hz.cell (wL W _ (hk 1))).trans (hk 1),(hz.cell (wL W _ (hk 2))).trans (hk 2),(hz.cell (wL W _ (hk 3))).trans (hk 3),(hz.cell (wL W _ (hk 4))).trans (hk 4),((HG1.out.1.below hz).1.q hF).2.2.2.1⟩
 have HIP:=hD (inPlace_any hF HG1.out.1 op);have HW:=hD hW;obtain⟨k0,k1,k2,k3,k4,kp⟩:=HKX.out W (bR _ _);unfold Vr;clear hE hFo hk hW h;cases hin:Vc x.pl op with
 | false =>
  exact Zbn
 | true =>
  rw[if_neg (by decide)];rw[hin]at HIP;generalize hpr:F.prof=pr at *;rw[show F.env.prof=pr from hpr];by_cases hp:pr=1
  ·have d1:(pr==1)=true:=by simpa using hp
   cases hri:richI ⟨op,a,b,n,l⟩ with
   | true =>
    exact Z3
   | false =>
    rw[if_neg (fun hx=>by cases hx.2)];rw[hri]at HRI;clear hri hp hpr;cases he:Wo F.env x.pl ⟨op,a,b,n,l⟩ with
    | false =>
     rw[if_pos rfl];have HEX:=hD (fun w1 g1=>he ▸ HE.out hin w1 g1);clear HE HFo he;go_enter Tryz.func47,Tryz.ntmps47
     go_upto_region 1 with (fail)
     rw[← HW.out];go_wp2_with (first|(go_at_call 81;refine HIP.out.mono ?_;rintro e w1 ⟨rfl,hb1⟩;have HB1:=hD (show Below W.heap.size W w1 from hb1);obtain⟨j0,j1,j2,j3,j4,jp⟩:=HKX.out w1 hb1;clear hb1)|(go_at_call 82;refine(HRI.out _).mono ?_;rintro e w2 ⟨rfl,hb2⟩;have HB2:=hD (show Below W.heap.size W w2 from Wa HB1.out hb2);obtain⟨j0,j1,j2,j3,j4,jp⟩:=HKX.out w2 HB2.out;clear hb2)|(go_at_call 83;refine(HEX.out _ (HG1.out.1.below HB2.out).1).mono ?_;rintro e w3 ⟨rfl,hb3⟩;have HB3:=hD (show Below W.heap.size W w3 from Wa HB2.out hb3);obtain⟨j0,j1,j2,j3,j4,jp⟩:=HKX.out w3 HB3.out;clear hb3))
     exact Zby
    | true =>
     rw[if_neg (by decide)];have HEX:=hD (fun w1 g1=>he ▸ HE.out hin w1 g1);have HFO:=hD (HFo.out hin he);clear HE HFo he;cases hf:Wu F.env x.pl ⟨op,a,b,n,l⟩ with
     | none =>
      rw[hf]at HFO;clear hf;go_enter Tryz.func47,Tryz.ntmps47
      go_upto_region 1 with (fail)
      rw[← HW.out];go_wp2_with (first|(go_at_call 81;refine HIP.out.mono ?_;rintro e w1 ⟨rfl,hb1⟩;have HB1:=hD (show Below W.heap.size W w1 from hb1);obtain⟨j0,j1,j2,j3,j4,jp⟩:=HKX.out w1 hb1;clear hb1)|(go_at_call 82;refine(HRI.out _).mono ?_;rintro e w2 ⟨rfl,hb2⟩;have HB2:=hD (show Below W.heap.size W w2 from Wa HB1.out hb2);obtain⟨j0,j1,j2,j3,j4,jp⟩:=HKX.out w2 HB2.out;clear hb2)|(go_at_call 83;refine(HEX.out _ (HG1.out.1.below HB2.out).1).mono ?_;rintro e w3 ⟨rfl,hb3⟩;have HB3:=hD (show Below W.heap.size W w3 from Wa HB2.out hb3);obtain⟨j0,j1,j2,j3,j4,jp⟩:=HKX.out w3 HB3.out;clear hb3)|(go_at_call 84;refine(HFO.out _ (HG1.out.1.below HB3.out).1).mono ?_;rintro e w4 ⟨x4,g4,s4,rfl,hp4⟩;have HG4:=hD g4;have HS4:=hD s4;have HP4:=hD hp4;clear g4 s4 hp4))
      exact ZbA
     | some q =>
      rw[hf]at HFO;clear hf;go_enter Tryz.func47,Tryz.ntmps47
      go_upto_region 1 with (fail)
      rw[← HW.out];go_wp2_with (first|(go_at_call 81;refine HIP.out.mono ?_;rintro e w1 ⟨rfl,hb1⟩;have HB1:=hD (show Below W.heap.size W w1 from hb1);obtain⟨j0,j1,j2,j3,j4,jp⟩:=HKX.out w1 hb1;clear hb1)|(go_at_call 82;refine(HRI.out _).mono ?_;rintro e w2 ⟨rfl,hb2⟩;have HB2:=hD (show Below W.heap.size W w2 from Wa HB1.out hb2);obtain⟨j0,j1,j2,j3,j4,jp⟩:=HKX.out w2 HB2.out;clear hb2)|(go_at_call 83;refine(HEX.out _ (HG1.out.1.below HB2.out).1).mono ?_;rintro e w3 ⟨rfl,hb3⟩;have HB3:=hD (show Below W.heap.size W w3 from Wa HB2.out hb3);obtain⟨j0,j1,j2,j3,j4,jp⟩:=HKX.out w3 HB3.out;clear hb3)|(go_at_call 84;refine(HFO.out _ (HG1.out.1.below HB3.out).1).mono ?_;rintro e w4 ⟨x4,g4,s4,rfl,hp4⟩;have HG4:=hD g4;have HS4:=hD s4;have HP4:=hD hp4;clear g4 s4 hp4))
      exact ZbB
  ·have d1:(pr==1)=false:=by simpa using hp
   rw[if_neg (fun hx=>hp hx.1)];clear hp hpr;cases he:Wo F.env x.pl ⟨op,a,b,n,l⟩ with
   | false =>
    rw[if_pos rfl];have HEX:=hD (fun w1 g1=>he ▸ HE.out hin w1 g1);clear HE HFo he;go_enter Tryz.func47,Tryz.ntmps47
    go_upto_region 1 with (fail)
    rw[← HW.out];go_wp2_with (first|(go_at_call 81;refine HIP.out.mono ?_;rintro e w1 ⟨rfl,hb1⟩;have HB1:=hD (show Below W.heap.size W w1 from hb1);obtain⟨j0,j1,j2,j3,j4,jp⟩:=HKX.out w1 hb1;clear hb1)|(go_at_call 83;refine(HEX.out _ (HG1.out.1.below HB1.out).1).mono ?_;rintro e w3 ⟨rfl,hb3⟩;have HB3:=hD (show Below W.heap.size W w3 from Wa HB1.out hb3);obtain⟨j0,j1,j2,j3,j4,jp⟩:=HKX.out w3 HB3.out;clear hb3))
    exact Zby
   | true =>
    rw[if_neg (by decide)];have HEX:=hD (fun w1 g1=>he ▸ HE.out hin w1 g1);have HFO:=hD (HFo.out hin he);clear HE HFo he;cases hf:Wu F.env x.pl ⟨op,a,b,n,l⟩ with
    | none =>
     rw[hf]at HFO;clear hf;go_enter Tryz.func47,Tryz.ntmps47
     go_upto_region 1 with (fail)
     rw[← HW.out];go_wp2_with (first|(go_at_call 81;refine HIP.out.mono ?_;rintro e w1 ⟨rfl,hb1⟩;have HB1:=hD (show Below W.heap.size W w1 from hb1);obtain⟨j0,j1,j2,j3,j4,jp⟩:=HKX.out w1 hb1;clear hb1)|(go_at_call 83;refine(HEX.out _ (HG1.out.1.below HB1.out).1).mono ?_;rintro e w3 ⟨rfl,hb3⟩;have HB3:=hD (show Below W.heap.size W w3 from Wa HB1.out hb3);obtain⟨j0,j1,j2,j3,j4,jp⟩:=HKX.out w3 HB3.out;clear hb3)|(go_at_call 84;refine(HFO.out _ (HG1.out.1.below HB3.out).1).mono ?_;rintro e w4 ⟨x4,g4,s4,rfl,hp4⟩;have HG4:=hD g4;have HS4:=hD s4;have HP4:=hD hp4;clear g4 s4 hp4))
     exact ZbA
    | some q =>
     rw[hf]at HFO;clear hf;go_enter Tryz.func47,Tryz.ntmps47
     go_upto_region 1 with (fail)
     rw[← HW.out];go_wp2_with (first|(go_at_call 81;refine HIP.out.mono ?_;rintro e w1 ⟨rfl,hb1⟩;have HB1:=hD (show Below W.heap.size W w1 from hb1);obtain⟨j0,j1,j2,j3,j4,jp⟩:=HKX.out w1 hb1;clear hb1)|(go_at_call 83;refine(HEX.out _ (HG1.out.1.below HB1.out).1).mono ?_;rintro e w3 ⟨rfl,hb3⟩;have HB3:=hD (show Below W.heap.size W w3 from Wa HB1.out hb3);obtain⟨j0,j1,j2,j3,j4,jp⟩:=HKX.out w3 HB3.out;clear hb3)|(go_at_call 84;refine(HFO.out _ (HG1.out.1.below HB3.out).1).mono ?_;rintro e w4 ⟨x4,g4,s4,rfl,hp4⟩;have HG4:=hD g4;have HS4:=hD s4;have HP4:=hD hp4;clear g4 s4 hp4))
     exact ZbB
end
section
open Go.RowKit
set_option maxHeartbeats 1000000
set_option maxRecDepth 100000
theorem ZO {P:Prop}(h:P:=by
 go_enter Tryz.func77,Tryz.ntmps77;go_wp2;exact bodyPost_ret (v:=.tuple #[.agg #[.slice none 0 0,.slice none 0 0],.bool false]) (by simp[results,Tryz.results77,go_sem]) rfl ⟨rfl,((bR _ _).alloc (nR _) _).alloc (by simp) _⟩):P:=h
theorem Zbm {P:Prop}(h:P:=by
 by_cases hi:d<m.imps.length
 ·exact⟨_,fsigB_imp hi,.inl ⟨by rw[List.length_map];exact hi,getD_map' _ _ d _ 0 hi⟩⟩
 ·obtain⟨e,rfl⟩:∃ e,d=m.imps.length+e:=⟨d - m.imps.length,by omega⟩;have he:e<m.funs.length:=by omega
  exact⟨_,fsigB_fun he,.inr ⟨by rw[List.length_map];omega,by rw[List.length_map,List.length_map];omega,by rw[List.length_map,Nat.add_sub_cancel_left];exact getD_map' _ _ e _ 0 he⟩⟩):P:=h
theorem Zb7 {P:Prop}(h:P:=by
 by_cases hz0:z<0
 ·have d0:decide (z<0)=true:=decide_eq_true hz0;clear hz hz0;exact ZO
 ·have d0:decide (z<0)=false:=decide_eq_false hz0;have d1:decide ((nt:Int)≤z)=true:=by simp;omega
  clear hz hz0;exact ZO):P:=h
theorem ZcM {P:Prop}(h:P:=by
 rw[typeB_none hk];exact(rsig_bad _ w _ _ _ _ _ _ _ A0 c0 _ _ _ h1 h2 (by rw[List.length_map,List.length_map];omega) d z hf hk).mono fun _ _ h=>h.typ):P:=h
theorem Zdf {P:Prop}(h:P:=by
 rw[fsigB_none hr];exact(rsig_far w _ _ _ _ _ A0 A1 A2 c0 c1 c2 _ _ _ (by omega) f hr).mono fun _ _ h=>h.typ):P:=h
theorem getD_map' {α β:Type} (l:List α) (f:α→β) (j:Nat) (d:α) (d':β) (h:j<l.length):(l.map f).getD j d'=f (l.getD j d):=by
 rw[List.getD_eq_getElem?_getD,List.getD_eq_getElem?_getD,List.getElem?_map,List.getElem?_eq_getElem h];rfl
theorem Wd.mono' {K:Nat→Prop} {w:World} {v:Value} {n size:Nat} {f f':Nat→Nat→Value→Prop} (h:Wd K w v n size f) (hf:∀ j i u,j<n→i<size→f j i u→f' j i u):Wd K w v n size f':=by
 obtain⟨A,c,rfl,h1,h2,h0,h3⟩:=h;refine⟨A,c,rfl,h1,h2,h0,fun hl=>?_⟩;obtain⟨g,o,rfl,h4,h5⟩:=h3 hl;refine⟨g,o,rfl,h4,fun j i hj hi=>?_⟩;obtain⟨u,h6,h7⟩:=h5 j i hj hi;exact⟨u,h6,hf j i u hj hi h7⟩
theorem imps_fieldK {K:Nat→Prop} {w:World} {v:Value} {l:List (ByteArray×ByteArray×Int)} (h:ImpsK K w v l):Ut K w v 3 2 (l.map fun x=>x.2.2):=by
 unfold Ut;rw[List.length_map];refine Wd.mono' h fun j i u hj hi hu e=>?_;subst e;rw[getD_map' l _ j (ByteArray.empty,ByteArray.empty,0) 0 hj];exact hu
theorem funs_fieldK {K:Nat→Prop} {w:World} {v:Value} {l:List Fnc} (h:FunsK K w v l):Ut K w v 3 0 (l.map Fnc.ty):=by
 unfold Ut;rw[List.length_map];refine Wd.mono' h fun j i u hj hi hu e=>?_;subst e;rw[getD_map' l _ j WW 0 hj];exact hu
def NoneC (w:World) (e:Ending) (w':World):Prop:=e=.returned (.tuple #[.agg #[.slice none 0 0,.slice none 0 0],.bool false])∧Below w.heap.size w w'
theorem rsig_far (w:World) (m3 m4 m5 m6 m7:Value) (A0 A1 A2:Option Addr) (c0 c1 c2 nt ni nf:Nat) (hn:ni+nf≤1000000) (f:Int) (hf:f<0∨(ni:Int)+nf≤f) :
 Calls Tryz.prog 77 #[.agg #[.slice A0 nt c0,.slice A1 ni c1,.slice A2 nf c2,m3,m4,m5,m6,m7],.int .i64 f] w (NoneC w):=by
 have e1:IntKind.i64.wrap ((ni:Int)+(nf:Int))=(ni:Int)+(nf:Int):=IntWalk.i64_in _ (by omega);rcases hf with hf|hf
 ·have d2:decide ((0:Int)≤f)=false:=by simp;omega
  clear hf;exact ZO
 ·have d2:decide ((0:Int)≤f)=true:=by simp;omega
  have d3:decide (f<(ni:Int))=false:=by simp;omega
  have d4:decide (f<(ni:Int)+(nf:Int))=false:=by simp;omega
  clear hf;exact ZO
theorem rsig_bad (K:Nat→Prop) (w:World) (m1 m2 m3 m4 m5 m6 m7:Value) (A0:Option Addr) (c0 nt:Nat) (is fs:List Int) (h1:Ut K w m1 3 2 is) (h2:Ut K w m2 3 0 fs) (hn:nt+is.length+fs.length≤1000000) (f:Nat) (z:Int)
 (hf:(f<is.length∧is.getD f 0=z)∨(is.length≤f∧f<is.length+fs.length∧fs.getD (f - is.length) 0=z)) (hz:z<0∨(nt:Int)≤z) :
 Calls Tryz.prog 77 #[.agg #[.slice A0 nt c0,m1,m2,m3,m4,m5,m6,m7],.int .i64 (f:Int)] w (NoneC w):=by
 have d2:decide ((0:Int)≤(f:Int))=true:=by simp
 rcases hf with ⟨hlt,hft⟩|⟨hge,hlt,hft⟩
 ·obtain⟨g1,o1,c1,rfl,_,_⟩:=Wd.some_ h1 (by omega);have k1:=US (h1.at_ f hlt (by omega));rw[hft]at k1;generalize hI:is.length=ni at *;clear hI hft h1 h2;have d3:decide ((f:Int)<(ni:Int))=true:=by simp;omega
  exact Zb7
 ·obtain⟨g2,o2,c2,rfl,_,_⟩:=Wd.some_ h2 (by omega);obtain⟨A1,c1,rfl,_,_⟩:=Wd.form h1;have k1:=US (h2.at_ (f - is.length) (by omega) (by omega));rw[hft]at k1;obtain⟨d,hd⟩:∃ d:Nat,f=is.length+d:=⟨f - is.length,by omega⟩;rw[show f - is.length=d by omega]at k1;simp only[Nat.add_zero]at k1;generalize hI:is.length=ni at *;generalize hF:fs.length=nf at *;clear hI hF hft h1 h2;have d3:decide ((f:Int)<(ni:Int))=false:=by simp;omega
  have e1:IntKind.i64.wrap ((ni:Int)+(nf:Int))=(ni:Int)+(nf:Int):=IntWalk.i64_in _ (by omega);have d4:decide ((f:Int)<(ni:Int)+(nf:Int))=true:=by simp;omega
  have e2:IntKind.i64.wrap ((f:Int) - (ni:Int))=(d:Int):=by rw[show(f:Int) - (ni:Int)=(d:Int) by omega];exact IntWalk.i64_in _ (by omega)
  have d5:d<nf:=by omega
  clear hd;exact Zb7
theorem NoneC.typ {K:Nat→Prop} {w w':World} {e:Ending} (h:NoneC w e w'):TypPost K none w e w' :=
 ⟨_,_,h.1,Wf.nil _ _,Wf.nil _ _,h.2⟩
theorem SigPost.typ {K:Nat→Prop} {t:List Int×List Int} {w w':World} {e:Ending} (hK:∀ k,K k→k<w.heap.size) (h:SigPost K t w e w'):TypPost K (some t) w e w':=by
 obtain⟨p,r,he,h1,h2,hb⟩:=h;exact⟨p,r,he,h1.keep (We.below hb hK) fun _ hk=>.inl hk,h2.keep (We.below hb hK) fun _ hk=>.inl hk,hb⟩
theorem dsig_any (w:World) (v:Mv) (m:Vt) (h:W7 (fun k=>k<w.heap.size) w v m) (hs:Vq m) (f:Int) :
 Calls Tryz.prog 77 #[.agg v.cells,.int .i64 f] w (TypPost (fun k=>k<w.heap.size) (WB m f) w):=by
 have h0:=h.types;have h1:=imps_fieldK h.imps;have h2:=funs_fieldK h.funs;obtain⟨A0,c0,A1,c1,A2,c2,A3,c3,A4,c4,A5,c5,A6,c6,A7,c7,rfl⟩:=Wr h;simp only[Mv.cells]at h0 h1 h2 ⊢;obtain⟨s0,s1,s2,_⟩:=hs;by_cases hr:f<0∨(m.imps.length:Int)+m.funs.length≤f
 ·exact Zdf
 ·obtain⟨d,rfl⟩:∃ d:Nat,f=d:=⟨f.toNat,by omega⟩;obtain⟨z,hz,hf⟩:∃ z:Int,WB m (d:Int)=Uo m z∧((d<(m.imps.map fun x=>x.2.2).length∧(m.imps.map fun x=>x.2.2).getD d 0=z)∨((m.imps.map fun x=>x.2.2).length≤d∧d<(m.imps.map fun x=>x.2.2).length+(m.funs.map Fnc.ty).length∧(m.funs.map Fnc.ty).getD (d - (m.imps.map fun x=>x.2.2).length) 0=z)):=by
   exact Zbm
  rw[hz];by_cases hk:z<0∨(m.types.length:Int)≤z
  ·exact ZcM
  ·obtain⟨t,rfl⟩:∃ t:Nat,z=t:=⟨z.toNat,by omega⟩;rw[typeB_some (by omega)];exact(rsig_yes _ w _ _ _ _ _ _ _ _ m.types _ _ h0 h1 h2 (by rw[List.length_map,List.length_map];omega) d t hf (by omega)).mono fun _ _ h=>h.typ fun _ h=>h
theorem dloc_none (w:World) (v:Mv) (m:Vt) (h:W7 (fun k=>k<w.heap.size) w v m) (hs:Vq m) (f:Int) (hf:WB m f=none∨f<m.imps.length) :
 Calls Tryz.prog 85 #[.agg v.cells,.int .i64 f] w (LocPost [] w):=by
 have HSG:=hD (fun wz (hb:Below w.heap.size w wz)=>dsig_any wz v m (h.keep (We.below hb fun _ hk=>hk) fun _ hk=>Ve hk hb.size) hs f);obtain⟨A0,c0,A1,c1,A2,c2,A3,c3,A4,c4,A5,c5,A6,c6,A7,c7,rfl⟩:=Wr h;simp only[Mv.cells]at HSG ⊢;clear h hs;generalize WB m f=t at *;generalize m.types.length=n0 at *;generalize m.imps.length=n1 at *;generalize m.funs.length=n2 at *;generalize m.mems.length=n3 at *;generalize m.globs.length=n4 at *;generalize m.exps.length=n5 at *;generalize m.datas.length=n6 at *;generalize m.cus.length=n7 at *;have hb0:=(bR w.heap.size w).alloc (nR _) (.cells #[.slice A0 n0 c0,.slice A1 n1 c1,.slice A2 n2 c2,.slice A3 n3 c3,.slice A4 n4 c4,.slice A5 n5 c5,.slice A6 n6 c6,.slice A7 n7 c7] 37);have HQ:=hD (HSG.out _ hb0);have HB0:=hD hb0;have HBX:=hD (fun wz hb=>UB w (.slice A0 n0 c0) (.slice A1 n1 c1) (.slice A2 n2 c2) (.slice A3 n3 c3) (.slice A4 n4 c4) (.slice A5 n5 c5) (.slice A6 n6 c6) (.slice A7 n7 c7) (wz:=wz) hb);have HF:=hD hf;clear hb0 HSG hf;go_enter Tryz.func85,Tryz.ntmps85;go_wp2_with fail
 go_at_call 77;refine HQ.out.mono ?_;rintro e w1 ⟨p',r',rfl,hi1,hi2,hb1⟩;obtain⟨P1,e1,hq1,_,_⟩:=hi1.form;obtain⟨P2,e2,hq2,_,_⟩:=hi2.form;rw[hq1];rw[hq2];obtain⟨b0,b1,b2,_⟩:=HBX.out _ (Wb hb1 (.cells #[.slice P1 (t.getD ([],[])).1.length e1,.slice P2 (t.getD ([],[])).2.length e2] 40));have HB1:=hD (Wa HB0.out hb1);clear hi1 hi2 hq1 hq2 HQ hb1 HB0 HBX;cases t with
 | none =>
  clear HF;simp only[Option.isSome_none,Option.getD_none,List.length_nil]at *;go_wp2;go_ret;exact⟨_,rfl,Wf.nil _ _,Wb HB1.out _⟩
 | some t =>
  have hlt:f<(n1:Int):=HF.out.elim (fun h=>by cases h) fun h=>h;have d0:decide (f<(n1:Int))=true:=decide_eq_true hlt;clear HF hlt;simp only[Option.isSome_some,Option.getD_some]at *;go_wp2;go_ret;exact⟨_,rfl,Wf.nil _ _,Wb HB1.out _⟩
theorem dlocals_any (w:World) (v:Mv) (m:Vt) (h:W7 (fun k=>k<w.heap.size) w v m) (hs:Vq m) (f:Int) :
 Calls Tryz.prog 85 #[.agg v.cells,.int .i64 f] w (LocPost (locB m f) w):=by
 rcases hn:WB m f with _|t
 ·rw[locB_none hn];exact dloc_none w v m h hs f (.inl hn)
 ·by_cases hlt:f<m.imps.length
  ·rw[locB_imp hn hlt];exact dloc_none w v m h hs f (.inr hlt)
  ·obtain⟨hf0,hf1⟩:=fsigB_some_lt hn;obtain⟨d,rfl⟩:∃ d:Nat,f=((m.imps.length+d:Nat):Int):=⟨(f - m.imps.length).toNat,by omega⟩;have hd:d<m.funs.length:=by omega
   rw[locB_fun hn];have hq:=hn;rw[fsigB_fun hd]at hq;have hty:0≤(m.funs.getD d WW).ty∧(m.funs.getD d WW).ty<m.types.length∧t=m.types.getD (m.funs.getD d WW).ty.toNat ([],[]):=by
    unfold Uo at hq
    split at hq
    ·rename_i h9
     exact⟨h9.1,h9.2,(Option.some.inj hq).symm⟩
    ·cases hq
   obtain⟨h90,h91,rfl⟩:=hty;obtain⟨k,hk⟩:∃ k:Nat,(m.funs.getD d WW).ty=k:=⟨(m.funs.getD d WW).ty.toNat,by omega⟩;rw[hk]at h90 h91 ⊢;rw[Int.toNat_natCast];have hkt:k<m.types.length:=by omega
   obtain⟨s0,s1,s2,s3,s4⟩:=hs;have h0:=h.types;have h1:=imps_fieldK h.imps;have h2:=funs_fieldK h.funs;have h2f:=h.funs;obtain⟨g2,o2,cc2,he,_,_⟩:=Wd.some_ h2f (by omega);obtain⟨u,ku,hu⟩:∃ u,w.cell? ⟨g2,o2+d * 3+1,none⟩=some u∧Wf (fun k=>k<w.heap.size) w u (m.funs.getD d WW).loc:=by
    have h2g:=h2f;rw[he]at h2g;obtain⟨u,ku,hu⟩:=Wd.at_ h2g d 1 hd (by decide);exact⟨u,ku,hu⟩
   have hg:=rloc_gen w (fun k=>k<w.heap.size) (fun _ h=>h) v.m0 v.m1 v.m2 v.m3 v.m4 v.m5 v.m6 v.m7 m.types _ _ h0 h1 h2 (by rw[List.length_map,List.length_map];omega) d k (by rw[List.length_map];exact hd) (by rw[getD_map' _ _ d WW 0 hd];exact hk) hkt ((s3 _ (WA m.types k ([],[]) hkt)).1) u (m.funs.getD d WW).loc (fun g o n c hm2=>by
    rw[he]at hm2;simp only[vI,Option.some.injEq,Addr.mk.injEq,and_true]at hm2;obtain⟨⟨rfl,rfl⟩,_,_⟩:=hm2;exact ku) hu (s4 _ (WA m.funs d WW hd))
   rw[List.length_map]at hg;exact hg
end
section
open Go.RowKit
set_option maxHeartbeats 4000000
set_option maxRecDepth 100000
theorem ZbK {P:Prop}(h:P:=by
 go_wp2_with (go_at_call 159;refine(AG.out _).mono ?_;rintro e w6 ⟨rfl,rfl⟩)
 go_ret;exact⟨x5,HG5.out,HSS.out,rfl,fun q hq=>(by cases hq)⟩):P:=h
theorem ZcO {P:Prop}(h:P:=by
 go_wp2_with (go_at_call 129;refine HTK.out.mono ?_;rintro e w3 ⟨rfl,x3,g3,s3,-⟩;have HG3:=hD g3;have HS3:=hD s3;clear g3 s3)
 exact ZbF):P:=h
theorem Zdb {P:Prop}(h:P:=by
 cases b4 with
 | false=>rfl
 | true =>
  rw[if_pos rfl,Option.bind_some,h5];cases b5 with
  | false=>rfl
  | true=>rfl):P:=h
def PopPost (F:Wx) (w:World) (x:Ws) (e:Ending) (w':World):Prop :=
 ∃ (t:Int) (b:Bool) (x':Ws),e=.returned (.tuple #[.int .i64 t,.bool b])∧Wk F w' x'∧Wz F w x w' x'∧x'.f=x.f∧x'.s.length≤x.s.length∧UD x.pl=(if b then some (t,x'.pl) else none)
theorem pop_plain {F:Wx} {w:World} {x:Ws} (hF:F.prg) (h:Wk F w x) (h0:0<x.f.length) (hs:x.s.length≤1000000):Calls Tryz.prog 127 #[.pointer (some ⟨F.G,0,none⟩)] w (PopPost F w x) :=
 (pop_any hF h h0 hs).mono fun e w' ⟨h1,x',h2,h3,h4,h5⟩=>by
  by_cases hle:x.s.length≤x.top.h
  ·rw[if_pos hle]at h1 h5;refine⟨0,x.top.dead,x',h1,h2,h3,h4,by rw[h5];exact nR _,?_⟩;rw[pop_pl,if_pos hle];unfold Ws.pl;rw[h4,h5]
  ·rw[if_neg hle]at h1 h5;refine⟨_,true,x',h1,h2,h3,h4,by rw[h5,List.length_take];omega,?_⟩;rw[pop_pl,if_neg hle,if_pos rfl];unfold Ws.pl;rw[h4,h5]
theorem choose_is {p p3 p4 p5:Pl} {t4 t5:Int} {b4 b5:Bool} (h:WI p [127]=some p3) (h4:UD p3=if b4 then some (t4,p4) else none) (h5:UD p4=if b5 then some (t5,p5) else none):Uu p=if b4 && b5 && UE t5 t4 then some (Vg p5 [t4]) else none:=by
 unfold Uu;rw[h,Option.bind_some,h4];exact Zdb
theorem choose_any {F:Wx} {w:World} {x:Ws} (hF:F.prg) (h:Wk F w x) (h0:0<x.f.length) (hs:x.s.length≤900000) (hh:x.top.h≤x.s.length) :
 Calls Tryz.prog 128 #[.pointer (some ⟨F.G,0,none⟩)] w (Vy F w x (Uu x.pl)):=by
 have hg1:=h.alloc (.cells #[.int .i64 127] 3);have hi:=WH w (bR w.heap.size w) 127;have HTK:=hD (UQ hF hg1.1 h0 (by omega) _ [127] (hi.keep (.refl _ _) fun k hk=>⟨hk.2,h.new_free hk.1⟩) (by simp) hh);have HG1:=hD hg1;have HF:=hD hF;have HH:=hD (⟨h0,hs⟩:0<x.f.length∧x.s.length≤900000);obtain⟨r,hr⟩:∃ r,Uu x.pl=r:=⟨_,rfl⟩;rw[hr];have HRR:=hD hr;clear hg1 hi hF h h0 hs hr;cases hR:Vm x.top.h x.top.dead x.s [127] with
 | false =>
  have hr:r=none:=by rw[← HRR.out];unfold Uu;rw[take_no hR];rfl
  subst hr;rw[hR]at HTK;clear hR HRR;go_enter Tryz.func128,Tryz.ntmps128;exact ZcO
 | true =>
  have HTY:=hD (U9 hR);rw[hR]at HTK;clear hR;go_enter Tryz.func128,Tryz.ntmps128
  go_upto_region 5 with (first|(go_at_call 129;refine HTK.out.mono ?_;rintro e w3 ⟨rfl,x3,g3,s3,hf3,hs3⟩;have HG3:=hD g3;have HS3:=hD s3;have HF3:=hD hf3;have HX3:=hD (hs3 rfl);have HQ3:=hD g3;clear g3 s3 hf3 hs3)|(go_at_call 127;refine(pop_plain HF.out HQ3.out (by rw[HF3.out];exact HH.out.1) (by rw[HX3.out,List.length_take];have:=HH.out.2;omega)).mono ?_;clear HQ3;rintro e w4 ⟨t4,b4,x4,rfl,g4,s4,hf4,hl4,hp4⟩;have HG4:=hD g4;have HS4:=hD s4;have HF4:=hD hf4;have HL4:=hD hl4;have HP4:=hD hp4;clear g4 s4 hf4 hl4 hp4)|(go_at_call 127;refine(pop_plain HF.out HG4.out (by rw[HF4.out,HF3.out];exact HH.out.1) (by have:=HL4.out;rw[HX3.out,List.length_take]at this;have:=HH.out.2;omega)).mono ?_;rintro e w5 ⟨t5,b5,x5,rfl,g5,s5,hf5,hl5,hp5⟩;have HG5:=hD g5;have HS5:=hD s5;have HF5:=hD hf5;have HL5:=hD hl5;have HP5:=hD hp5;clear g5 s5 hf5 hl5 hp5))
  have hx3:(⟨x.s.take (max (x.s.length - [(127:Int)].length) x.top.h),x.pl.f⟩:Pl)=x3.pl:=by
   unfold Ws.pl;rw[HF3.out,HX3.out]
  have HX:=hD hx3;have HSS:=hD (((HG1.out.2.trans HS3.out).trans HS4.out).trans HS5.out);have HLB:Hid (x5.s.length+1≤1000000):=hD (by have h1:=HL4.out;have h2:=HL5.out;rw[HX3.out,List.length_take]at h1;have:=HH.out.2;omega);clear hx3;have hr:r=if b4 && b5 && UE t5 t4 then some (Vg x5.pl [t4]) else none:=HRR.out.symm.trans (choose_is (HTY.out.trans (by rw[HX.out])) HP4.out HP5.out);have AG:=hD (fun w=>agree_any t5 t4 w);cases b5 with
  | false =>
   have hr2:r=none:=by rw[hr];cases b4 <;> rfl
   subst hr2;clear hr;exact ZbK
  | true =>
   cases b4 with
   | false =>
    have hr2:r=none:=by rw[hr];rfl
    subst hr2;clear hr;exact ZbK
   | true =>
    cases ha:UE t5 t4 with
    | false =>
     have hr2:r=none:=by rw[hr,ha];rfl
     subst hr2;rw[ha]at AG;clear ha hr;exact ZbK
    | true =>
     have hr2:r=some (Vg x5.pl [t4]):=by rw[hr,ha];rfl
     subst hr2;rw[ha]at AG;clear ha hr;have hg6:=HG5.out.alloc (.cells #[.int .i64 t4] 3);have hi6:=WH w5 (bR w5.heap.size w5) t4;have HGV:=hD (give_any HF.out hg6.1 _ [t4] (hi6.keep (.refl _ _) fun k hk=>⟨hk.2,HG5.out.new_free hk.1⟩) (by simpa using HLB.out));have HG6:=hD hg6;clear hg6 hi6;go_wp2_with (first|(go_at_call 159;refine(AG.out _).mono ?_;rintro e w6 ⟨rfl,rfl⟩)|(go_at_call 112;refine HGV.out.mono ?_;rintro e w7 ⟨rfl,x7,g7,s7,hf7,hs7⟩;have HG7:=hD g7;have HS7:=hD s7;have HF7:=hD hf7;have HX7:=hD hs7;clear g7 s7 hf7 hs7))
     go_ret;refine⟨x7,HG7.out,(HSS.out.trans HG6.out.2).trans HS7.out,rfl,fun q hq=>?_⟩;obtain rfl:=Option.some.inj hq;show Ws.pl x7=Vg _ _;unfold Ws.pl Vg;rw[HF7.out,HX7.out]
end
end Go.Proofs.YtmfpnfdinoofpaaGreatDoor
