/- A part of the proof. -/
import Derived.Test.YtmfpnfdinoofpaaGreatDoorJ14
import Derived.Test.YtmfpnfdinoofpaaGreatDoorJ12
import Derived.Test.YtmfpnfdinoofpaaGreatDoorJ10
namespace Go.Proofs.YtmfpnfdinoofpaaGreatDoor
section
open Go.RowKit
set_option maxHeartbeats 1000000
set_option maxRecDepth 100000
theorem Zbx {P:Prop}(h:P:=by
 go_enter Tryz.func82,Tryz.ntmps82
 go_upto_region 1 with (fail)
 rw[← HW.out];go_wp2_with (first|(go_at_call 115;refine(HR.out _).mono ?_;rintro e w1 ⟨rfl,hb1⟩;have HB1:=hD hb1;obtain⟨j0,j1⟩:=HC.out w1 hb1;clear hb1)|(go_at_call 116;refine(HO.out _).mono ?_;rintro e w2 ⟨rfl,rfl⟩))
 go_ret;exact⟨rfl,Wa HB.out HB1.out⟩):P:=h
theorem ZbZ {P:Prop}(h:P:=by
 go_enter Tryz.func81,Tryz.ntmps81;go_wp2_with (first|(go_at_call 48;refine(HEN.out _ rfl).mono ?_;rintro e w0 ⟨rfl,rfl⟩)|(go_at_call 113;refine(HT.out 0).mono ?_;rintro e w1 ⟨rfl,mm,rfl⟩))
 go_ret;exact⟨rfl,Wt (bR _ _) _⟩):P:=h
theorem V7 (n:Int) (l:Nat) (w:World):Calls Tryz.prog 79 #[.int .i64 n,.int .i64 (l:Int)] w fun e w'=>e=.returned (.bool (Wi n l))∧w=w':=by
 unfold Wi;by_cases h1:0≤n
 ·have d1:decide ((0:Int)≤n)=true:=decide_eq_true h1;cases h2:decide (n<(l:Int)) <;>
  ·rw[d1];go_enter Tryz.func79,Tryz.ntmps79;go_wp2;go_ret;exact⟨rfl,rfl⟩
 ·have d1:decide ((0:Int)≤n)=false:=decide_eq_false h1;rw[d1];go_enter Tryz.func79,Tryz.ntmps79;go_wp2;go_ret;exact⟨rfl,rfl⟩
theorem richI_any (x:Vl) (Lv:Value) (hL:∃ A n c,Lv=.slice A n c) (w:World):Calls Tryz.prog 82 #[.agg #[.int .i64 x.op,.int .i64 x.a,.int .i64 x.b,.int .u64 x.n,Lv]] w (Wh (richI x) w):=by
 obtain⟨A,nl,c,rfl⟩:=hL;obtain⟨op,a,b,n,l⟩:=x;unfold richI;simp only;obtain⟨W,hW⟩:∃ W,W=w.alloc (.cells #[.int .i64 op,.int .i64 a,.int .i64 b,.int .u64 n,.slice A nl c] 25):=⟨_,rfl⟩;have hb:Below w.heap.size w W:=hW ▸ (bR _ _).alloc (nR _) _;have hc:∀ j:Nat,W.cell? ⟨w.heap.size,j,none⟩=(#[.int .i64 op,.int .i64 a,.int .i64 b,.int .u64 n,.slice A nl c]:Array Value)[j]?:=fun j=>by rw[hW,wN]
 have HB:=hD hb;have HC:Hid (∀ wz,Below W.heap.size W wz→wz.cell? ⟨w.heap.size,0,none⟩=some (.int .i64 op)∧wz.cell? ⟨w.heap.size,1,none⟩=some (.int .i64 a)):=hD fun wz hz =>
  ⟨(hz.cell (wL W _ (hc 0))).trans (hc 0),(hz.cell (wL W _ (hc 1))).trans (hc 1)⟩
 have HR:=hD (fun w=>rich_any op w);have HO:=hD (fun w=>opens_any op w);have HW:=hD hW;obtain⟨k0,k1⟩:=HC.out W (bR _ _);clear hb hc hW;cases h1:richB op with
 | true =>
  rw[h1]at HR;clear h1;go_enter Tryz.func82,Tryz.ntmps82
  go_upto_region 1 with (fail)
  rw[← HW.out];go_wp2_with (go_at_call 115;refine(HR.out _).mono ?_;rintro e w1 ⟨rfl,hb1⟩;have HB1:=hD hb1;obtain⟨j0,j1⟩:=HC.out w1 hb1;clear hb1)
  go_ret;exact⟨rfl,Wa HB.out HB1.out⟩
 | false =>
  rw[h1]at HR;clear h1;cases h2:WF op with
  | false =>
   rw[h2]at HO;clear h2;exact Zbx
  | true =>
   rw[h2]at HO;clear h2;cases h3:decide ((0:Int)≤a) <;>
   ·exact Zbx
def Ws.pl (x:Ws):Pl:=⟨x.s,x.f.map Fv.fr⟩
theorem ended_any {F:Wx} {w:World} {x:Ws} (hF:F.prg) (h:Wk F w x):Calls Tryz.prog 48 #[.pointer (some ⟨F.G,0,none⟩)] w (fun e w'=>e=.returned (.bool (x.f.length==0))∧w=w'):=by
 obtain⟨Af,cf,hfv⟩:=Wy h.fo;have p1:=h.p1 hF;rw[hfv]at p1;clear h hfv;generalize x.f.length=k at *;by_cases h0:k=0
 ·subst h0;go_enter Tryz.func48,Tryz.ntmps48;go_wp2;go_ret;exact⟨rfl,rfl⟩
 ·have hk:((k:Int)==0)=false:=by simp;omega
  have hk2:(k==0)=false:=by simp;omega
  rw[hk2];clear h0 hk2;go_enter Tryz.func48,Tryz.ntmps48;go_wp2;go_ret;exact⟨rfl,rfl⟩
theorem inPlace_any {F:Wx} {w:World} {x:Ws} (hF:F.prg) (h:Wk F w x) (op:Int):Calls Tryz.prog 81 #[.pointer (some ⟨F.G,0,none⟩),.int .i64 op] w (Wh (Vc x.pl op) w):=by
 have HEN:Hid (∀ w9:World,w=w9→Calls Tryz.prog 48 #[.pointer (some ⟨F.G,0,none⟩)] w9 (fun e w'=>e=.returned (.bool (x.f.length==0))∧w9=w')):=hD fun w9 e9=>e9 ▸ ended_any hF h;unfold Vc Ws.pl;simp only[List.length_map];rw[← Ws.top_fr];by_cases h0:x.f.length=0
 ·obtain⟨Af,cf,hfv⟩:=Wy h.fo;have p1:=h.p1 hF;rw[hfv,h0]at p1;rw[if_pos h0];clear h hfv;go_enter Tryz.func81,Tryz.ntmps81;rw[h0]at HEN;go_wp2_with (go_at_call 48;refine(HEN.out _ rfl).mono ?_;rintro e w0 ⟨rfl,rfl⟩)
  go_ret;exact⟨rfl,bR _ _⟩
 ·rw[if_neg h0];obtain⟨g,A,c,cf,hc,hsv,hfv⟩:=h.cel hF (by omega);obtain⟨g',cf',he,_,_,_,_,t0,_⟩:=h.tcell (by omega);rw[hfv]at he;simp only[vI,Option.some.injEq,Addr.mk.injEq]at he;obtain⟨⟨rfl,-⟩,-,rfl⟩:=he;have HC:=hD hc;have p1:=hc.p1;have HT:=hD (fun j=>top_at (w.drewN j) F.G g x.f.length cf hc.p1 hc.k0 hc.k1 hc.k2);have HK:=hD (fun w=>known_any op w);obtain⟨k,hk⟩:∃ k,x.f.length=k:=⟨_,rfl⟩;rw[hk]at p1 HT h0 t0 HEN;rw[show(k==0)=false by simp;omega]at HEN;have hk0:((k:Int)==0)=false:=by simp;omega
  rw[show x.top.fr.op=x.top.op from rfl];generalize x.top.op=o at t0 ⊢;clear h hc hsv hfv HC;by_cases h5:op=5
  ·subst h5;rw[if_pos rfl];by_cases h4:o=4
   ·have d4:(o==4)=true:=by simpa using h4
    rw[decide_eq_true h4];exact ZbZ
   ·have d4:(o==4)=false:=by simpa using h4
    rw[decide_eq_false h4];exact ZbZ
  ·rw[if_neg h5];have d5:(op==5)=false:=by simpa using h5
   generalize W9 op=kb at HK ⊢;go_enter Tryz.func81,Tryz.ntmps81;go_wp2_with (first|(go_at_call 48;refine(HEN.out _ rfl).mono ?_;rintro e w0 ⟨rfl,rfl⟩)|(go_at_call 114;refine(HK.out _).mono ?_;rintro e w1 ⟨rfl,hb⟩;have HB:=hD hb;clear hb))
   go_ret;exact⟨rfl,HB.out⟩
def Uv (q:List Int×List Int) (w:World) (e:Ending) (w':World):Prop :=
 ∃ p r:Value,e=.returned (.tuple #[p,r])∧Wf (fun k=>w.heap.size≤k∧k<w'.heap.size) w' p q.1∧Wf (fun k=>w.heap.size≤k∧k<w'.heap.size) w' r q.2∧Below w.heap.size w w'
theorem RowOf.newInts {w w':World} {v:Value} {l:List Int} (h:RowOf w' v l) (hn:∀ a k c,v=.slice (some a) k c→w.heap.size≤a.block):Wf (fun k=>w.heap.size≤k∧k<w'.heap.size) w' v l:=by
 rcases h with ⟨rfl,rfl⟩|⟨g,cap,rfl,h2,h3,h4,h5⟩
 ·exact .nil _ _
 ·exact⟨_,cap,rfl,by unfold maxLen;omega,(fun e=>by cases e),fun _=>⟨g,0,rfl,⟨hn _ _ _ rfl,h2⟩,fun j hj=>by rw[Nat.zero_add];exact h5 j hj⟩⟩
theorem WH (w:World) {W:World} (hb:Below w.heap.size w W) (a:Int):Wf (fun k=>w.heap.size≤k∧k<(W.alloc (.cells #[.int .i64 a] 3)).heap.size) (W.alloc (.cells #[.int .i64 a] 3)) (.slice (some ⟨W.heap.size,0,none⟩) 1 1) [a] :=
 ⟨_,1,rfl,by unfold maxLen;simp,(fun e=>by cases e),fun _=>⟨W.heap.size,0,rfl,⟨hb.size,by rw[Wj];omega⟩,fun j hj=>by
  obtain rfl:j=0:=by simp at hj;omega
  rw[wN];rfl⟩⟩
theorem ints_new2 (w:World) {W:World} (hb:Below w.heap.size w W) (a b:Int):Wf (fun k=>w.heap.size≤k∧k<(W.alloc (.cells #[.int .i64 a,.int .i64 b] 3)).heap.size) (W.alloc (.cells #[.int .i64 a,.int .i64 b] 3)) (.slice (some ⟨W.heap.size,0,none⟩) 2 2) [a,b] :=
 ⟨_,2,rfl,by unfold maxLen;simp,(fun e=>by cases e),fun _=>⟨W.heap.size,0,rfl,⟨hb.size,by rw[Wj];omega⟩,fun j hj=>by
  have hj2:j<2:=hj;rw[wN]
  match j,hj2 with
  | 0,_=>rfl
  | 1,_=>rfl⟩⟩
end
section
open Go.RowKit
set_option maxHeartbeats 2000000
set_option maxRecDepth 100000
theorem fixed_any (op:Int) (w:World):Calls Tryz.prog 160 #[.int .i64 op] w (Uv (V0 op) w):=by
 have HC:=hD (fun w=>const_any op w);have HN:=hD (fun w=>nnum_any op w);have HA:=hD (fun w=>access_any op w);unfold V0;by_cases h1:WZ op≠0
 ·rw[if_pos h1];have d1:(WZ op != 0)=true:=by simpa using h1
  rw[d1]at HC;clear d1 h1;generalize WZ op=t at HC ⊢;go_enter Tryz.func160,Tryz.ntmps160;go_wp2_with (go_at_call 143;refine(HC.out _).mono ?_;rintro e w1 ⟨rfl,rfl⟩)
  go_ret2
  exact⟨_,_,rfl,.nil _ _,WH _ (bR _ _) _,(bR _ _).alloc (nR _) _⟩
 ·rw[if_neg h1];have d1:(WZ op != 0)=false:=by simpa using h1
  rw[d1]at HC;clear d1 h1;generalize WZ op=t0 at HC;cases h2:WS op with
  | true =>
   rw[if_pos rfl];have HNN:Hid (∀ w,Calls Tryz.prog 144 #[.int .i64 op] w fun e w'=>∃ (Ap:Option Addr) (np cp:Nat) (Aq:Option Addr) (nq cq:Nat),e=.returned (.tuple #[.agg #[.slice Ap np cp,.slice Aq nq cq],.bool true])∧Wf (fun k=>w.heap.size≤k∧k<w'.heap.size) w' (.slice Ap np cp) (Vw op)∧Wf (fun k=>w.heap.size≤k∧k<w'.heap.size) w' (.slice Aq nq cq) (Vf op)∧Below w.heap.size w w'):=hD fun w=>(HN.out w).mono fun e w' h=>by
    obtain⟨p,q,rfl,hp,hq,np,nq,hb⟩:=h;obtain⟨Ap,n1,cp,rfl⟩:=hp.slice;obtain⟨Aq,n2,cq,rfl⟩:=hq.slice;exact⟨Ap,n1,cp,Aq,n2,cq,by rw[h2],hp.newInts np,hq.newInts nq,hb⟩
   clear HN h2;go_enter Tryz.func160,Tryz.ntmps160
   go_upto_region 6 with (first|(go_at_call 143;refine(HC.out _).mono ?_;rintro e w1 ⟨rfl,rfl⟩)|(go_at_call 144;refine(HNN.out _).mono ?_;rintro e w2 ⟨Ap,np,cp,Aq,n2,cq,rfl,hp,hq,hb⟩;have HP:=hD hp;have HQ:=hD hq;have HB:=hD hb;clear hp hq hb))
   go_quiet (fail)
   go_wp2
   go_ret2
   have hb3:∀ (o:Obj) (n:Nat),Below w2.heap.size w2 ((w2.alloc o).drewN n):=fun o n=>Wt ((bR _ _).alloc (nR _) o) n;exact⟨_,_,rfl,HP.out.keep (We.below (hb3 _ _) fun k hk=>hk.2) fun k hk=>⟨hk.1,Ve hk.2 (hb3 _ _).size⟩,HQ.out.keep (We.below (hb3 _ _) fun k hk=>hk.2) fun k hk=>⟨hk.1,Ve hk.2 (hb3 _ _).size⟩,Wa HB.out (hb3 _ _)⟩
  | false =>
   rw[if_neg (by decide)];have HNN:Hid (∀ w,Calls Tryz.prog 144 #[.int .i64 op] w fun e w'=>∃ (Ap:Option Addr) (np cp:Nat) (Aq:Option Addr) (nq cq:Nat),e=.returned (.tuple #[.agg #[.slice Ap np cp,.slice Aq nq cq],.bool false])∧Below w.heap.size w w'):=hD fun w=>(HN.out w).mono fun e w' h=>by
    obtain⟨p,q,rfl,hp,hq,np,nq,hb⟩:=h;obtain⟨Ap,n1,cp,rfl⟩:=hp.slice;obtain⟨Aq,n2,cq,rfl⟩:=hq.slice;exact⟨Ap,n1,cp,Aq,n2,cq,by rw[h2],hb⟩
   clear HN h2;obtain⟨⟨a1,a2,a3,a4⟩,ha⟩:∃ q,WK op=q:=⟨_,rfl⟩;rw[ha]at HA ⊢;unfold AccPost at HA;simp only at HA ⊢;clear ha;cases a4 with
   | false =>
    rw[if_neg (by decide)];go_enter Tryz.func160,Tryz.ntmps160;go_wp2_with (first|(go_at_call 143;refine(HC.out _).mono ?_;rintro e w1 ⟨rfl,rfl⟩)|(go_at_call 144;refine(HNN.out _).mono ?_;rintro e w2 ⟨Ap,np,cp,Aq,n2,cq,rfl,hb⟩;have HB:=hD hb;clear hb)|(go_at_call 119;refine(HA.out _).mono ?_;rintro e w3 ⟨rfl,hb⟩;have HB3:=hD hb;clear hb))
    go_ret2
    have hb3:=Wa HB.out (((bR _ _).alloc (nR _) _).trans (HB3.out.mono (by rw[Wj];omega)));exact⟨_,_,rfl,.nil _ _,.nil _ _,hb3⟩
   | true =>
    rw[if_pos rfl];by_cases h54:54≤op
    ·rw[if_pos h54];have d54:decide ((54:Int)≤op)=true:=decide_eq_true h54;clear h54;go_enter Tryz.func160,Tryz.ntmps160;go_wp2_with (first|(go_at_call 143;refine(HC.out _).mono ?_;rintro e w1 ⟨rfl,rfl⟩)|(go_at_call 144;refine(HNN.out _).mono ?_;rintro e w2 ⟨Ap,np,cp,Aq,n2,cq,rfl,hb⟩;have HB:=hD hb;clear hb)|(go_at_call 119;refine(HA.out _).mono ?_;rintro e w3 ⟨rfl,hb⟩;have HB3:=hD hb;clear hb))
     go_ret2
     have hb3:=Wa HB.out (((bR _ _).alloc (nR _) _).trans (HB3.out.mono (by rw[Wj];omega)));exact⟨_,_,rfl,ints_new2 _ hb3 _ _,.nil _ _,hb3.alloc hb3.size _⟩
    ·rw[if_neg h54];have d54:decide ((54:Int)≤op)=false:=decide_eq_false h54;clear h54;go_enter Tryz.func160,Tryz.ntmps160;go_wp2_with (first|(go_at_call 143;refine(HC.out _).mono ?_;rintro e w1 ⟨rfl,rfl⟩)|(go_at_call 144;refine(HNN.out _).mono ?_;rintro e w2 ⟨Ap,np,cp,Aq,n2,cq,rfl,hb⟩;have HB:=hD hb;clear hb)|(go_at_call 119;refine(HA.out _).mono ?_;rintro e w3 ⟨rfl,hb⟩;have HB3:=hD hb;clear hb))
     go_ret2
     have hb3:=Wa HB.out (((bR _ _).alloc (nR _) _).trans (HB3.out.mono (by rw[Wj];omega)));have hb4:=hb3.alloc hb3.size (.cells #[.int .i64 127] 3);have h1:=WH w hb3 127;refine⟨_,_,rfl,h1.keep (We.below ((bR _ _).alloc (nR _) _) fun k hk=>hk.2) fun k hk=>⟨hk.1,by rw[Wj];have:=hk.2;omega⟩,?_,hb4.alloc hb4.size _⟩;have h2:=WH w hb4 a2;rw[show(w3.alloc (.cells #[.int .i64 127] 3)).heap.size=w3.heap.size+1 from Wj _ _]at h2;exact h2
end
section
theorem ZbS {P:Prop}(h:P:=by
 intro j k hjk hlt;rw[VG _ _ _ _ hk0,VG _ _ _ _ hk0];have:=h6 j k hjk hlt;by_cases e:j=k0
 ·subst e;rw[if_pos rfl,if_neg (by omega)];exact this
 ·rw[if_neg e];by_cases e2:k=k0
  ·subst e2;rw[if_pos rfl];exact this
  ·rw[if_neg e2];exact this):P:=h
theorem ZcK {P:Prop}(h:P:=by
 rw[VG _ _ _ _ hkl,VG _ _ _ _ (by omega)];by_cases e:j=k
 ·rw[if_pos e,if_pos e];exact⟨rfl,rfl⟩
 ·rw[if_neg e,if_neg e];exact e4 j):P:=h
theorem ZcY {P:Prop}(h:P:=by
 intro j hj;rw[VG _ _ _ _ hk0];by_cases e:j=k0
 ·rw[if_pos e];simp only;omega
 ·rw[if_neg e];have:=h5 j hj;omega):P:=h
abbrev Sp:=Int×Int×Int
structure MSt where
 out:List Sp
 op:List Nat
 deep:Nat
def WR (l:List Sp) (k:Nat):Sp:=l.getD k (0,0,0)
def V3 (ops:List Int) (z:Int) (i:Nat) (s:MSt):Option MSt :=
 if 2≤ops.getD i 0∧ops.getD i 0≤4 then some ⟨s.out++[((i:Int),-1,z)],s.op++[s.out.length],max s.deep (s.op.length+1)⟩
 else if ops.getD i 0=5 then
  (match s.op.getLast? with
   | none=>none
   | some k=>if ops.getD (WR s.out k).1.toNat 0=4∧(WR s.out k).2.1 = -1 then some ⟨s.out.set k ((WR s.out k).1,(i:Int),(WR s.out k).2.2),s.op,s.deep⟩ else none)
 else if ops.getD i 0=11 then
  (match s.op.getLast? with
   | none=>none
   | some k=>some ⟨s.out.set k ((WR s.out k).1,(WR s.out k).2.1,(i:Int)),s.op.dropLast,s.deep⟩)
 else some s
def V1 (ops:List Int) (z:Int):Nat→Option MSt
 | 0=>some ⟨[],[],0⟩
 | i+1=>(V1 ops z i).bind (V3 ops z i)
def VY (ops:List Int):List Sp×Int :=
 if ops.length=0∨ops.getD (ops.length - 1) 0≠11 then ([],12)
 else match V1 ops 0 (ops.length - 1) with
  | none=>([],12)
  | some s=>if s.op≠[] then ([],12) else if 64<s.deep then ([],26) else (s.out,0)
theorem V4 (l:List Sp) (x:Sp) (k:Nat):WR (l++[x]) k=if k=l.length then x else WR l k:=by
 unfold WR;rw[List.getD_eq_getElem?_getD,List.getD_eq_getElem?_getD,List.getElem?_append];by_cases h:k<l.length
 ·rw[if_pos h,if_neg (by omega)]
 ·rw[if_neg h];by_cases h2:k=l.length
  ·rw[if_pos h2,h2];simp
  ·rw[if_neg h2,List.getElem?_eq_none (by simp;omega),List.getElem?_eq_none (by omega)]
theorem VG (l:List Sp) (x:Sp) (j k:Nat) (hj:j<l.length):WR (l.set j x) k=if k=j then x else WR l k:=by
 unfold WR;rw[List.getD_eq_getElem?_getD,List.getD_eq_getElem?_getD,List.getElem?_set];by_cases h:j=k
 ·subst h;rw[if_pos rfl,if_pos rfl,if_pos hj];rfl
 ·rw[if_neg h,if_neg (fun e=>h e.symm)]
theorem last_split {l:List Nat} {k:Nat} (h:l.getLast?=some k):l=l.dropLast++[k]:=by
 rcases List.eq_nil_or_concat l with rfl|⟨t,x,rfl⟩
 ·simp at h
 ·rw[List.concat_eq_append]at h ⊢;rw[List.getLast?_append]at h;simp at h;subst h;simp
theorem mstep_cases {ops:List Int} {z:Int} {i:Nat} {s t:MSt} (h:V3 ops z i s=some t) :
 ((2≤ops.getD i 0∧ops.getD i 0≤4)∧t=⟨s.out++[((i:Int),-1,z)],s.op++[s.out.length],max s.deep (s.op.length+1)⟩) ∨
 (∃ k,ops.getD i 0=5∧s.op=s.op.dropLast++[k]∧ops.getD (WR s.out k).1.toNat 0=4∧(WR s.out k).2.1 = -1∧t=⟨s.out.set k ((WR s.out k).1,(i:Int),(WR s.out k).2.2),s.op,s.deep⟩) ∨
 (∃ k,ops.getD i 0=11∧s.op=s.op.dropLast++[k]∧t=⟨s.out.set k ((WR s.out k).1,(WR s.out k).2.1,(i:Int)),s.op.dropLast,s.deep⟩) ∨
 ((¬ (2≤ops.getD i 0∧ops.getD i 0≤4)∧ops.getD i 0≠5∧ops.getD i 0≠11)∧t=s):=by
 unfold V3 at h;by_cases h1:2≤ops.getD i 0∧ops.getD i 0≤4
 ·rw[if_pos h1]at h;exact .inl ⟨h1,(Option.some.inj h).symm⟩
 ·rw[if_neg h1]at h;by_cases h2:ops.getD i 0=5
  ·rw[if_pos h2]at h;cases hk:s.op.getLast? with
   | none=>rw[hk]at h;cases h
   | some k =>
    rw[hk]at h;by_cases h3:ops.getD (WR s.out k).1.toNat 0=4∧(WR s.out k).2.1 = -1
    ·simp only[if_pos h3]at h;exact .inr (.inl ⟨k,h2,last_split hk,h3.1,h3.2,(Option.some.inj h).symm⟩)
    ·simp only[if_neg h3]at h;cases h
  ·rw[if_neg h2]at h;by_cases h3:ops.getD i 0=11
   ·rw[if_pos h3]at h;cases hk:s.op.getLast? with
    | none=>rw[hk]at h;cases h
    | some k=>rw[hk]at h;exact .inr (.inr (.inl ⟨k,h3,last_split hk,(Option.some.inj h).symm⟩))
   ·rw[if_neg h3]at h;exact .inr (.inr (.inr ⟨⟨h1,h2,h3⟩,(Option.some.inj h).symm⟩))
structure MInv (ops:List Int) (i:Nat) (s:MSt):Prop where
 opl:s.op.length≤s.out.length
 outl:s.out.length≤i
 lt:∀ k ∈ s.op,k<s.out.length
 asc:s.op.Pairwise (·<·)
 a0:∀ j,j<s.out.length→0≤(WR s.out j).1∧(WR s.out j).1<i
 am:∀ j k,j<k→k<s.out.length→(WR s.out j).1<(WR s.out k).1
 zz:∀ j,j<s.out.length→j ∉ s.op→(WR s.out j).1<(WR s.out j).2.2∧(WR s.out j).2.2<i∧ops.getD (WR s.out j).2.2.toNat 0=11
 ee:∀ j,j<s.out.length→(WR s.out j).2.1 = -1∨((WR s.out j).1<(WR s.out j).2.1∧(WR s.out j).2.1<i∧ops.getD (WR s.out j).1.toNat 0=4∧(j ∉ s.op→(WR s.out j).2.1<(WR s.out j).2.2))
 nz:∀ j k,j<k→k<s.out.length→j ∉ s.op→(WR s.out k).1<(WR s.out j).2.2→k ∉ s.op∧(WR s.out k).2.2<(WR s.out j).2.2
 ne:∀ j k,j<k→k<s.out.length→(WR s.out j).2.1 ≠ -1→(WR s.out k).1<(WR s.out j).2.1→k ∉ s.op∧(WR s.out k).2.2<(WR s.out j).2.1
theorem top_max {l:List Nat} {k:Nat} (h:(l++[k]).Pairwise (·<·)):∀ j ∈ l,j<k:=fun j hj=>by
 have:=List.pairwise_append.1 h;exact this.2.2 j hj k (by simp)
theorem MInv.step {ops:List Int} {z:Int} {i:Nat} {s t:MSt} (h:MInv ops i s) (hs:V3 ops z i s=some t):MInv ops (i+1) t:=by
 obtain⟨h1,h2,h3,h4,h5,h6,h7,h8,h9,h10⟩:=h;rcases mstep_cases hs with ⟨_,rfl⟩|⟨k0,hop,hk,h4i,he,rfl⟩|⟨k0,hop,hk,rfl⟩|⟨_,rfl⟩
 ·have hout:∀ j,j ∈ s.op++[s.out.length]↔j ∈ s.op∨j=s.out.length:=fun j=>by simp
  refine⟨by simp;omega,by simp;omega,?_,?_,?_,?_,?_,?_,?_,?_⟩
  ·intro k hk;simp only[hout]at hk;simp only[List.length_append,List.length_singleton];rcases hk with hk|rfl
   ·have:=h3 k hk;omega
   ·omega
  ·refine List.pairwise_append.2 ⟨h4,by simp,fun a ha b hb=>?_⟩;obtain rfl:=List.mem_singleton.1 hb;exact h3 a ha
  ·intro j hj;simp only[List.length_append,List.length_singleton]at hj;simp only[V4];by_cases e:j=s.out.length
   ·rw[if_pos e];simp only;omega
   ·rw[if_neg e];have:=h5 j (by omega);omega
  ·intro j k hjk hk;simp only[List.length_append,List.length_singleton]at hk;simp only[V4];rw[if_neg (by omega)];by_cases e:k=s.out.length
   ·rw[if_pos e];have:=h5 j (by omega);simp only;omega
   ·rw[if_neg e];exact h6 j k hjk (by omega)
  ·intro j hj hn;simp only[List.length_append,List.length_singleton]at hj;simp only[hout,not_or]at hn;simp only[V4];rw[if_neg hn.2];have:=h7 j (by omega) hn.1;exact⟨this.1,by omega,this.2.2⟩
  ·intro j hj;simp only[List.length_append,List.length_singleton]at hj;simp only[hout,not_or,V4];by_cases e:j=s.out.length
   ·rw[if_pos e];exact .inl rfl
   ·rw[if_neg e];rcases h8 j (by omega) with q|⟨q1,q2,q3,q4⟩
    ·exact .inl q
    ·exact .inr ⟨q1,by omega,q3,fun hn=>q4 hn.1⟩
  ·intro j k hjk hk hn;simp only[List.length_append,List.length_singleton]at hk;simp only[hout,not_or]at hn ⊢;simp only[V4];rw[if_neg (show ¬ j=s.out.length by omega)];by_cases e:k=s.out.length
   ·rw[if_pos e];intro hlt;have:=h7 j (by omega) hn.1;simp only at hlt;omega
   ·rw[if_neg e];intro hlt;have:=h9 j k hjk (by omega) hn.1 hlt;exact⟨⟨this.1,e⟩,this.2⟩
  ·intro j k hjk hk hn;simp only[List.length_append,List.length_singleton]at hk;simp only[hout,not_or]at hn ⊢;simp only[V4]at hn ⊢;rw[if_neg (show ¬ j=s.out.length by omega)]at hn ⊢;by_cases e:k=s.out.length
   ·rw[if_pos e];intro hlt;rcases h8 j (by omega) with q|⟨q1,q2,_⟩
    ·exact absurd q hn
    ·simp only at hlt;omega
   ·rw[if_neg e];intro hlt;have:=h10 j k hjk (by omega) hn hlt;exact⟨⟨this.1,e⟩,this.2⟩
 ·have hk0:k0<s.out.length:=h3 k0 (by rw[hk];simp);have hin:k0 ∈ s.op:=by rw[hk];simp
  have hab:∀ k,k0<k→k ∉ s.op:=fun k hlt hm=>by
   rw[hk]at hm h4;rcases List.mem_append.1 hm with hm|hm
   ·have:=top_max h4 k hm;omega
   ·obtain rfl:=List.mem_singleton.1 hm;omega
  have a5:=h5 k0 hk0;refine⟨by simpa using h1,by simp;omega,fun k hk'=>by simpa using h3 k hk',h4,?_,?_,?_,?_,?_,?_⟩
  all_goals simp only[List.length_set]
  ·exact ZcY
  ·exact ZbS
  ·intro j hj hn;rw[VG _ _ _ _ hk0,if_neg (fun e=>hn (by rw[e];exact hin))];have:=h7 j hj hn;exact⟨this.1,by omega,this.2.2⟩
  ·intro j hj;rw[VG _ _ _ _ hk0];by_cases e:j=k0
   ·subst e;rw[if_pos rfl];exact .inr ⟨by simp only;omega,by simp only;omega,h4i,fun hn=>absurd hin hn⟩
   ·rw[if_neg e];rcases h8 j hj with q|⟨q1,q2,q3,q4⟩
    ·exact .inl q
    ·exact .inr ⟨q1,by omega,q3,q4⟩
  ·intro j k hjk hlt hn;rw[VG _ _ _ _ hk0,VG _ _ _ _ hk0,if_neg (fun e:j=k0=>hn (by rw[e];exact hin))];by_cases e2:k=k0
   ·subst e2;rw[if_pos rfl];intro hl;exact absurd hin (h9 j k hjk hlt hn hl).1
   ·rw[if_neg e2];intro hl;exact h9 j k hjk hlt hn hl
  ·intro j k hjk hlt;rw[VG _ _ _ _ hk0,VG _ _ _ _ hk0];by_cases e:j=k0
   ·subst e;rw[if_pos rfl,if_neg (by omega)];intro _ _;have hn:=hab k hjk;have:=h7 k hlt hn;exact⟨hn,this.2.1⟩
   ·rw[if_neg e];intro hn;by_cases e2:k=k0
    ·subst e2;rw[if_pos rfl];intro hl;exact absurd hin (h10 j k hjk hlt hn hl).1
    ·rw[if_neg e2];intro hl;exact h10 j k hjk hlt hn hl
 ·have hk0:k0<s.out.length:=h3 k0 (by rw[hk];simp);have hin:k0 ∈ s.op:=by rw[hk];simp
  have hpw:=h4;rw[hk]at hpw;have htop:=top_max hpw;have hmem:∀ j,j ∈ s.op↔j ∈ s.op.dropLast∨j=k0:=fun j=>by
   constructor
   ·intro h;rw[hk]at h;simpa using h
   ·intro h;rw[hk];simpa using h
  have hab:∀ k,k0<k→k ∉ s.op:=fun k hlt hm=>by
   rcases(hmem k).1 hm with hm|rfl
   ·have:=htop k hm;omega
   ·omega
  have hnt:k0 ∉ s.op.dropLast:=fun hm=>by have:=htop k0 hm;omega
  have a5:=h5 k0 hk0;have hdl:s.op.dropLast.length≤s.op.length:=by simp
  refine⟨by simp only[List.length_set];omega,by simp only[List.length_set];omega,fun k hk'=>by simpa using h3 k ((hmem k).2 (.inl hk')),(List.pairwise_append.1 hpw).1,?_,?_,?_,?_,?_,?_⟩
  all_goals simp only[List.length_set]
  ·exact ZcY
  ·exact ZbS
  ·intro j hj hn;rw[VG _ _ _ _ hk0];by_cases e:j=k0
   ·subst e;rw[if_pos rfl];exact⟨by simp only;omega,by simp only;omega,by simpa using hop⟩
   ·rw[if_neg e];have:=h7 j hj (fun hm=>((hmem j).1 hm).elim hn e);exact⟨this.1,by omega,this.2.2⟩
  ·intro j hj;rw[VG _ _ _ _ hk0];by_cases e:j=k0
   ·subst e;rw[if_pos rfl];rcases h8 j hj with q|⟨q1,q2,q3,q4⟩
    ·exact .inl q
    ·exact .inr ⟨q1,by simp only;omega,q3,fun _=>by simp only;omega⟩
   ·rw[if_neg e];rcases h8 j hj with q|⟨q1,q2,q3,q4⟩
    ·exact .inl q
    ·exact .inr ⟨q1,by omega,q3,fun hn=>q4 (fun hm=>((hmem j).1 hm).elim hn e)⟩
  ·intro j k hjk hlt hn;rw[VG _ _ _ _ hk0,VG _ _ _ _ hk0];by_cases e:j=k0
   ·subst e;rw[if_pos rfl,if_neg (by omega)];intro hl;have hn2:=hab k hjk;have:=h7 k hlt hn2;exact⟨fun hm=>hn2 ((hmem k).2 (.inl hm)),this.2.1⟩
   ·rw[if_neg e];have hn2:j ∉ s.op:=fun hm=>((hmem j).1 hm).elim hn e;by_cases e2:k=k0
    ·subst e2;rw[if_pos rfl];intro hl;exact absurd hin (h9 j k hjk hlt hn2 hl).1
    ·rw[if_neg e2];intro hl;have:=h9 j k hjk hlt hn2 hl;exact⟨fun hm=>this.1 ((hmem k).2 (.inl hm)),this.2⟩
  ·intro j k hjk hlt;rw[VG _ _ _ _ hk0,VG _ _ _ _ hk0];by_cases e:j=k0
   ·subst e;rw[if_pos rfl,if_neg (by omega)];intro hne hl;have:=h10 j k hjk hlt hne hl;exact⟨fun hm=>this.1 ((hmem k).2 (.inl hm)),this.2⟩
   ·rw[if_neg e];intro hne;by_cases e2:k=k0
    ·subst e2;rw[if_pos rfl];intro hl;exact absurd hin (h10 j k hjk hlt hne hl).1
    ·rw[if_neg e2];intro hl;have:=h10 j k hjk hlt hne hl;exact⟨fun hm=>this.1 ((hmem k).2 (.inl hm)),this.2⟩
 ·exact⟨h1,by omega,h3,h4,fun j hj=>by have:=h5 j hj;omega,h6,fun j hj hn=>by have:=h7 j hj hn;exact⟨this.1,by omega,this.2.2⟩,fun j hj=>by
   rcases h8 j hj with q|⟨q1,q2,q3,q4⟩
   ·exact .inl q
   ·exact .inr ⟨q1,by omega,q3,q4⟩,h9,h10⟩
theorem mrun_inv (ops:List Int) (z:Int):∀ i s,V1 ops z i=some s→MInv ops i s:=by
 intro i;induction i with
 | zero =>
  intro s h;obtain rfl:=Option.some.inj h;exact⟨Nat.le_refl _,Nat.le_refl _,by simp,by simp,by simp,by simp,by simp,by simp,by simp,by simp⟩
 | succ i ih =>
  intro s h;have h':(V1 ops z i).bind (V3 ops z i)=some s:=h;cases hr:V1 ops z i with
  | none=>rw[hr]at h';cases h'
  | some q=>rw[hr]at h';exact(ih q hr).step h'
theorem mrun_none {ops:List Int} {z:Int} {i:Nat} (h:V1 ops z i=none):∀ j,i≤j→V1 ops z j=none:=by
 intro j hj;induction j with
 | zero =>
  obtain rfl:i=0:=by omega
  exact h
 | succ j ih =>
  rcases Nat.lt_or_ge j i with h1|h1
  ·obtain rfl:i=j+1:=by omega
   exact h
  ·show(V1 ops z j).bind _=none;rw[ih h1];rfl
def MRel (a b:Option MSt):Prop:=match a,b with
 | none,none=>True
 | some s,some t=>s.op=t.op∧s.deep=t.deep∧s.out.length=t.out.length∧(∀ j,(WR s.out j).1=(WR t.out j).1∧(WR s.out j).2.1=(WR t.out j).2.1)∧∀ j,j ∉ s.op→WR s.out j=WR t.out j
 | _,_=>False
theorem mrun_rel (ops:List Int) (y z:Int):∀ i,MRel (V1 ops y i) (V1 ops z i):=by
 intro i;induction i with
 | zero=>exact⟨rfl,rfl,rfl,fun _=>⟨rfl,rfl⟩,fun _ _=>rfl⟩
 | succ i ih =>
  show MRel ((V1 ops y i).bind (V3 ops y i)) ((V1 ops z i).bind (V3 ops z i));cases h1:V1 ops y i with
  | none =>
   cases h2:V1 ops z i with
   | none=>exact trivial
   | some t=>rw[h1,h2]at ih;exact ih.elim
  | some s =>
   cases h2:V1 ops z i with
   | none=>rw[h1,h2]at ih;exact ih.elim
   | some t =>
    rw[h1,h2]at ih;have hs:=mrun_inv ops y i s h1;obtain⟨e1,e2,e3,e4,e5⟩:=ih;show MRel (V3 ops y i s) (V3 ops z i t);unfold V3;rw[← e1];by_cases c1:2≤ops.getD i 0∧ops.getD i 0≤4
    ·rw[if_pos c1,if_pos c1];refine⟨by rw[e3],by rw[e2],by simp[e3],fun j=>?_,fun j hj=>?_⟩
     ·rw[V4,V4,e3];by_cases e:j=t.out.length
      ·rw[if_pos e,if_pos e];exact⟨rfl,rfl⟩
      ·rw[if_neg e,if_neg e];exact e4 j
     ·simp only[List.mem_append,List.mem_singleton,not_or]at hj;rw[V4,V4,e3,if_neg (by rw[← e3];exact hj.2),if_neg (by rw[← e3];exact hj.2)];exact e5 j hj.1
    ·rw[if_neg c1,if_neg c1];by_cases c2:ops.getD i 0=5
     ·rw[if_pos c2,if_pos c2];cases hk:s.op.getLast? with
      | none=>exact trivial
      | some k =>
       have hkm:k ∈ s.op:=by rw[last_split hk];simp
       have hkl:=hs.lt k hkm;simp only[← (e4 k).1,← (e4 k).2];by_cases c3:ops.getD (WR s.out k).1.toNat 0=4∧(WR s.out k).2.1 = -1
       ·rw[if_pos c3,if_pos c3];refine⟨rfl,e2,by simp[e3],fun j=>?_,fun j hj=>?_⟩
        ·exact ZcK
        ·have hj':j ∉ s.op:=hj;rw[VG _ _ _ _ hkl,VG _ _ _ _ (by omega),if_neg (fun e=>hj' (by rw[e];exact hkm)),if_neg (fun e=>hj' (by rw[e];exact hkm))];exact e5 j hj'
       ·rw[if_neg c3,if_neg c3];exact trivial
     ·rw[if_neg c2,if_neg c2];by_cases c3:ops.getD i 0=11
      ·rw[if_pos c3,if_pos c3];cases hk:s.op.getLast? with
       | none=>exact trivial
       | some k =>
        have hkm:k ∈ s.op:=by rw[last_split hk];simp
        have hkl:=hs.lt k hkm;simp only[← (e4 k).1,← (e4 k).2];refine⟨rfl,e2,by simp[e3],fun j=>?_,fun j hj=>?_⟩
        ·exact ZcK
        ·rw[VG _ _ _ _ hkl,VG _ _ _ _ (by omega)];by_cases e:j=k
         ·rw[if_pos e,if_pos e]
         ·rw[if_neg e,if_neg e];refine e5 j fun hm=>?_;rw[last_split hk]at hm;rcases List.mem_append.1 hm with hm|hm
          ·exact hj hm
          ·exact e (List.mem_singleton.1 hm)
      ·rw[if_neg c3,if_neg c3];exact⟨e1,e2,e3,e4,e5⟩
theorem sp_ext {a b:List Sp} (hl:a.length=b.length) (h:∀ j,WR a j=WR b j):a=b:=by
 refine List.ext_getElem hl fun j h1 h2=>?_;have:=h j;unfold WR at this;rw[List.getD_eq_getElem?_getD,List.getD_eq_getElem?_getD,List.getElem?_eq_getElem h1,List.getElem?_eq_getElem h2]at this;exact this
theorem matchP_any (ops:List Int) (z:Int):VY ops =
 (if ops.length=0∨ops.getD (ops.length - 1) 0≠11 then (([]:List Sp),(12:Int))
 else match V1 ops z (ops.length - 1) with
  | none=>(([]:List Sp),(12:Int))
  | some s=>if s.op≠[] then (([]:List Sp),(12:Int)) else if 64<s.deep then (([]:List Sp),(26:Int)) else (s.out,(0:Int))):=by
 unfold VY;by_cases c:ops.length=0∨ops.getD (ops.length - 1) 0≠11
 ·rw[if_pos c,if_pos c]
 ·rw[if_neg c,if_neg c];have h:=mrun_rel ops 0 z (ops.length - 1);cases h1:V1 ops 0 (ops.length - 1) with
  | none =>
   cases h2:V1 ops z (ops.length - 1) with
   | none=>rfl
   | some t=>rw[h1,h2]at h;exact h.elim
  | some s =>
   cases h2:V1 ops z (ops.length - 1) with
   | none=>rw[h1,h2]at h;exact h.elim
   | some t =>
    rw[h1,h2]at h;obtain⟨e1,e2,e3,_,e5⟩:=h;simp only[← e1,← e2];by_cases c1:s.op≠[]
    ·rw[if_pos c1,if_pos c1]
    ·rw[if_neg c1,if_neg c1];have h0:s.op=[]:=Classical.not_not.1 c1;rw[sp_ext e3 fun j=>e5 j (by rw[h0];simp)]
end
section
open Go.RowKit
set_option maxHeartbeats 4000000
set_option maxRecDepth 100000
theorem ZH {P:Prop}(h:P:=by
 refine wp_region_held_drew (S:=fun wz=>wz.cell? ⟨w1.heap.size,2,none⟩=some (.slice Ar x.top.rs.length cr)) (by kernel_rfl) HB2.out (fun hS=>?_);show wpAnyH _ _ _ _ _ 7 #[false,false,false,false,false,false,false] _ _;refine mT 0 29 rfl hS ?_;refine mT 1 30 rfl hS ?_;refine mT 2 31 rfl hS ?_;refine mT 3 32 rfl hS ?_;refine mT 4 33 rfl hS ?_;refine mT 5 34 rfl hS ?_ (hy:=by intro wS hSw;go_simp;try with_reducible rfl);have hg3:=HG2.out.1.below ((bR w4.heap.size w4).drew);have HGV:=hD (give_any HF.out hg3.1 _ x.top.rs (hg3.2.ints (HG2.out.2.ints (HS1.out.ints HRV.out))) (by rw[HXS.out];exact HLC.out));rw[HER.out]at HGV;have hlt:w1.heap.size<w4.drew.heap.size:=wL _ _ hS;have HS3:=hD hg3.2;clear hg3;refine mR 6 35 rfl fun K hK=>?_;go_simp;go_at_call 112;refine HGV.out.mono ?_;rintro e w5 ⟨rfl,x5,g5,s5,hf5,hs5⟩;go_wp2_with fail
 refine hK.out _ _ ((s5.keeps.cell (p:=⟨w1.heap.size,2,none⟩) ⟨hlt,HFR.out⟩).trans hS) (fun _=>?_);clear hK K;try simp only[sA,List.set]
 refine wpAnyH_done (by kernel_rfl) ?_ _;have HG5:=hD g5;have HS5:=hD s5;clear g5 s5 hS;go_wp2;go_ret;exact⟨rfl,x5,HG5.out,((HS1.out.trans HG2.out.2).trans HS3.out).trans HS5.out,fun _=>⟨hf5.trans HXF.out,hs5.trans (by rw[HXS.out])⟩⟩):P:=h
def Ws.mayShut (x:Ws):Bool:=x.mayEnd && !(decide (x.top.op=4) && !decide (x.top.ps=x.top.rs))
def Ws.cut (x:Ws):List Int:=x.s.take (max (x.s.length - x.top.rs.length) x.top.h)
theorem close_any {F:Wx} {w:World} {x:Ws} (hF:F.prg) (h:Wk F w x) (h0:0<x.f.length) (hs:x.s.length≤900000) (hrl:x.top.rs.length≤100000) (hh:x.top.h≤x.s.length) :
 Calls Tryz.prog 122 #[.pointer (some ⟨F.G,0,none⟩)] w (WPost F w x (.bool x.mayShut) (fun x'=>x.mayShut=true→x'.f=x.f.take (x.f.length - 1)∧x'.s=x.cut++x.top.rs)):=by
 have HFI:=hD (finish_any hF h h0 (by omega) (by omega) hh);have hmem:x.top ∈ x.f:=by
  exact Z8
 have hrv:=(h.reads.fr _ hmem).2;have hpv:=(h.reads.fr _ hmem).1;obtain⟨Ar,cr,er,_⟩:=hrv.form;obtain⟨Ap,cp,ep,_⟩:=hpv.form;have HRV:=hD hrv;have HPV:=hD hpv;have HER:=hD er;have HEP:=hD ep;have HF:=hD hF;have HLC:Hid (x.cut.length+x.top.rs.length≤1000000):=hD (by unfold Ws.cut;rw[List.length_take];omega);clear hrv hpv er ep h hF hmem;cases hme:x.mayEnd with
 | false =>
  have hms:x.mayShut=false:=by unfold Ws.mayShut;rw[hme];rfl
  have HF2:Hid (Calls Tryz.prog 157 #[.pointer (some ⟨F.G,0,none⟩)] w fun e w'=>∃ x',Wk F w' x'∧Wz F w x w' x'∧e=.returned (.tuple #[.agg #[.int .i64 0,.slice none 0 0,.slice none 0 0,.int .i64 0,.bool false],.bool false])):=hD (HFI.out.mono fun e w' hp=>by
   obtain⟨x',g1,s1,e1,_⟩:=hp;rw[hme]at e1;exact⟨x',g1,s1,e1⟩)
  rw[hms];clear HFI hme hms;go_enter Tryz.func122,Tryz.ntmps122;go_wp2_with (go_at_call 157;refine HF2.out.mono ?_;rintro e w1 ⟨x1,g1,s1,rfl⟩;have HG1:=hD g1;have HS1:=hD s1;clear g1 s1)
  go_ret;have h2:=HG1.out.alloc (.cells #[.int .i64 0,.slice none 0 0,.slice none 0 0,.int .i64 0,.bool false] 192);exact⟨rfl,x1,h2.1,HS1.out.trans h2.2,fun hx=>(by cases hx)⟩
 | true =>
  have HF2:Hid (Calls Tryz.prog 157 #[.pointer (some ⟨F.G,0,none⟩)] w fun e w'=>∃ x',Wk F w' x'∧Wz F w x w' x'∧e=.returned (.tuple #[.agg #[.int .i64 x.top.op,.slice Ap x.top.ps.length cp,.slice Ar x.top.rs.length cr,.int .i64 (x.top.h:Int),.bool x.top.dead],.bool true])∧x'.f=x.f.take (x.f.length - 1)∧x'.s=x.cut):=hD (HFI.out.mono fun e w' hp=>by
   obtain⟨x',g1,s1,e1,hx⟩:=hp;rw[hme,if_pos rfl]at e1;unfold Fv.cells at e1;rw[HER.out,HEP.out]at e1;exact⟨x',g1,s1,e1,hx hme⟩)
  have hms:x.mayShut=!(decide (x.top.op=4) && !decide (x.top.ps=x.top.rs)):=by unfold Ws.mayShut;rw[hme];rfl
  rw[hms];clear HFI hme hms;have HEQ:Hid (∀ w1 x1,Wk F w1 x1→Wz F w x w1 x1→Calls Tryz.prog 126 #[.slice Ap x.top.ps.length cp,.slice Ar x.top.rs.length cr] w1 (Wh (decide (x.top.ps=x.top.rs)) w1)):=hD fun w1 x1 g1 s1=>by
   have h1:=s1.ints HPV.out;have h2:=s1.ints HRV.out;rw[HEP.out]at h1;rw[HER.out]at h2;exact equal_is _ w1 _ _ _ _ h1 h2
  cases h4:decide (x.top.op=4) with
  | false =>
   have d4:(x.top.op==4)=false:=by have:=of_decide_eq_false h4;simpa using this
   clear h4 HEQ;rw[show(!(false && !decide (x.top.ps=x.top.rs)))=true from rfl];go_enter Tryz.func122,Tryz.ntmps122
   go_upto_region 4 with (first|(go_at_call 157;refine HF2.out.mono ?_;rintro e w1 ⟨x1,g1,s1,rfl,hxf,hxs⟩;have HG1:=hD g1;have HS1:=hD s1;have HXF:=hD hxf;have HXS:=hD hxs;clear g1 s1 hxf hxs))
   have hbl:Below w1.heap.size w1 (w1.alloc (.cells #[.int .i64 x.top.op,.slice Ap x.top.ps.length cp,.slice Ar x.top.rs.length cr,.int .i64 (x.top.h:Int),.bool x.top.dead] 192)):=(bR _ _).alloc (nR _) _;have hg2:=HG1.out.below hbl;have b2:((w1.alloc (.cells #[.int .i64 x.top.op,.slice Ap x.top.ps.length cp,.slice Ar x.top.rs.length cr,.int .i64 (x.top.h:Int),.bool x.top.dead] 192))).cell? ⟨w1.heap.size,2,none⟩=some (.slice Ar x.top.rs.length cr):=by rw[wN];rfl
   have hfr:¬ wpriv F x1 w1.heap.size:=HG1.out.new_free (nR _);have HG2:=hD hg2;have HB2:=hD b2;have HFR:=hD hfr;clear hbl hg2 b2 hfr;generalize (w1.alloc (.cells #[.int .i64 x.top.op,.slice Ap x.top.ps.length cp,.slice Ar x.top.rs.length cr,.int .i64 (x.top.h:Int),.bool x.top.dead] 192))=w4 at *;exact ZH
  | true =>
   have d4:(x.top.op==4)=true:=by have:=of_decide_eq_true h4;simpa using this
   clear h4;cases he:decide (x.top.ps=x.top.rs) with
   | false =>
    rw[he]at HEQ;clear he;rw[show(!(true && !false))=false from rfl];go_enter Tryz.func122,Tryz.ntmps122;go_wp2_with (first|(go_at_call 157;refine HF2.out.mono ?_;rintro e w1 ⟨x1,g1,s1,rfl,hxf,hxs⟩;have HG1:=hD g1;have HS1:=hD s1;have HXF:=hD hxf;have HXS:=hD hxs;clear g1 s1 hxf hxs)|(go_at_call 126;refine(HEQ.out _ x1 (HG1.out.alloc _).1 (HS1.out.trans (HG1.out.alloc _).2)).mono ?_;rintro e w3 ⟨rfl,hb3⟩;have HB3:=hD hb3;clear hb3))
    go_ret;have h2:=HG1.out.alloc (.cells #[.int .i64 x.top.op,.slice Ap x.top.ps.length cp,.slice Ar x.top.rs.length cr,.int .i64 (x.top.h:Int),.bool x.top.dead] 192);have h3:=h2.1.below HB3.out;exact⟨rfl,x1,h3.1,(HS1.out.trans h2.2).trans h3.2,fun hx=>(by cases hx)⟩
   | true =>
    rw[he]at HEQ;clear he;rw[show(!(true && !true))=true from rfl];go_enter Tryz.func122,Tryz.ntmps122
    go_upto_region 4 with (first|(go_at_call 157;refine HF2.out.mono ?_;rintro e w1 ⟨x1,g1,s1,rfl,hxf,hxs⟩;have HG1:=hD g1;have HS1:=hD s1;have HXF:=hD hxf;have HXS:=hD hxs;clear g1 s1 hxf hxs)|(go_at_call 126;refine(HEQ.out _ x1 (HG1.out.alloc _).1 (HS1.out.trans (HG1.out.alloc _).2)).mono ?_;rintro e w3 ⟨rfl,hb3⟩;have HB3:=hD hb3;clear hb3))
    have hbl:Below w1.heap.size w1 w3:=((bR _ _).alloc (nR _) (.cells #[.int .i64 x.top.op,.slice Ap x.top.ps.length cp,.slice Ar x.top.rs.length cr,.int .i64 (x.top.h:Int),.bool x.top.dead] 192)).trans (HB3.out.mono (by rw[Wj];omega));have hg2:=HG1.out.below hbl;have b2:(w3).cell? ⟨w1.heap.size,2,none⟩=some (.slice Ar x.top.rs.length cr):=((HB3.out.cell (p:=⟨w1.heap.size,2,none⟩) (by rw[Wj];exact Nat.lt_succ_self _))).trans (by rw[wN];rfl);have hfr:¬ wpriv F x1 w1.heap.size:=HG1.out.new_free (nR _);have HG2:=hD hg2;have HB2:=hD b2;have HFR:=hD hfr;clear hbl hg2 b2 hfr;generalize w3=w4 at *;exact ZH
end
end Go.Proofs.YtmfpnfdinoofpaaGreatDoor
