/- A part of the proof. -/
import Derived.Test.YtepgopnnaeoolaaGreatDoorJ8
import Derived.OneCell
namespace Go.Proofs.YtepgopnnaeoolaaGreatDoor
section
theorem Zbf {P:Prop}(h:P:=by
 intro j k hjk hlt;rw[VY _ _ _ _ hk0,VY _ _ _ _ hk0];have:=h6 j k hjk hlt;by_cases e:j=k0
 ·subst e;rw[if_pos rfl,if_neg (by omega)];exact this
 ·rw[if_neg e];by_cases e2:k=k0
  ·subst e2;rw[if_pos rfl];exact this
  ·rw[if_neg e2];exact this):P:=h
theorem ZbM {P:Prop}(h:P:=by
 intro j hj;rw[VY _ _ _ _ hk0];by_cases e:j=k0
 ·rw[if_pos e];simp only;omega
 ·rw[if_neg e];have:=h5 j hj;omega):P:=h
abbrev Sp:=Int×Int×Int
structure MSt where
 out:List Sp
 op:List Nat
 deep:Nat
def WO (l:List Sp) (k:Nat):Sp:=l.getD k (0,0,0)
def mstep (ops:List Int) (z:Int) (i:Nat) (s:MSt):Option MSt :=
 if 2≤ops.getD i 0∧ops.getD i 0≤4 then some ⟨s.out++[((i:Int),-1,z)],s.op++[s.out.length],max s.deep (s.op.length+1)⟩
 else if ops.getD i 0=5 then
  (match s.op.getLast? with
   | none=>none
   | some k=>if ops.getD (WO s.out k).1.toNat 0=4∧(WO s.out k).2.1 = -1 then some ⟨s.out.set k ((WO s.out k).1,(i:Int),(WO s.out k).2.2),s.op,s.deep⟩ else none)
 else if ops.getD i 0=11 then
  (match s.op.getLast? with
   | none=>none
   | some k=>some ⟨s.out.set k ((WO s.out k).1,(WO s.out k).2.1,(i:Int)),s.op.dropLast,s.deep⟩)
 else some s
def mrun (ops:List Int) (z:Int):Nat→Option MSt
 | 0=>some ⟨[],[],0⟩
 | i+1=>(mrun ops z i).bind (mstep ops z i)
def matchP (ops:List Int):List Sp×Int :=
 if ops.length=0∨ops.getD (ops.length - 1) 0≠11 then ([],12)
 else match mrun ops 0 (ops.length - 1) with
  | none=>([],12)
  | some s=>if s.op≠[] then ([],12) else if 64<s.deep then ([],26) else (s.out,0)
theorem spAt_snoc (l:List Sp) (x:Sp) (k:Nat):WO (l++[x]) k=if k=l.length then x else WO l k:=by
 unfold WO;rw[List.getD_eq_getElem?_getD,List.getD_eq_getElem?_getD,List.getElem?_append];by_cases h:k<l.length
 ·rw[if_pos h,if_neg (by omega)]
 ·rw[if_neg h];by_cases h2:k=l.length
  ·rw[if_pos h2,h2];simp
  ·rw[if_neg h2,List.getElem?_eq_none (by simp;omega),List.getElem?_eq_none (by omega)]
theorem VY (l:List Sp) (x:Sp) (j k:Nat) (hj:j<l.length):WO (l.set j x) k=if k=j then x else WO l k:=by
 unfold WO;rw[List.getD_eq_getElem?_getD,List.getD_eq_getElem?_getD,List.getElem?_set];by_cases h:j=k
 ·subst h;rw[if_pos rfl,if_pos rfl,if_pos hj];rfl
 ·rw[if_neg h,if_neg (fun e=>h e.symm)]
theorem last_split {l:List Nat} {k:Nat} (h:l.getLast?=some k):l=l.dropLast++[k]:=by
 rcases List.eq_nil_or_concat l with rfl|⟨t,x,rfl⟩
 ·simp at h
 ·rw[List.concat_eq_append]at h ⊢;rw[List.getLast?_append]at h;simp at h;subst h;simp
theorem mstep_cases {ops:List Int} {z:Int} {i:Nat} {s t:MSt} (h:mstep ops z i s=some t) :
 ((2≤ops.getD i 0∧ops.getD i 0≤4)∧t=⟨s.out++[((i:Int),-1,z)],s.op++[s.out.length],max s.deep (s.op.length+1)⟩) ∨
 (∃ k,ops.getD i 0=5∧s.op=s.op.dropLast++[k]∧ops.getD (WO s.out k).1.toNat 0=4∧(WO s.out k).2.1 = -1∧t=⟨s.out.set k ((WO s.out k).1,(i:Int),(WO s.out k).2.2),s.op,s.deep⟩) ∨
 (∃ k,ops.getD i 0=11∧s.op=s.op.dropLast++[k]∧t=⟨s.out.set k ((WO s.out k).1,(WO s.out k).2.1,(i:Int)),s.op.dropLast,s.deep⟩) ∨
 ((¬ (2≤ops.getD i 0∧ops.getD i 0≤4)∧ops.getD i 0≠5∧ops.getD i 0≠11)∧t=s):=by
 unfold mstep at h;by_cases h1:2≤ops.getD i 0∧ops.getD i 0≤4
 ·rw[if_pos h1]at h;exact .inl ⟨h1,(Option.some.inj h).symm⟩
 ·rw[if_neg h1]at h;by_cases h2:ops.getD i 0=5
  ·rw[if_pos h2]at h;cases hk:s.op.getLast? with
   | none=>rw[hk]at h;cases h
   | some k =>
    rw[hk]at h;by_cases h3:ops.getD (WO s.out k).1.toNat 0=4∧(WO s.out k).2.1 = -1
    ·simp only[if_pos h3]at h;exact .inr (.inl ⟨k,h2,last_split hk,h3.1,h3.2,(Option.some.inj h).symm⟩)
    ·simp only[if_neg h3]at h;cases h
  ·rw[if_neg h2]at h;by_cases h3:ops.getD i 0=11
   ·rw[if_pos h3]at h;cases hk:s.op.getLast? with
    | none=>rw[hk]at h;cases h
    | some k=>rw[hk]at h;exact .inr (.inr (.inl ⟨k,h3,last_split hk,(Option.some.inj h).symm⟩))
   ·rw[if_neg h3]at h;exact .inr (.inr (.inr ⟨⟨h1,h2,h3⟩,(Option.some.inj h).symm⟩))
structure MInv (ops:List Int) (i:Nat) (s:MSt):Prop where
 opl:s.op.length≤s.out.length
 outl:s.out.length≤i
 lt:∀ k ∈ s.op,k<s.out.length
 asc:s.op.Pairwise (·<·)
 a0:∀ j,j<s.out.length→0≤(WO s.out j).1∧(WO s.out j).1<i
 am:∀ j k,j<k→k<s.out.length→(WO s.out j).1<(WO s.out k).1
 zz:∀ j,j<s.out.length→j ∉ s.op→(WO s.out j).1<(WO s.out j).2.2∧(WO s.out j).2.2<i∧ops.getD (WO s.out j).2.2.toNat 0=11
 ee:∀ j,j<s.out.length→(WO s.out j).2.1 = -1∨((WO s.out j).1<(WO s.out j).2.1∧(WO s.out j).2.1<i∧ops.getD (WO s.out j).1.toNat 0=4∧(j ∉ s.op→(WO s.out j).2.1<(WO s.out j).2.2))
 nz:∀ j k,j<k→k<s.out.length→j ∉ s.op→(WO s.out k).1<(WO s.out j).2.2→k ∉ s.op∧(WO s.out k).2.2<(WO s.out j).2.2
 ne:∀ j k,j<k→k<s.out.length→(WO s.out j).2.1 ≠ -1→(WO s.out k).1<(WO s.out j).2.1→k ∉ s.op∧(WO s.out k).2.2<(WO s.out j).2.1
theorem top_max {l:List Nat} {k:Nat} (h:(l++[k]).Pairwise (·<·)):∀ j ∈ l,j<k:=fun j hj=>by
 have:=List.pairwise_append.1 h;exact this.2.2 j hj k (by simp)
theorem MInv.step {ops:List Int} {z:Int} {i:Nat} {s t:MSt} (h:MInv ops i s) (hs:mstep ops z i s=some t):MInv ops (i+1) t:=by
 obtain⟨h1,h2,h3,h4,h5,h6,h7,h8,h9,h10⟩:=h;rcases mstep_cases hs with ⟨_,rfl⟩|⟨k0,hop,hk,h4i,he,rfl⟩|⟨k0,hop,hk,rfl⟩|⟨_,rfl⟩
 ·have hout:∀ j,j ∈ s.op++[s.out.length]↔j ∈ s.op∨j=s.out.length:=fun j=>by simp
  refine⟨by simp;omega,by simp;omega,?_,?_,?_,?_,?_,?_,?_,?_⟩
  ·intro k hk;simp only[hout]at hk;simp only[List.length_append,List.length_singleton];rcases hk with hk|rfl
   ·have:=h3 k hk;omega
   ·omega
  ·refine List.pairwise_append.2 ⟨h4,by simp,fun a ha b hb=>?_⟩;obtain rfl:=List.mem_singleton.1 hb;exact h3 a ha
  ·intro j hj;simp only[List.length_append,List.length_singleton]at hj;simp only[spAt_snoc];by_cases e:j=s.out.length
   ·rw[if_pos e];simp only;omega
   ·rw[if_neg e];have:=h5 j (by omega);omega
  ·intro j k hjk hk;simp only[List.length_append,List.length_singleton]at hk;simp only[spAt_snoc];rw[if_neg (by omega)];by_cases e:k=s.out.length
   ·rw[if_pos e];have:=h5 j (by omega);simp only;omega
   ·rw[if_neg e];exact h6 j k hjk (by omega)
  ·intro j hj hn;simp only[List.length_append,List.length_singleton]at hj;simp only[hout,not_or]at hn;simp only[spAt_snoc];rw[if_neg hn.2];have:=h7 j (by omega) hn.1;exact⟨this.1,by omega,this.2.2⟩
  ·intro j hj;simp only[List.length_append,List.length_singleton]at hj;simp only[hout,not_or,spAt_snoc];by_cases e:j=s.out.length
   ·rw[if_pos e];exact .inl rfl
   ·rw[if_neg e];rcases h8 j (by omega) with q|⟨q1,q2,q3,q4⟩
    ·exact .inl q
    ·exact .inr ⟨q1,by omega,q3,fun hn=>q4 hn.1⟩
  ·intro j k hjk hk hn;simp only[List.length_append,List.length_singleton]at hk;simp only[hout,not_or]at hn ⊢;simp only[spAt_snoc];rw[if_neg (show ¬ j=s.out.length by omega)];by_cases e:k=s.out.length
   ·rw[if_pos e];intro hlt;have:=h7 j (by omega) hn.1;simp only at hlt;omega
   ·rw[if_neg e];intro hlt;have:=h9 j k hjk (by omega) hn.1 hlt;exact⟨⟨this.1,e⟩,this.2⟩
  ·intro j k hjk hk hn;simp only[List.length_append,List.length_singleton]at hk;simp only[hout,not_or]at hn ⊢;simp only[spAt_snoc]at hn ⊢;rw[if_neg (show ¬ j=s.out.length by omega)]at hn ⊢;by_cases e:k=s.out.length
   ·rw[if_pos e];intro hlt;rcases h8 j (by omega) with q|⟨q1,q2,_⟩
    ·exact absurd q hn
    ·simp only at hlt;omega
   ·rw[if_neg e];intro hlt;have:=h10 j k hjk (by omega) hn hlt;exact⟨⟨this.1,e⟩,this.2⟩
 ·have hk0:k0<s.out.length:=h3 k0 (by rw[hk];simp);have hin:k0 ∈ s.op:=by rw[hk];simp
  have hab:∀ k,k0<k→k ∉ s.op:=fun k hlt hm=>by
   rw[hk]at hm h4;rcases List.mem_append.1 hm with hm|hm
   ·have:=top_max h4 k hm;omega
   ·obtain rfl:=List.mem_singleton.1 hm;omega
  have a5:=h5 k0 hk0;refine⟨by simpa using h1,by simp;omega,fun k hk'=>by simpa using h3 k hk',h4,?_,?_,?_,?_,?_,?_⟩
  all_goals simp only[List.length_set]
  ·exact ZbM
  ·exact Zbf
  ·intro j hj hn;rw[VY _ _ _ _ hk0,if_neg (fun e=>hn (by rw[e];exact hin))];have:=h7 j hj hn;exact⟨this.1,by omega,this.2.2⟩
  ·intro j hj;rw[VY _ _ _ _ hk0];by_cases e:j=k0
   ·subst e;rw[if_pos rfl];exact .inr ⟨by simp only;omega,by simp only;omega,h4i,fun hn=>absurd hin hn⟩
   ·rw[if_neg e];rcases h8 j hj with q|⟨q1,q2,q3,q4⟩
    ·exact .inl q
    ·exact .inr ⟨q1,by omega,q3,q4⟩
  ·intro j k hjk hlt hn;rw[VY _ _ _ _ hk0,VY _ _ _ _ hk0,if_neg (fun e:j=k0=>hn (by rw[e];exact hin))];by_cases e2:k=k0
   ·subst e2;rw[if_pos rfl];intro hl;exact absurd hin (h9 j k hjk hlt hn hl).1
   ·rw[if_neg e2];intro hl;exact h9 j k hjk hlt hn hl
  ·intro j k hjk hlt;rw[VY _ _ _ _ hk0,VY _ _ _ _ hk0];by_cases e:j=k0
   ·subst e;rw[if_pos rfl,if_neg (by omega)];intro _ _;have hn:=hab k hjk;have:=h7 k hlt hn;exact⟨hn,this.2.1⟩
   ·rw[if_neg e];intro hn;by_cases e2:k=k0
    ·subst e2;rw[if_pos rfl];intro hl;exact absurd hin (h10 j k hjk hlt hn hl).1
    ·rw[if_neg e2];intro hl;exact h10 j k hjk hlt hn hl
 ·have hk0:k0<s.out.length:=h3 k0 (by rw[hk];simp);have hin:k0 ∈ s.op:=by rw[hk];simp
  have hpw:=h4;rw[hk]at hpw;have htop:=top_max hpw;have hmem:∀ j,j ∈ s.op↔j ∈ s.op.dropLast∨j=k0:=fun j=>by
   constructor
   ·intro h;rw[hk]at h;simpa using h
   ·intro h;rw[hk];simpa using h
  have hab:∀ k,k0<k→k ∉ s.op:=fun k hlt hm=>by
   rcases(hmem k).1 hm with hm|rfl
   ·have:=htop k hm;omega
   ·omega
  have hnt:k0 ∉ s.op.dropLast:=fun hm=>by have:=htop k0 hm;omega
  have a5:=h5 k0 hk0;have hdl:s.op.dropLast.length≤s.op.length:=by simp
  refine⟨by simp only[List.length_set];omega,by simp only[List.length_set];omega,fun k hk'=>by simpa using h3 k ((hmem k).2 (.inl hk')),(List.pairwise_append.1 hpw).1,?_,?_,?_,?_,?_,?_⟩
  all_goals simp only[List.length_set]
  ·exact ZbM
  ·exact Zbf
  ·intro j hj hn;rw[VY _ _ _ _ hk0];by_cases e:j=k0
   ·subst e;rw[if_pos rfl];exact⟨by simp only;omega,by simp only;omega,by simpa using hop⟩
   ·rw[if_neg e];have:=h7 j hj (fun hm=>((hmem j).1 hm).elim hn e);exact⟨this.1,by omega,this.2.2⟩
  ·intro j hj;rw[VY _ _ _ _ hk0];by_cases e:j=k0
   ·subst e;rw[if_pos rfl];rcases h8 j hj with q|⟨q1,q2,q3,q4⟩
    ·exact .inl q
    ·exact .inr ⟨q1,by simp only;omega,q3,fun _=>by simp only;omega⟩
   ·rw[if_neg e];rcases h8 j hj with q|⟨q1,q2,q3,q4⟩
    ·exact .inl q
    ·exact .inr ⟨q1,by omega,q3,fun hn=>q4 (fun hm=>((hmem j).1 hm).elim hn e)⟩
  ·intro j k hjk hlt hn;rw[VY _ _ _ _ hk0,VY _ _ _ _ hk0];by_cases e:j=k0
   ·subst e;rw[if_pos rfl,if_neg (by omega)];intro hl;have hn2:=hab k hjk;have:=h7 k hlt hn2;exact⟨fun hm=>hn2 ((hmem k).2 (.inl hm)),this.2.1⟩
   ·rw[if_neg e];have hn2:j ∉ s.op:=fun hm=>((hmem j).1 hm).elim hn e;by_cases e2:k=k0
    ·subst e2;rw[if_pos rfl];intro hl;exact absurd hin (h9 j k hjk hlt hn2 hl).1
    ·rw[if_neg e2];intro hl;have:=h9 j k hjk hlt hn2 hl;exact⟨fun hm=>this.1 ((hmem k).2 (.inl hm)),this.2⟩
  ·intro j k hjk hlt;rw[VY _ _ _ _ hk0,VY _ _ _ _ hk0];by_cases e:j=k0
   ·subst e;rw[if_pos rfl,if_neg (by omega)];intro hne hl;have:=h10 j k hjk hlt hne hl;exact⟨fun hm=>this.1 ((hmem k).2 (.inl hm)),this.2⟩
   ·rw[if_neg e];intro hne;by_cases e2:k=k0
    ·subst e2;rw[if_pos rfl];intro hl;exact absurd hin (h10 j k hjk hlt hne hl).1
    ·rw[if_neg e2];intro hl;have:=h10 j k hjk hlt hne hl;exact⟨fun hm=>this.1 ((hmem k).2 (.inl hm)),this.2⟩
 ·exact⟨h1,by omega,h3,h4,fun j hj=>by have:=h5 j hj;omega,h6,fun j hj hn=>by have:=h7 j hj hn;exact⟨this.1,by omega,this.2.2⟩,fun j hj=>by
   rcases h8 j hj with q|⟨q1,q2,q3,q4⟩
   ·exact .inl q
   ·exact .inr ⟨q1,by omega,q3,q4⟩,h9,h10⟩
theorem mrun_inv (ops:List Int) (z:Int):∀ i s,mrun ops z i=some s→MInv ops i s:=by
 intro i;induction i with
 | zero =>
  intro s h;obtain rfl:=Option.some.inj h;exact⟨Nat.le_refl _,Nat.le_refl _,by simp,by simp,by simp,by simp,by simp,by simp,by simp,by simp⟩
 | succ i ih =>
  intro s h;have h':(mrun ops z i).bind (mstep ops z i)=some s:=h;cases hr:mrun ops z i with
  | none=>rw[hr]at h';cases h'
  | some q=>rw[hr]at h';exact(ih q hr).step h'
theorem mrun_none {ops:List Int} {z:Int} {i:Nat} (h:mrun ops z i=none):∀ j,i≤j→mrun ops z j=none:=by
 intro j hj;induction j with
 | zero =>
  obtain rfl:i=0:=by omega
  exact h
 | succ j ih =>
  rcases Nat.lt_or_ge j i with h1|h1
  ·obtain rfl:i=j+1:=by omega
   exact h
  ·show(mrun ops z j).bind _=none;rw[ih h1];rfl
end
section
open Go.RowKit
set_option maxRecDepth 10000
theorem ZbE {P:Prop}(h:P:=by
 go_enter Tryz.func83,Tryz.ntmps83;go_wp2;go_ret;exact⟨rfl,(bR _ _).alloc (nR _) _⟩):P:=h
def spCells (s:Sp):List Value:=[.int .i64 s.1,.int .i64 s.2.1,.int .i64 s.2.2]
def Ut (l:List Sp):List Value:=l.flatMap spCells
theorem flatS_snoc (l:List Sp) (x:Sp):Ut (l++[x])=Ut l++spCells x:=by simp[Ut]
theorem flatS_cons (x:Sp) (l:List Sp):Ut (x :: l)=spCells x++Ut l:=by simp[Ut]
theorem spAt_cons (x:Sp) (l:List Sp) (k:Nat):WO (x :: l) (k+1)=WO l k:=rfl
theorem flatS_at (l:List Sp):∀ k,k<l.length→(Ut l)[k * 3]?=some (.int .i64 (WO l k).1)∧(Ut l)[k * 3+1]?=some (.int .i64 (WO l k).2.1)∧(Ut l)[k * 3+2]?=some (.int .i64 (WO l k).2.2):=by
 induction l with
 | nil=>intro k h;simp at h
 | cons x l ih =>
  intro k h;rw[flatS_cons];cases k with
  | zero=>exact⟨rfl,rfl,rfl⟩
  | succ k =>
   have h3:(spCells x).length=3:=rfl;rw[List.getElem?_append_right (by rw[h3];omega),List.getElem?_append_right (by rw[h3];omega),List.getElem?_append_right (by rw[h3];omega),h3,show(k+1) * 3 - 3=k * 3 by omega,show(k+1) * 3+1 - 3=k * 3+1 by omega,show(k+1) * 3+2 - 3=k * 3+2 by omega];exact ih k (by simp at h;omega)
theorem flatS_set (l:List Sp):∀ (k:Nat) (e z:Int),k<l.length→Ut (l.set k ((WO l k).1,e,(WO l k).2.2))=(Ut l).set (k * 3+1) (.int .i64 e)∧Ut (l.set k ((WO l k).1,(WO l k).2.1,z))=(Ut l).set (k * 3+2) (.int .i64 z):=by
 induction l with
 | nil=>intro k e z h;simp at h
 | cons x l ih =>
  intro k e z h;cases k with
  | zero=>simp only[List.set_cons_zero,flatS_cons];exact⟨rfl,rfl⟩
  | succ k =>
   have h3:(spCells x).length=3:=rfl;obtain⟨h1,h2⟩:=ih k e z (by simp at h;omega);simp only[List.set_cons_succ,flatS_cons,spAt_cons,h1,h2];rw[List.set_append_right _ _ (by rw[h3];omega),List.set_append_right _ _ (by rw[h3];omega),h3,show(k+1) * 3+1 - 3=k * 3+1 by omega,show(k+1) * 3+2 - 3=k * 3+2 by omega];exact⟨rfl,rfl⟩
def CodeAt (w:World) (A:Option Addr) (m:Nat) (ops:List Int):Prop :=
 0<m→∃ g o:Nat,A=some ⟨g,o,none⟩∧g<w.heap.size∧∀ j,j<m→∃ (u1 u2 u3:Int) (Al:Option Addr) (nl cl:Nat),w.cell? ⟨g,o+j * 5,none⟩=some (.int .i64 (ops.getD j 0))∧w.cell? ⟨g,o+j * 5+1,none⟩=some (.int .i64 u1)∧w.cell? ⟨g,o+j * 5+2,none⟩=some (.int .i64 u2)∧w.cell? ⟨g,o+j * 5+3,none⟩=some (.int .u64 u3)∧w.cell? ⟨g,o+j * 5+4,none⟩=some (.slice Al nl cl)
theorem CodeAt.below {w w':World} {A:Option Addr} {m:Nat} {ops:List Int} (h:CodeAt w A m ops) (hb:Below w.heap.size w w'):CodeAt w' A m ops:=fun hm=>by
 obtain⟨g,o,e,hg,hc⟩:=h hm;refine⟨g,o,e,WW hg hb.size,fun j hj=>?_⟩;obtain⟨u1,u2,u3,Al,nl,cl,h0,h1,h2,h3,h4⟩:=hc j hj;exact⟨u1,u2,u3,Al,nl,cl,(hb.cell (p:=⟨g,o+j * 5,none⟩) hg).trans h0,(hb.cell (p:=⟨g,o+j * 5+1,none⟩) hg).trans h1,(hb.cell (p:=⟨g,o+j * 5+2,none⟩) hg).trans h2,(hb.cell (p:=⟨g,o+j * 5+3,none⟩) hg).trans h3,(hb.cell (p:=⟨g,o+j * 5+4,none⟩) hg).trans h4⟩
theorem CodeAt.less {w:World} {A:Option Addr} {m k:Nat} {ops:List Int} (h:CodeAt w A m ops) (hk:k≤m):CodeAt w A k ops:=fun h0=>by
 obtain⟨g,o,e,hg,hc⟩:=h (by omega);exact⟨g,o,e,hg,fun j hj=>hc j (by omega)⟩
section
variable {ops:List Int} {z:Int} {i:Nat} {s:MSt}
theorem mstep_open (h:Uj (ops.getD i 0)=true):mstep ops z i s=some ⟨s.out++[((i:Int),-1,z)],s.op++[s.out.length],max s.deep (s.op.length+1)⟩:=by
 unfold mstep;rw[if_pos (of_decide_eq_true h)]
theorem mstep_none {i:Nat} (h:(ops.getD i 0=5∨ops.getD i 0=11)∧s.op=[]):mstep ops z i s=none:=by
 unfold mstep;rw[if_neg (by omega),h.2];rcases h.1 with h|h
 ·rw[if_pos h];rfl
 ·rw[if_neg (by omega),if_pos h];rfl
theorem mstep_bad {k:Nat} {t:List Nat} (h5:ops.getD i 0=5) (ho:s.op=t++[k]) (hb:decide (ops.getD (WO s.out k).1.toNat 0=4∧(WO s.out k).2.1 = -1)=false):mstep ops z i s=none:=by
 unfold mstep;rw[if_neg (by omega),if_pos h5,ho,List.getLast?_concat];simp only;rw[if_neg (of_decide_eq_false hb)]
theorem mstep_else {k:Nat} {t:List Nat} (h5:ops.getD i 0=5) (ho:s.op=t++[k]) (hb:decide (ops.getD (WO s.out k).1.toNat 0=4∧(WO s.out k).2.1 = -1)=true):mstep ops z i s=some ⟨s.out.set k ((WO s.out k).1,(i:Int),(WO s.out k).2.2),s.op,s.deep⟩:=by
 unfold mstep;rw[if_neg (by omega),if_pos h5];have e:s.op.getLast?=some k:=by rw[ho,List.getLast?_concat]
 rw[e];simp only;rw[if_pos (of_decide_eq_true hb)]
theorem mstep_end {k:Nat} {t:List Nat} (h11:ops.getD i 0=11) (ho:s.op=t++[k]):mstep ops z i s=some ⟨s.out.set k ((WO s.out k).1,(WO s.out k).2.1,(i:Int)),t,s.deep⟩:=by
 unfold mstep;rw[if_neg (by omega),if_neg (by omega),if_pos h11,ho,List.getLast?_concat];simp
theorem mstep_other (h1:Uj (ops.getD i 0)=false) (h2:ops.getD i 0≠5) (h3:ops.getD i 0≠11):mstep ops z i s=some s:=by
 unfold mstep;rw[if_neg (of_decide_eq_false h1),if_neg h2,if_neg h3]
end
theorem mrun_succ {ops:List Int} {z:Int} {i:Nat} {s:MSt} (h:mrun ops z i=some s):mrun ops z (i+1)=mstep ops z i s:=by
 show(mrun ops z i).bind _=_;rw[h];rfl
theorem list_end {l:List Nat} (h:0<l.length):∃ t k,l=t++[k]∧l.length=t.length+1:=by
 rcases List.eq_nil_or_concat l with rfl|⟨t,x,rfl⟩
 ·simp at h
 ·exact⟨t,x,by simp,by simp⟩
theorem divides_any (w:World) (A:Option Addr) (m c:Nat) (ops:List Int) (hc:CodeAt w A m ops) (a:Nat) (ha:a<m) (hm:m≤1000000) (e z:Int) :
 Calls Tryz.prog 83 #[.slice A m c,.agg #[.int .i64 (a:Int),.int .i64 e,.int .i64 z]] w (Wo (decide (ops.getD a 0=4∧e = -1)) w):=by
 obtain⟨g,o,rfl,hg,hcell⟩:=hc (by omega);obtain⟨_,_,_,_,_,_,h0,_⟩:=hcell a ha;have k0:(w.alloc (.cells #[.int .i64 (a:Int),.int .i64 e,.int .i64 z] 130)).cell? ⟨g,o+a * 5,none⟩=some (.int .i64 (ops.getD a 0)):=by rw[World.cell?_alloc_lt _ _ _ (by exact hg)];exact h0
 clear hcell h0 hc;generalize ops.getD a 0=op at k0 ⊢;by_cases h4:op=4
 ·have d4:(op==4)=true:=by simpa using h4
  by_cases he:e = -1
  ·have de:(e == -1)=true:=by simpa using he
   rw[show decide (op=4∧e = -1)=true from decide_eq_true ⟨h4,he⟩];clear h4 he;exact ZbE
  ·have de:(e == -1)=false:=by simpa using he
   rw[show decide (op=4∧e = -1)=false from decide_eq_false (fun h=>he h.2)];clear h4 he;exact ZbE
 ·have d4:(op==4)=false:=by simpa using h4
  rw[show decide (op=4∧e = -1)=false from decide_eq_false (fun h=>h4 h.1)];clear h4;exact ZbE
end
section
open Go.RowKit
set_option maxHeartbeats 2000000
set_option maxRecDepth 100000
theorem Tryz.infoSpan:(Tryz.prog.info? 130).map (fun i=>(i.zero,i.size,i.bytes))=some (some (.agg #[.int .i64 0,.int .i64 0,.int .i64 0]),3,24):=by kernel_rfl
def natV (k:Nat):Value:=.int .i64 (k:Int)
def PairPost (ops:List Int) (m:Nat) (w:World) (e:Ending) (w':World):Prop :=
 match mrun ops 0 m with
 | none=>e=.returned (.tuple #[.slice none 0 0,.int .i64 0,.bool false])∧Below w.heap.size w w'
 | some s=>∃ v,e=.returned (.tuple #[v,.int .i64 (s.deep:Int),.bool (decide (s.op.length=0))])∧w'.ownsRow 0 130 3 v s.out.length (Ut s.out)∧(∀ g,v.ownBlock=some g→w.heap.size≤g)∧Below w.heap.size w w'
theorem pair_none {ops:List Int} {m k:Nat} {w w':World} (h:mrun ops 0 k=none) (hk:k≤m) (hb:Below w.heap.size w w'):PairPost ops m w (.returned (.tuple #[.slice none 0 0,.int .i64 0,.bool false])) w':=by
 unfold PairPost;rw[mrun_none h m hk];exact⟨rfl,hb⟩
structure Two (T:TypeId) (w wr:World) (sp op:Value) (s:MSt):Prop where
 so:wr.ownsRow 0 T 3 sp s.out.length (Ut s.out)
 po:wr.ownsRow 0 3 1 op s.op.length (s.op.map natV)
 sn:∀ g,sp.ownBlock=some g→w.heap.size≤g∧op.ownBlock≠some g
 pn:∀ g,op.ownBlock=some g→w.heap.size≤g
 bel:Below w.heap.size w wr
theorem Two.below {T:TypeId} {w wr w':World} {sp op:Value} {s:MSt} (h:Two T w wr sp op s) (hb:Below wr.heap.size wr w'):Two T w w' sp op s:=⟨Vi h.so hb,Vi h.po hb,h.sn,h.pn,Wa h.bel hb⟩
theorem Two.alloc {T:TypeId} {w wr:World} {sp op:Value} {s:MSt} (h:Two T w wr sp op s) (o:Obj):Two T w (wr.alloc o) sp op s:=h.below ((bR _ _).alloc (nR _) o)
theorem Two.pushP {T:TypeId} {w wr w':World} {sp op v:Value} {s:MSt} (h:Two T w wr sp op s) (hg:wr.grownBy w' op.ownBlock) (hat:v.ownBlock=op.ownBlock∨v.ownBlock=some wr.heap.size) :
 w'.ownsRow 0 T 3 sp s.out.length (Ut s.out)∧(∀ g,sp.ownBlock=some g→w.heap.size≤g∧v.ownBlock≠some g)∧(∀ g,v.ownBlock=some g→w.heap.size≤g)∧Below w.heap.size w w':=by
 refine⟨h.so.kept hg ?_,fun g hg'=>⟨(h.sn g hg').1,fun e=>?_⟩,fun g hg'=>?_,h.bel.grown hg h.bel.size h.pn⟩
 ·cases hs:sp.ownBlock with
  | none=>exact .inl rfl
  | some g=>exact .inr fun e=>(h.sn g hs).2 e.symm
 ·rcases hat with h1|h1
  ·exact(h.sn g hg').2 (h1 ▸ e)
  ·have e2:=h1.symm.trans e;simp only[Option.some.injEq]at e2;have:=(h.so.lt g hg').2;omega
 ·rcases hat with h1|h1
  ·exact h.pn g (h1 ▸ hg')
  ·have e2:=h1.symm.trans hg';simp only[Option.some.injEq]at e2;have:=h.bel.size;omega
theorem Two.pushS {T:TypeId} {w wr w':World} {sp op v:Value} {k:Nat} {os:List Value} (hpo:wr.ownsRow 0 3 1 op k os) (hsn:∀ g,sp.ownBlock=some g→w.heap.size≤g∧op.ownBlock≠some g) (hpn:∀ g,op.ownBlock=some g→w.heap.size≤g) (hb:Below w.heap.size w wr)
 {m:Nat} {xs:List Value} (ho:w'.ownsRow 0 T 3 v m xs) (hg:wr.grownBy w' sp.ownBlock) (hat:v.ownBlock=sp.ownBlock∨v.ownBlock=some wr.heap.size) (t:MSt) (h1:t.out.length=m) (h2:Ut t.out=xs) (h3:t.op.length=k) (h4:t.op.map natV=os):Two T w w' v op t:=by
 have hne:op.ownBlock=none∨op.ownBlock≠sp.ownBlock:=by
  cases hs:op.ownBlock with
  | none=>exact .inl rfl
  | some g=>exact .inr fun e=>(hsn g e.symm).2 hs
 refine⟨by rw[h1,h2];exact ho,by rw[h3,h4];exact hpo.kept hg hne,fun g hg'=>?_,hpn,hb.grown hg hb.size fun g hg'=>(hsn g hg').1⟩
 ·rcases hat with h5|h5
  ·exact hsn g (h5 ▸ hg')
  ·have e2:=h5.symm.trans hg';simp only[Option.some.injEq]at e2;have:=hb.size;refine⟨by omega,fun e=>?_⟩;have:=(hpo.lt g e).2;omega
theorem Two.put {T:TypeId} {w wr:World} {g n c:Nat} {op op':Value} {s t:MSt} (h:Two T w wr (.slice (some ⟨g,0,none⟩) n c) op s) (j:Nat) (u:Value) (h1:t.out.length=s.out.length) (h2:Ut t.out=(Ut s.out).set j u)
 (hop:op'.ownBlock=op.ownBlock) (hpo:wr.ownsRow 0 3 1 op' t.op.length (t.op.map natV)):Two T w (wr.setCell ⟨g,j,none⟩ u) (.slice (some ⟨g,0,none⟩) n c) op' t:=by
 have hn:n=s.out.length:=by
  rcases h.so.2 with ⟨h,_⟩|⟨g',cap',cur,he,_⟩
  ·cases h
  ·simp only[vI]at he;exact he.2.1
 subst hn;obtain⟨h3,_⟩:=h.so.stored j u;have hgn:=h.sn g rfl;exact⟨by rw[h1,h2];exact h3,ownsRow_setCell_other hpo (by rw[hop];exact hgn.2) u,fun g' hg'=>by rw[hop];exact h.sn g' hg',fun g' hg'=>h.pn g' (hop ▸ hg'),h.bel.setCell (by exact hgn.1) u⟩
theorem pair_any (w:World) (A:Option Addr) (m c:Nat) (ops:List Int) (hc:CodeAt w A m ops) (hm:m≤950000) :
 Calls Tryz.prog 63 #[.slice A m c] w (PairPost ops m w):=by
 have HC:=hD hc;clear hc;go_enter Tryz.func63,Tryz.ntmps63;go_wp2_with fail
 go_loopw [2,3,5,11] (fun sp dp op i wr=>∃ (k:Nat) (s:MSt),k≤m∧i=.int .i64 (k:Int)∧Hid (mrun ops 0 k=some s)∧Hid (Two 130 w wr sp op s)∧dp=.int .i64 (s.deep:Int)∧Hid (s.deep≤k)) (fun _ _ _ i _=>m - (intOf i).toNat)
 case atStart=>exact⟨0,⟨[],[],0⟩,nZ _,rfl,hD rfl,hD ⟨World.ownsRow_nil _ _ _ _,World.ownsRow_nil _ _ _ _,(fun g h=>by cases h),(fun g h=>by cases h),bR _ _⟩,rfl,hD (nR _)⟩
 case round =>
  obtain⟨k,s,hk,rfl,HR,HT,rfl,HDP⟩:=hrel;have HV:=hD (mrun_inv _ _ _ _ HR.out);obtain⟨As,cs,rfl⟩:=Wc HT.out.so;obtain⟨Ap,cp,rfl⟩:=Wc HT.out.po;have hol:s.op.length≤s.out.length:=HV.out.opl;have hsl:s.out.length≤k:=HV.out.outl;by_cases hlt:k<m
  case' neg =>
   obtain rfl:k=m:=by omega
   have hd0:decide ((k:Int)<(k:Int))=false:=by simp
   have HP:Hid (∀ wz,Two 130 w wz (.slice As s.out.length cs) (.slice Ap s.op.length cp) s→PairPost ops k w (.returned (.tuple #[.slice As s.out.length cs,.int .i64 (s.deep:Int),.bool (decide (s.op.length=0))])) wz):=fun wz hz=>by
    unfold PairPost;rw[HR.out];exact⟨_,rfl,hz.so,fun g hg=>(hz.sn g hg).1,hz.bel⟩
   have hbo:(((s.op.length:Nat):Int)==0)=decide (s.op.length=0):=by
    by_cases h0:s.op.length=0
    ·simp[h0]
    ·rw[show decide (s.op.length=0)=false from decide_eq_false h0];simpa using h0
   generalize decide (s.op.length=0)=bo at HP hbo;have HTW:=HT;generalize s.op.length=no at *;generalize s.out.length=ns at *;go_wp2
   go_ret3
   exact HP.out _ HTW.out
  have hd0:decide ((k:Int)<(m:Int))=true:=by simp;omega
  obtain⟨g,o,rfl,hg,hcell⟩:=(HC.out.below HT.out.bel) (by omega);obtain⟨u1,u2,u3,Al,nl,cl,k0,k1,k2,k3,k4⟩:=hcell k hlt;obtain⟨X,hX⟩:∃ X,ops.getD k 0=X:=⟨_,rfl⟩;rw[hX]at k0;have HX:=hD hX;clear hX hcell;have HSU:=hD (mrun_succ HR.out);have HT1:Hid (Two 130 w (wr.alloc (.cells #[.int .i64 X,.int .i64 u1,.int .i64 u2,.int .u64 u3,.slice Al nl cl] 76)) (.slice As s.out.length cs) (.slice Ap s.op.length cp) s):=hD (HT.out.alloc _);have b0:(wr.alloc (.cells #[.int .i64 X,.int .i64 u1,.int .i64 u2,.int .u64 u3,.slice Al nl cl] 76)).cell? ⟨wr.heap.size,0,none⟩=some (.int .i64 X):=wN wr _ _ 0;have HC1:Hid (CodeAt (wr.alloc (.cells #[.int .i64 X,.int .i64 u1,.int .i64 u2,.int .u64 u3,.slice Al nl cl] 76)) (some ⟨g,o,none⟩) m ops):=hD (HC.out.below (HT1.out.bel));have HOP:=hD (fun wz=>opens_any X wz);have HOX:=hD (show Uj (ops.getD k 0)=Uj X by rw[HX.out]);go_wp2_with fail
  go_at_call 82;refine(HOP.out _).mono ?_;rintro e w' ⟨rfl,rfl⟩;clear HOP k0 k1 k2 k3 k4;generalize wr.alloc (.cells #[.int .i64 X,.int .i64 u1,.int .i64 u2,.int .u64 u3,.slice Al nl cl] 76)=W1 at HT1 b0 HC1 ⊢;generalize hob:Uj X=ob at HOX ⊢;have HOB:=hD hob;clear hob;cases ob
  case' true =>
   have HN:=hD (HSU.out.trans (mstep_open HOX.out));clear HSU b0 HT;go_wp2_with (at_builtin;first
    | (refine Wl rfl (.tmp 23) (.tmp 26) 22 3 rfl _ 1 8 Tryz.underlying22 Tryz.infoInt rfl (by decide) (by decide) (.slice Ap s.op.length cp) s.op.length (s.op.map natV) (by rfl) ((HT1.out.alloc _).po) _ 1 [natV s.out.length] (by rfl) (by rfl) (WS W1 _ _ 1 1) (by simp[natV,Value.oneCell']) (by omega) ?_;intro v1 wa ho1 hg1 ha1;obtain⟨q1,q2,q3,q4⟩:=(HT1.out.alloc _).pushP hg1 ha1;have Q1:=hD q1;have Q2:=hD q2;have Q3:=hD q3;have Q4:=hD q4;clear q1 q2 q3 q4;obtain⟨B1,c1,rfl⟩:=Wc ho1)
    | (refine Wl rfl (.tmp 28) (.tmp 31) 99 130 rfl _ 3 24 Tryz.underlying99 Tryz.infoSpan rfl (by decide) (by decide) (.slice As s.out.length cs) s.out.length (Ut s.out) (by rfl) (Q1.out.alloc _) _ 1 (spCells ((k:Int),-1,0)) (by rfl) (by rfl) (WS wa _ _ 1 1) (by simp[spCells,Value.oneCell']) (by omega) ?_;intro v2 wb ho2 hg2 ha2;obtain⟨B2,c2,rfl⟩:=Wc ho2))
   go_roundw
   case rel =>
    refine⟨k+1,⟨s.out++[((k:Int),-1,0)],s.op++[s.out.length],max s.deep (s.op.length+1)⟩,by omega,by go_num,HN,hD (Two.pushS (ho1.alloc _) Q2.out Q3.out ((Wi Q4.out _)) ho2 hg2 ha2 _ (by simp) (flatS_snoc _ _) (by simp) (by simp)),?_,hD ?_⟩
    ·simp only[Value.int.injEq,true_and];by_cases hmx:s.deep<s.op.length+1
     ·first|(rw[if_pos (by omega),Nat.max_eq_right (by omega)];omega)|omega
     ·first|rw[if_neg (by omega),Nat.max_eq_left (by omega)]|omega
    ·have:=HDP.out;show max s.deep (s.op.length+1)≤_;omega
   case measure=>simp[intOf];omega
  have hX5:X=5∨X=11∨(X≠5∧X≠11):=by omega
  rcases hX5 with rfl|rfl|⟨hn5,hn11⟩
  case' inr.inr =>
   have HN:=hD (HSU.out.trans (mstep_other HOX.out (by rw[HX.out];exact hn5) (by rw[HX.out];exact hn11)));have d5:(X==5)=false:=by simpa using hn5
   have d11:(X==11)=false:=by simpa using hn11
   clear hn5 hn11;go_wp2;go_roundw
   case rel=>exact⟨k+1,s,by omega,by go_num,HN,HT1,rfl,hD (by have:=HDP.out;omega)⟩
   case measure=>simp[intOf];omega
  all_goals
   obtain⟨no,hno⟩:∃ no,s.op.length=no:=⟨_,rfl⟩;rw[hno]at HT1 hol ⊢;have HNO:=hD hno;clear hno HT;rcases Nat.eq_zero_or_pos no with h0|h0
   case' inl =>
    subst h0;have HN:Hid (mrun ops 0 (k+1)=none):=hD (HSU.out.trans (mstep_none ⟨by rw[HX.out];simp,List.eq_nil_of_length_eq_zero HNO.out⟩));go_wp2
    go_ret3
    exact pair_none HN.out (by omega) HT1.out.bel
   obtain⟨t,j,htj,htl⟩:=list_end (l:=s.op) (by rw[HNO.out];exact h0);obtain⟨tl,rfl⟩:∃ tl,no=tl+1:=⟨no - 1,by omega⟩;have htl2:t.length=tl:=by have:=HNO.out;omega
   have hjs:j<s.out.length:=HV.out.lt j (by rw[htj];simp);obtain⟨ha0,hak⟩:=HV.out.a0 j hjs;obtain⟨an,hne⟩:∃ an:Nat,(WO s.out j).1=(an:Int):=⟨(WO s.out j).1.toNat,by omega⟩;have ham:an<m:=by omega
   obtain⟨gp,cp,hpe⟩:∃ gp cp',Value.slice Ap (tl+1) cp=.slice (some ⟨gp,0,none⟩) (tl+1) cp':=by
    rcases HT1.out.po.2 with ⟨h,_⟩|⟨gp,cap,cur,h,_⟩
    ·cases h
    ·simp only[vI]at h;obtain⟨rfl,-,rfl⟩:=h;exact⟨gp,_,rfl⟩
   obtain⟨gs,cs',hse⟩:∃ gs cs',Value.slice As s.out.length cs=.slice (some ⟨gs,0,none⟩) s.out.length cs':=by
    rcases HT1.out.so.2 with ⟨h,h2⟩|⟨gp,cap,cur,h,_⟩
    ·simp only[vI]at h;omega
    ·simp only[vI]at h;obtain⟨rfl,-,rfl⟩:=h;exact⟨gp,_,rfl⟩
   simp only[vI]at hpe hse;obtain⟨rfl,-,rfl⟩:=hpe;obtain⟨rfl,-,rfl⟩:=hse;have HCL:Hid (∀ wz,Below W1.heap.size W1 wz→wz.cell? ⟨gp,tl,none⟩=some (.int .i64 (j:Int))∧wz.cell? ⟨gs,j * 3,none⟩=some (.int .i64 (an:Int))∧wz.cell? ⟨gs,j * 3+1,none⟩=some (.int .i64 (WO s.out j).2.1)∧wz.cell? ⟨gs,j * 3+2,none⟩=some (.int .i64 (WO s.out j).2.2)∧wz.frozen? ⟨gs,j * 3+1,none⟩=false∧wz.frozen? ⟨gs,j * 3+2,none⟩=false):=fun wz hz=>by
    have h2:=HT1.out.below hz;obtain⟨f1,f2,f3⟩:=flatS_at s.out j hjs;have hp:=h2.po;rw[HNO.out]at hp;refine⟨?_,?_,?_,?_,h2.so.frozenAt _,h2.so.frozenAt _⟩
    ·rw[hp.cellAt tl (by omega),htj,← htl2];simp[natV]
    ·rw[h2.so.cellAt _ (by omega),f1,hne]
    ·rw[h2.so.cellAt _ (by omega),f2]
    ·rw[h2.so.cellAt _ (by omega),f3]
   have HJS:=hD hjs;have HTJ:=hD htj;have HTL:=hD htl2;have HNE:=hD hne;clear htj htl htl2 hne h0 ha0 hak;obtain⟨kp,ka,ke,kz,kf,kg⟩:=HCL.out W1 (bR _ _);obtain⟨ev,hev⟩:∃ ev,(WO s.out j).2.1=ev:=⟨_,rfl⟩;obtain⟨zv,hzv⟩:∃ zv,(WO s.out j).2.2=zv:=⟨_,rfl⟩;rw[hev]at ke;rw[hzv]at kz;have HEV:=hD hev;have HZV:=hD hzv;clear hev hzv
  case' false.inl.inr =>
   have HDV:=hD (divides_any W1 (some ⟨g,o,none⟩) m c ops HC1.out an ham (by omega) ev zv);obtain⟨db,hdb⟩:∃ db,decide (ops.getD an 0=4∧ev = -1)=db:=⟨_,rfl⟩;rw[hdb]at HDV;have HDB:Hid (decide (ops.getD (WO s.out j).1.toNat 0=4∧(WO s.out j).2.1 = -1)=db):=by rw[Hid,HNE.out,HEV.out,Int.toNat_natCast];exact hdb
   clear hdb kf kg;go_wp2_with fail
   go_at_call 83;refine HDV.out.mono ?_;rintro e w2 ⟨rfl,hb2⟩;obtain⟨kp2,_,_,_,kf2,_⟩:=HCL.out w2 hb2;have HT2:=hD (HT1.out.below hb2);have b2:w2.cell? ⟨wr.heap.size,0,none⟩=some (.int .i64 5):=(hb2.cell (p:=⟨wr.heap.size,0,none⟩) (wL _ _ b0)).trans b0;clear HDV hb2 kp ka ke kz b0;cases db
   case' false =>
    have HN:=hD (HSU.out.trans (mstep_bad HX.out HTJ.out HDB.out));go_wp2
    go_ret3
    exact pair_none HN.out (by omega) HT2.out.bel
   have HN:=hD (HSU.out.trans (mstep_else HX.out HTJ.out HDB.out));have HPO:=hD (HT2.out.po);go_wp2;go_roundw
   case rel =>
    refine⟨k+1,_,by omega,by go_num,HN,hD (HT2.out.put (j * 3+1) (.int .i64 (k:Int)) (by simp) (flatS_set s.out j (k:Int) 0 HJS.out).1 rfl HPO.out),rfl,hD (by have:=HDP.out;show s.deep≤_;omega)⟩
   case measure=>simp[intOf];omega
  have HN:=hD (HSU.out.trans (mstep_end HX.out HTJ.out));have HPO:Hid (W1.ownsRow 0 3 1 (.slice (some ⟨gp,0,none⟩) tl cp) t.length (t.map natV)):=by
   have h1:=HT1.out.po;rw[HNO.out]at h1;have h2:=owns_cut h1 (Nat.le_succ tl);rw[HTJ.out,List.map_append,Nat.mul_one,← HTL.out,← List.length_map (f:=natV),List.take_left,List.length_map,HTL.out]at h2;rw[HTL.out];exact h2
  have htc:tl≤cp:=by
   rcases HT1.out.po.2 with ⟨h,_⟩|⟨gp',cap,cur,h,_,_,h3,_⟩
   ·cases h
   ·simp only[vI]at h;obtain⟨_,_,rfl⟩:=h;rw[HNO.out]at h3;omega
  clear kf;go_wp2;go_roundw
  case rel =>
   refine⟨k+1,_,by omega,by go_num,HN,hD (HT1.out.put (j * 3+2) (.int .i64 (k:Int)) (by simp) (flatS_set s.out j 0 (k:Int) HJS.out).2 rfl HPO.out),rfl,hD (by have:=HDP.out;show s.deep≤_;omega)⟩
  case measure=>simp[intOf];omega
end
end Go.Proofs.YtepgopnnaeoolaaGreatDoor
