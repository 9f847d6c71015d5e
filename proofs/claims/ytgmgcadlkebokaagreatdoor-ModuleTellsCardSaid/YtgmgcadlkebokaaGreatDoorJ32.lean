/- A part of the proof. -/
import Derived.Test.YtgmgcadlkebokaaGreatDoorJ31
namespace Go.Proofs.YtgmgcadlkebokaaGreatDoor
open Go.RowKit
theorem VG.ones {f:Nat→Nat→Value→Prop} {n size:Nat} {us:List Value} (h:VG f n size us) (ho:∀ j i u,i<size→f j i u→u.oneCell'=true):∀ u ∈ us,u.oneCell'=true:=by
 intro u hu;obtain⟨k,hk,rfl⟩:=List.mem_iff_getElem.1 hu;have h1:=h.1;rcases Nat.eq_zero_or_pos size with h0|h0
 ·rw[h1,h0]at hk;omega
 obtain⟨u',k1,k2⟩:=h.2 (k / size) (k % size) (Nat.div_lt_of_lt_mul (by rw[Nat.mul_comm];omega)) (Nat.mod_lt _ h0);rw[show k / size * size+k % size=k by rw[Nat.mul_comm];exact Nat.div_add_mod k size,List.getElem?_eq_getElem hk]at k1;obtain rfl:=Option.some.inj k1;exact ho _ _ _ (Nat.mod_lt _ h0) k2
theorem Wb.reads {K:Nat→Prop} {w:World} {v:Value} {n m size:Nat} {f:Nat→Nat→Value→Prop} (h:Wb K w v m size f) (hm:m=n) (ho:∀ j i u,i<size→f j i u→u.oneCell'=true) :
 ∃ A c us,v=.slice A n c∧Vm w (.slice A n c) n us∧VG f n size us∧∀ u ∈ us,u.oneCell'=true:=by
 subst hm;obtain⟨us,h1,h2,h3⟩:=Wb.news h;obtain⟨A,c,rfl,_,_⟩:=Wb.form h;exact⟨A,c,us,rfl,h2,⟨h1,h3⟩,VG.ones ⟨h1,h3⟩ ho⟩
theorem WD.news {K:Nat→Prop} {w:World} {v:Value} {l:List Nat} {n:Nat} (h:WD K w v l) (hn:l.length=n):∃ A c,v=.slice A n c∧Vm w (.slice A n c) n (l.map fun b:Nat=>Value.int .u8 (b:Int))∧∀ b ∈ l,b<256:=by
 subst hn;obtain⟨A,c,rfl,h1,hc,hn,h3,hb⟩:=h;refine⟨A,c,rfl,?_,hb⟩;rcases A with _|a
 ·exact ZbT
 ·refine .inr ⟨a,c,rfl,fun j u hu=>?_⟩;have hj:j<l.length:=by
   rcases Nat.lt_or_ge j l.length with h|h
   ·exact h
   ·rw[List.getElem?_eq_none (by simpa using h)]at hu;cases hu
  obtain⟨g,p,hg,_,h5⟩:=h3 (by omega);obtain rfl:=Option.some.inj hg;rw[Addr.add_lit,h5 j hj];rw[List.getElem?_map,List.getElem?_eq_getElem hj]at hu;rw[← hu,List.getD_eq_getElem?_getD,List.getElem?_eq_getElem hj];rfl
theorem byt_len (l:List Nat) (n:Nat) (h:l.length=n):(l.map fun b:Nat=>Value.int .u8 (b:Int)).length=n * 1:=by rw[List.length_map,Nat.mul_one,h]
theorem byt_ones (l:List Nat):∀ u ∈ l.map (fun b:Nat=>Value.int .u8 (b:Int)),u.oneCell'=true:=by
 intro u hu;obtain⟨b,_,rfl⟩:=List.mem_map.1 hu;rfl
theorem owns_bytF {w w':World} {e:TypeId} {v:Value} {l:List Nat} {n:Nat} (hn:l.length=n) (hb:∀ b ∈ l,b<256) (h:w'.ownsRow 0 e 1 v n (l.map fun b:Nat=>Value.int .u8 (b:Int))) (hg:∀ g,v.ownBlock=some g→w.heap.size≤g):WD (fun k=>w.heap.size≤k∧k<w'.heap.size) w' v l:=by
 subst hn;rcases h.2 with ⟨rfl,h0⟩|⟨g,cap,cur,rfl,_,_,h1,h2,_⟩
 ·obtain rfl:l=[]:=List.eq_nil_of_length_eq_zero h0;exact WD.nil _ _
 ·refine⟨_,cap,rfl,Nat.le_trans h1 h2,h1,(fun h=>by cases h),fun _=>⟨g,0,rfl,⟨hg g rfl,(h.lt g rfl).2⟩,fun j hj=>?_⟩,hb⟩;rw[Nat.zero_add,h.cellAt j (by rw[Nat.mul_one];exact hj),List.getElem?_map,List.getElem?_eq_getElem hj,List.getD_eq_getElem?_getD,List.getElem?_eq_getElem hj];rfl
theorem own_some {w:World} {e:TypeId} {size n c:Nat} {A:Option Addr} {xs:List Value} (h:w.ownsRow 0 e size (.slice A n c) n xs) (hn:0<n):∃ g,A=some ⟨g,0,none⟩∧n≤c∧c≤maxLen:=by
 rcases h.2 with ⟨_,h0⟩|⟨g,c',_,h1,_,_,h2,h3,_⟩
 ·omega
 ·simp only[vI]at h1;obtain⟨rfl,-,rfl⟩:=h1;exact⟨g,rfl,h2,h3⟩
def fillM (w:World) (P:Nat) (v:Mv):World:=(((((((w.setCell ⟨P,0,none⟩ v.m0).setCell ⟨P,1,none⟩ v.m1).setCell ⟨P,2,none⟩ v.m2).setCell ⟨P,3,none⟩ v.m3).setCell ⟨P,4,none⟩ v.m4).setCell ⟨P,5,none⟩ v.m5).setCell ⟨P,6,none⟩ v.m6).setCell ⟨P,7,none⟩ v.m7
theorem fillM_keeps (w:World) (P:Nat) (v:Mv):We (fun k=>k≠P) w (fillM w P v) :=
 (((((((We.setCell w (fun e=>e rfl) _).trans (We.setCell _ (fun e=>e rfl) _)).trans (We.setCell _ (fun e=>e rfl) _)).trans (We.setCell _ (fun e=>e rfl) _)).trans (We.setCell _ (fun e=>e rfl) _)).trans (We.setCell _ (fun e=>e rfl) _)).trans (We.setCell _ (fun e=>e rfl) _)).trans (We.setCell _ (fun e=>e rfl) _)
theorem fillM_below {w0 w:World} {P:Nat} (h:Below w0.heap.size w0 w) (hP:w0.heap.size≤P) (v:Mv):Below w0.heap.size w0 (fillM w P v) :=
 (((((((h.setCell (by exact hP) _).setCell (by exact hP) _).setCell (by exact hP) _).setCell (by exact hP) _).setCell (by exact hP) _).setCell (by exact hP) _).setCell (by exact hP) _).setCell (by exact hP) _
theorem fillM_at {w:World} {P:Nat} {z0 z1 z2 z3 z4 z5 z6 z7:Value} {T:TypeId} (h:w.heap[P]?=some (.cells #[z0,z1,z2,z3,z4,z5,z6,z7] T (0,0))) (v:Mv):(fillM w P v).heap[P]?=some (.cells v.cells T (0,0)):=by
 unfold fillM Mv.cells;have h0:=Wi _ P 0 _ T v.m0 h;simp only[sA,List.set]at h0;have h1:=Wi _ P 1 _ T v.m1 h0;simp only[sA,List.set]at h1;have h2:=Wi _ P 2 _ T v.m2 h1;simp only[sA,List.set]at h2;have h3:=Wi _ P 3 _ T v.m3 h2;simp only[sA,List.set]at h3;have h4:=Wi _ P 4 _ T v.m4 h3;simp only[sA,List.set]at h4;have h5:=Wi _ P 5 _ T v.m5 h4;simp only[sA,List.set]at h5;have h6:=Wi _ P 6 _ T v.m6 h5;simp only[sA,List.set]at h6;have h7:=Wi _ P 7 _ T v.m7 h6;simp only[sA,List.set]at h7;exact h7
theorem Rows.way0 {w0 w:World} {b r0 r1 r2 r3 r4 r5 r6 r7:Ws} (h:Rows w0 w [r7,r6,r5,r4,r3,r2,r1,r0,b]):Rows w0 w [b,r0,r1,r2,r3,r4,r5,r6,r7] :=
 h.perm ((List.perm_middle (l₁:=[]) (l₂:=[r0,r1,r2,r3,r4,r5,r6,r7])).symm.trans (List.reverse_perm [b,r0,r1,r2,r3,r4,r5,r6,r7]).symm)
theorem Rows.way1 {w0 w:World} {b r0 r1 r2 r3 r4 r5 r6 r7:Ws} (h:Rows w0 w [r7,r6,r5,r4,r3,r2,r1,b,r0]):Rows w0 w [b,r0,r1,r2,r3,r4,r5,r6,r7] :=
 h.perm ((List.perm_middle (l₁:=[r0]) (l₂:=[r1,r2,r3,r4,r5,r6,r7])).symm.trans (List.reverse_perm [r0,b,r1,r2,r3,r4,r5,r6,r7]).symm)
theorem Rows.way2 {w0 w:World} {b r0 r1 r2 r3 r4 r5 r6 r7:Ws} (h:Rows w0 w [r7,r6,r5,r4,r3,r2,b,r1,r0]):Rows w0 w [b,r0,r1,r2,r3,r4,r5,r6,r7] :=
 h.perm ((List.perm_middle (l₁:=[r0,r1]) (l₂:=[r2,r3,r4,r5,r6,r7])).symm.trans (List.reverse_perm [r0,r1,b,r2,r3,r4,r5,r6,r7]).symm)
theorem Rows.way3 {w0 w:World} {b r0 r1 r2 r3 r4 r5 r6 r7:Ws} (h:Rows w0 w [r7,r6,r5,r4,r3,b,r2,r1,r0]):Rows w0 w [b,r0,r1,r2,r3,r4,r5,r6,r7] :=
 h.perm ((List.perm_middle (l₁:=[r0,r1,r2]) (l₂:=[r3,r4,r5,r6,r7])).symm.trans (List.reverse_perm [r0,r1,r2,b,r3,r4,r5,r6,r7]).symm)
theorem Rows.way4 {w0 w:World} {b r0 r1 r2 r3 r4 r5 r6 r7:Ws} (h:Rows w0 w [r7,r6,r5,r4,b,r3,r2,r1,r0]):Rows w0 w [b,r0,r1,r2,r3,r4,r5,r6,r7] :=
 h.perm ((List.perm_middle (l₁:=[r0,r1,r2,r3]) (l₂:=[r4,r5,r6,r7])).symm.trans (List.reverse_perm [r0,r1,r2,r3,b,r4,r5,r6,r7]).symm)
theorem Rows.way5 {w0 w:World} {b r0 r1 r2 r3 r4 r5 r6 r7:Ws} (h:Rows w0 w [r7,r6,r5,b,r4,r3,r2,r1,r0]):Rows w0 w [b,r0,r1,r2,r3,r4,r5,r6,r7] :=
 h.perm ((List.perm_middle (l₁:=[r0,r1,r2,r3,r4]) (l₂:=[r5,r6,r7])).symm.trans (List.reverse_perm [r0,r1,r2,r3,r4,b,r5,r6,r7]).symm)
theorem Rows.way6 {w0 w:World} {b r0 r1 r2 r3 r4 r5 r6 r7:Ws} (h:Rows w0 w [r7,r6,b,r5,r4,r3,r2,r1,r0]):Rows w0 w [b,r0,r1,r2,r3,r4,r5,r6,r7] :=
 h.perm ((List.perm_middle (l₁:=[r0,r1,r2,r3,r4,r5]) (l₂:=[r6,r7])).symm.trans (List.reverse_perm [r0,r1,r2,r3,r4,r5,b,r6,r7]).symm)
theorem Rows.way7 {w0 w:World} {b r0 r1 r2 r3 r4 r5 r6 r7:Ws} (h:Rows w0 w [r7,b,r6,r5,r4,r3,r2,r1,r0]):Rows w0 w [b,r0,r1,r2,r3,r4,r5,r6,r7] :=
 h.perm ((List.perm_middle (l₁:=[r0,r1,r2,r3,r4,r5,r6]) (l₂:=[r7])).symm.trans (List.reverse_perm [r0,r1,r2,r3,r4,r5,r6,b,r7]).symm)
theorem Rows.way8 {w0 w:World} {b r0 r1 r2 r3 r4 r5 r6 r7:Ws} (h:Rows w0 w [b,r7,r6,r5,r4,r3,r2,r1,r0]):Rows w0 w [b,r0,r1,r2,r3,r4,r5,r6,r7] :=
 h.perm ((List.perm_middle (l₁:=[r0,r1,r2,r3,r4,r5,r6,r7]) (l₂:=[])).symm.trans (List.reverse_perm [r0,r1,r2,r3,r4,r5,r6,r7,b]).symm)
end Go.Proofs.YtgmgcadlkebokaaGreatDoor
