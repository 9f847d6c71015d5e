/- A part of the proof. -/
import Derived.Test.YtepgopnnaeoolaaGreatDoorJ1
import Derived.Laws.OwnMore
import Derived.Maps.AppendAt
import Derived.BigFrame
namespace Go.Proofs.YtepgopnnaeoolaaGreatDoor
section
open Go.RowKit
theorem ZbK {P:Prop}(h:P:=by
 obtain⟨g,o,rfl,h4,h5⟩:=h3 hl;exact⟨g,o,rfl,hm g h4,fun j hj=>(hk.cell (p:=⟨g,o+j,none⟩) h4).trans (h5 j hj)⟩):P:=h
structure Wf (K:Nat→Prop) (w w':World):Prop where
 os:w'.os=w.os
 tape:w'.tape=w.tape
 output:w'.output=w.output
 size:w.heap.size≤w'.heap.size
 block:∀ k,K k→w'.heap[k]?=w.heap[k]?
theorem Wf.refl (K:Nat→Prop) (w:World):Wf K w w:=⟨rfl,rfl,rfl,nR _,fun _ _=>rfl⟩
theorem Wf.trans {K:Nat→Prop} {a b c:World} (h:Wf K a b) (k:Wf K b c):Wf K a c :=
 ⟨k.os.trans h.os,k.tape.trans h.tape,k.output.trans h.output,Nat.le_trans h.size k.size,fun i hi=>(k.block i hi).trans (h.block i hi)⟩
theorem Wf.mono {K K':Nat→Prop} {w w':World} (h:Wf K w w') (hK:∀ k,K' k→K k):Wf K' w w':=⟨h.os,h.tape,h.output,h.size,fun k hk=>h.block k (hK k hk)⟩
theorem Wf.below {K:Nat→Prop} {B:Nat} {w w':World} (h:Below B w w') (hK:∀ k,K k→k<B):Wf K w w':=⟨h.os,h.tape,h.output,h.size,fun k hk=>h.block k (hK k hk)⟩
theorem Wf.to_below {K:Nat→Prop} {B:Nat} {w w':World} (h:Wf K w w') (hK:∀ k,k<B→K k):Below B w w':=⟨h.os,h.tape,h.output,h.size,fun k hk=>h.block k (hK k hk)⟩
theorem Wf.alloc {K:Nat→Prop} (w:World) (hK:∀ k,K k→k<w.heap.size) (o:Obj):Wf K w (w.alloc o):=.below ((bR w.heap.size w).alloc (nR _) o) hK
theorem Wf.setCell {K:Nat→Prop} (w:World) {p:Addr} (hp:¬ K p.block) (u:Value):Wf K w (w.setCell p u) :=
 ⟨rfl,rfl,rfl,by simp[World.setCell],fun k hk=>Below.heap_setCell _ _ _ _ (fun e=>hp (e ▸ hk))⟩
theorem Wf.grown {K:Nat→Prop} {w w':World} {row:Option Nat} (hg:w.grownBy w' row) (hK:∀ k,K k→k<w.heap.size) (hr:∀ k,row=some k→¬ K k):Wf K w w' :=
 ⟨hg.os,hg.tape,hg.output,hg.size,fun k hk=>hg.block k (hK k hk) (fun e=>hr k e.symm hk)⟩
theorem Wf.drewN {K:Nat→Prop} (w:World) (n:Nat):Wf K w (w.drewN n):=⟨rfl,rfl,rfl,nR _,fun _ _=>rfl⟩
theorem Wf.cell {K:Nat→Prop} {w w':World} (h:Wf K w w') {p:Addr} (hp:K p.block):w'.cell? p=w.cell? p:=World.cell?_of_block (w:=w) (h.block p.block hp)
def Wg (K:Nat→Prop) (w:World) (v:Value) (l:List Int):Prop :=
 ∃ A c,v=.slice A l.length c∧l.length≤maxLen∧(A=none→c=0)∧(0<l.length→∃ g o:Nat,A=some ⟨g,o,none⟩∧K g∧∀ j,j<l.length→w.cell? ⟨g,o+j,none⟩=some (.int .i64 (l.getD j 0)))
theorem Wg.keep {K K':Nat→Prop} {w w':World} {v:Value} {l:List Int} (h:Wg K w v l) (hk:Wf K w w') (hm:∀ k,K k→K' k):Wg K' w' v l:=by
 obtain⟨A,c,rfl,h1,h0,h3⟩:=h;refine⟨A,c,rfl,h1,h0,fun hl=>?_⟩;exact ZbK
theorem Wg.nil (K:Nat→Prop) (w:World):Wg K w (.slice none 0 0) []:=⟨none,0,rfl,nZ _,fun _=>rfl,fun h=>by simp at h⟩
theorem Wg.at_ {K:Nat→Prop} {w:World} {g o n c:Nat} {l:List Int} (h:Wg K w (.slice (some ⟨g,o,none⟩) n c) l) (j:Nat) (hj:j<n):w.cell? ⟨g,o+j,none⟩=some (.int .i64 (l.getD j 0)):=by
 obtain⟨A,c',he,_,_,h3⟩:=h;simp only[vI]at he;obtain⟨rfl,rfl,rfl⟩:=he;obtain⟨g',o',he,_,h5⟩:=h3 (by omega);simp only[Option.some.injEq,Addr.mk.injEq]at he;obtain⟨rfl,rfl,_⟩:=he;exact h5 j hj
theorem Wg.some_ {K:Nat→Prop} {w:World} {v:Value} {l:List Int} (h:Wg K w v l) (hl:0<l.length):∃ g o c:Nat,v=.slice (some ⟨g,o,none⟩) l.length c∧l.length≤maxLen∧True:=by
 obtain⟨A,c,rfl,h1,_,h3⟩:=h;obtain⟨g,o,rfl,_⟩:=h3 hl;exact⟨g,o,c,rfl,h1,trivial⟩
theorem Wg.form {K:Nat→Prop} {w:World} {v:Value} {l:List Int} (h:Wg K w v l):∃ A c,v=.slice A l.length c∧l.length≤maxLen∧True:=by
 obtain⟨A,c,rfl,h1,_⟩:=h;exact⟨A,c,rfl,h1,trivial⟩
theorem Tryz.infoInt:(Tryz.prog.info? 3).map (fun i=>(i.zero,i.size,i.bytes))=some (some (.int .i64 0),1,8):=by kernel_rfl
def VG (w:World) (v:Value) (m:Nat) (news:List Value):Prop :=
 (v=.slice none 0 0∧m=0∧news=[])∨∃ a c,v=.slice (some a) m c∧(∀ j u,news[j]?=some u→w.cell? (a.add j)=some u)
theorem Wg.news {K:Nat→Prop} {w:World} {v:Value} {l:List Int} (h:Wg K w v l):VG w v l.length (l.map (Value.int .i64)):=by
 obtain⟨A,c,rfl,h1,hn,h3⟩:=h;rcases A with _|a
 ·have h0:l.length=0:=by
   rcases Nat.eq_zero_or_pos l.length with h0|h0
   ·exact h0
   ·obtain⟨_,_,h,_⟩:=h3 h0;cases h
  obtain rfl:l=[]:=List.eq_nil_of_length_eq_zero h0;obtain rfl:=hn rfl;exact .inl ⟨rfl,rfl,rfl⟩
 ·refine .inr ⟨a,c,rfl,fun j u hu=>?_⟩;obtain⟨x,hx,rfl⟩:∃ x,l[j]?=some x∧Value.int .i64 x=u:=by simpa using hu
  have hj:j<l.length:=by
   rcases Nat.lt_or_ge j l.length with h1|h1
   ·exact h1
   ·rw[List.getElem?_eq_none h1]at hx;cases hx
  obtain⟨g,o,he,_,hc⟩:=h3 (by omega);obtain rfl:a=⟨g,o,none⟩:=by simpa using he
  rw[Addr.add_lit,hc j hj,List.getD_eq_getElem?_getD,hx];rfl
theorem run_append_row (w:World) (t ty e:TypeId) (z:Value) (size bytes:Nat) (ht:Tryz.prog.underlying t=some (.slice e)) (hinfo:(Tryz.prog.info? e).map (fun i=>(i.zero,i.size,i.bytes))=some (some z,size,bytes))
 (hzs:z.cells.size=size) (hsz:0<size) (v:Value) (n:Nat) (xs:List Value) (hown:w.ownsRow 0 e size v n xs) (src:Value) (m:Nat) (news:List Value) (hl:news.length=m * size) (hsrc:VG w src m news)
 (h1:∀ u ∈ news,u.oneCell'=true) (hnm:n+m≤1000000) (hb:bytes≤1000) :
 ∃ v' w',(Builtin.append_ #[t,t] ty #[v,src]).run Tryz.prog w=.ok v' w'∧w'.ownsRow 0 e size v' (n+m) (xs++news)∧w.grownBy w' v.ownBlock∧(v'.ownBlock=v.ownBlock∨v'.ownBlock=some w.heap.size):=by
 obtain⟨i0,hi,hz0,hz1,hz2⟩:=info_parts hinfo;rcases hsrc with ⟨rfl,rfl,rfl⟩|⟨a,c,rfl,hcell⟩
 ·refine⟨v,w,?_,by simpa using hown,World.grownBy.refl w _,.inl rfl⟩;rcases hown.2 with ⟨rfl,h⟩|⟨g',cap',cur,rfl,_,_,hnc,_⟩
  ·simp[Builtin.append_,run_underlying ht,sizeOf,typeInfo,hi,Builtin.lenOf,Builtin.firstCells]
  ·simp[Builtin.append_,run_underlying ht,sizeOf,typeInfo,hi,Builtin.lenOf,Builtin.firstCells,hnc,storeCells]
 ·have hb2:(n+m) * bytes≤1000000 * 1000:=Nat.mul_le_mul hnm hb;obtain⟨v',w',hr,h2,h3,_,h5⟩:=run_append_own_at (P:=Tryz.prog) w 0 t ty e i0 z size bytes ht hi hz0 hz1 hz2 hzs hsz v n xs hown a m c news hl hcell h1 (by unfold maxLen;omega) (by omega) (nZ _);exact⟨v',w',hr,h2,h3,h5⟩
theorem Wl {ops:Array Oper} {rest:List Oper} {o:Oper} {a:Act} {w:World} {Q:Exit→Act→World→Prop} (hw:Region.wanted o (yielded ops a.tmps)=true) (s x:Operand) (t e:TypeId)
 (ho:o.op=.call { callee:=.builtin .append,args:=#[s,x],argTypes:=#[t,t] }) (z:Value) (size bytes:Nat) (ht:Tryz.prog.underlying t=some (.slice e)) (hinfo:(Tryz.prog.info? e).map (fun i=>(i.zero,i.size,i.bytes))=some (some z,size,bytes))
 (hzs:z.cells.size=size) (hsz:0<size) (hb:bytes≤1000) (v:Value) (n:Nat) (xs:List Value) (hs:a.eval s=v) (hown:w.ownsRow 0 e size v n xs) (src:Value) (m:Nat) (news:List Value) (hx:a.eval x=src) (hl:news.length=m * size) (hsrc:VG w src m news)
 (h1:∀ u ∈ news,u.oneCell'=true) (hnm:n+m≤1000000)
 (hk:∀ v' w',w'.ownsRow 0 e size v' (n+m) (xs++news)→w.grownBy w' v.ownBlock→(v'.ownBlock=v.ownBlock∨v'.ownBlock=some w.heap.size)→wpList Tryz.prog ops Q rest (a.put o.dst v') w'):wpList Tryz.prog ops Q (o :: rest) a w:=by
 refine BigFrame.wpList_want hw fun K hK=>?_;obtain⟨v',w',hr,h2,h3,h5⟩:=run_append_row w t o.type e z size bytes ht hinfo hzs hsz v n xs hown src m news hl hsrc h1 hnm hb;unfold Oper.wp execOp;simp only[ho,resolve,invoke,builtin,Sem.run_bind,Sem.run_pure,Result.andThen_ok,List.map_toArray,List.map_cons,List.map_nil,hs,hx,hr];exact hK _ _ (hk v' w' h2 h3 h5)
theorem wp_append_row {o:Oper} {a:Act} {w:World} {K:Act→World→Prop} {Q:Exit→Act→World→Prop} (s x:Operand) (t e:TypeId)
 (ho:o.op=.call { callee:=.builtin .append,args:=#[s,x],argTypes:=#[t,t] }) (z:Value) (size bytes:Nat) (ht:Tryz.prog.underlying t=some (.slice e)) (hinfo:(Tryz.prog.info? e).map (fun i=>(i.zero,i.size,i.bytes))=some (some z,size,bytes))
 (hzs:z.cells.size=size) (hsz:0<size) (hb:bytes≤1000) (v:Value) (n:Nat) (xs:List Value) (hs:a.eval s=v) (hown:w.ownsRow 0 e size v n xs) (src:Value) (m:Nat) (news:List Value) (hx:a.eval x=src) (hl:news.length=m * size) (hsrc:VG w src m news)
 (h1:∀ u ∈ news,u.oneCell'=true) (hnm:n+m≤1000000)
 (hk:∀ v' w',w'.ownsRow 0 e size v' (n+m) (xs++news)→w.grownBy w' v.ownBlock→(v'.ownBlock=v.ownBlock∨v'.ownBlock=some w.heap.size)→K (a.put o.dst v') w'):o.wp Tryz.prog a w K Q:=by
 obtain⟨v',w',hr,h2,h3,h5⟩:=run_append_row w t o.type e z size bytes ht hinfo hzs hsz v n xs hown src m news hl hsrc h1 hnm hb;unfold Oper.wp execOp;simp only[ho,resolve,invoke,builtin,Sem.run_bind,Sem.run_pure,Result.andThen_ok,List.map_toArray,List.map_cons,List.map_nil,hs,hx,hr];exact hk v' w' h2 h3 h5
theorem Wb {ops:Array Oper} {o:Oper} {a:Act} {w:World} {K:Act→World→Prop} {Q:Exit→Act→World→Prop} {E:Prop} (hgd:o.guard=none) (s x:Operand) (t e:TypeId)
 (ho:o.op=.call { callee:=.builtin .append,args:=#[s,x],argTypes:=#[t,t] }) (z:Value) (size bytes:Nat) (ht:Tryz.prog.underlying t=some (.slice e)) (hinfo:(Tryz.prog.info? e).map (fun i=>(i.zero,i.size,i.bytes))=some (some z,size,bytes))
 (hzs:z.cells.size=size) (hsz:0<size) (hb:bytes≤1000) (v:Value) (n:Nat) (xs:List Value) (hs:a.eval s=v) (hown:w.ownsRow 0 e size v n xs) (src:Value) (m:Nat) (news:List Value) (hx:a.eval x=src) (hl:news.length=m * size) (hsrc:VG w src m news)
 (h1:∀ u ∈ news,u.oneCell'=true) (hnm:n+m≤1000000)
 (hk:∀ v' w',w'.ownsRow 0 e size v' (n+m) (xs++news)→w.grownBy w' v.ownBlock→(v'.ownBlock=v.ownBlock∨v'.ownBlock=some w.heap.size)→K (a.put o.dst v') w') :
 if Region.wanted o (yielded ops a.tmps)=true then Oper.wp Tryz.prog o a w K Q else E:=by
 have hw:Region.wanted o (yielded ops a.tmps)=true:=by simp[Region.wanted,hgd]
 rw[if_pos hw];exact wp_append_row s x t e ho z size bytes ht hinfo hzs hsz hb v n xs hs hown src m news hx hl hsrc h1 hnm hk
theorem WS (w:World) (cs:Array Value) (t:TypeId) (m c:Nat):VG (w.alloc (.cells cs t)) (.slice (some ⟨w.heap.size,0,none⟩) m c) m cs.toList :=
 .inr ⟨_,c,rfl,fun j u hu=>by rw[add_lit0,wN];simpa using hu⟩
theorem VG.keep {w w':World} {v:Value} {m:Nat} {news:List Value} (h:VG w v m news) (hc:∀ a c,v=.slice (some a) m c→∀ j u,news[j]?=some u→w.cell? (a.add j)=some u→w'.cell? (a.add j)=some u):VG w' v m news:=by
 rcases h with h|⟨a,c,rfl,h⟩
 ·exact .inl h
 ·exact .inr ⟨a,c,rfl,fun j u hu=>hc a c rfl j u hu (h j u hu)⟩
theorem owns_drew {w:World} {base:Nat} {e:TypeId} {size:Nat} {v:Value} {n:Nat} {xs:List Value} (h:w.ownsRow base e size v n xs):w.drew.ownsRow base e size v n xs:=h
theorem news_drew {w:World} {v:Value} {m:Nat} {news:List Value} (h:VG w v m news):VG w.drew v m news:=h
theorem grown_drew {w w':World} {row:Option Nat} (h:w.drew.grownBy w' row):w.grownBy w' row:=⟨h.os,h.tape,h.output,h.size,h.block⟩
theorem Wc {w:World} {base:Nat} {e:TypeId} {size:Nat} {v:Value} {n:Nat} {xs:List Value} (h:w.ownsRow base e size v n xs):∃ A c,v=.slice A n c:=by
 rcases h.2 with ⟨h1,h2⟩|⟨g,cap,cur,h1,_⟩
 ·exact⟨none,0,by rw[h1,h2]⟩
 ·exact⟨_,_,h1⟩
theorem owns_cut {w:World} {base:Nat} {e:TypeId} {size g n cap m:Nat} {xs:List Value} (h:w.ownsRow base e size (.slice (some ⟨g,0,none⟩) n cap) n xs) (hm:m≤n):w.ownsRow base e size (.slice (some ⟨g,0,none⟩) m cap) m (xs.take (m * size)):=by
 have hle:m * size≤n * size:=Nat.mul_le_mul_right size hm;refine⟨by rw[List.length_take,h.1];omega,?_⟩;rcases h.2 with ⟨h,_⟩|⟨g',cap',cur,he,h1,h2,h3,h4,h5,h6⟩
 ·cases h
 ·simp only[vI,Option.some.injEq,Addr.mk.injEq]at he;obtain⟨⟨rfl,_⟩,_,rfl⟩:=he;refine .inr ⟨g,cap,cur,rfl,h1,h2,by omega,h4,h5,?_⟩;rw[← h6,List.take_take,Nat.min_eq_left hle]
theorem Wt {K:Nat→Prop} {w w':World} {base:Nat} {e:TypeId} {size:Nat} {v:Value} {n:Nat} {xs:List Value} (h:w.ownsRow base e size v n xs) (hk:Wf K w w') (hv:∀ g,v.ownBlock=some g→K g):w'.ownsRow base e size v n xs:=by
 obtain⟨h1,h2⟩:=h;refine⟨h1,?_⟩;rcases h2 with h2|⟨g,cap,cur,rfl,r2,r3,r4⟩
 ·exact .inl h2
 ·exact .inr ⟨g,cap,cur,rfl,r2,(hk.block g (hv g rfl)).trans r3,r4⟩
end
section
def VP (op:Int) (o:List Nat):Option (List Nat) :=
 if op=2∨op=3 then (if o.length<60 then some (0 :: o) else none)
 else if op=4 then (if o.length<60 then some (1 :: o) else none)
 else if op=5 then (match o with|1 :: t=>some (0 :: t)|_=>none)
 else if op=11 then (match o with|_ :: t=>some t|[]=>none)
 else some o
def Ul:List Int→List Nat→Option (List Nat)
 | [],o=>some o
 | i :: l,o=>(VP i o).bind (Ul l)
theorem nestOf_append (a b:List Int):∀ o,Ul (a++b) o=(Ul a o).bind (Ul b):=by
 induction a with
 | nil=>intro o;rfl
 | cons i a ih =>
  intro o;show(VP i o).bind (Ul (a++b))=((VP i o).bind (Ul a)).bind (Ul b);cases VP i o with
  | none=>rfl
  | some q=>exact ih q
theorem nestOf_snoc (a:List Int) (i:Int) (o:List Nat):Ul (a++[i]) o=(Ul a o).bind (VP i):=by
 rw[nestOf_append]
 congr 1
 funext q
 show(VP i q).bind some=VP i q;cases VP i q <;> rfl
def plain (op:Int):Prop:=(op=2∨op=3)=False∧(op=4)=False∧(op=5)=False∧(op=11)=False
theorem plain_of {op:Int} (h:op≠2∧op≠3∧op≠4∧op≠5∧op≠11):plain op :=
 ⟨eq_false (by omega),eq_false (by omega),eq_false (by omega),eq_false (by omega)⟩
theorem nestStep_plain {op:Int} (h:plain op) (o:List Nat):VP op o=some o:=by
 obtain⟨h1,h2,h3,h4⟩:=h;unfold VP;simp only[h1,h2,h3,h4,if_false]
end
section
open Go.RowKit
def S (x:BitVec 64):Int:=x.toInt
end
section
open Go.RowKit
def isB (op:Int):Bool:=decide (69≤op∧op≤90∨103≤op∧op≤138∨op=167∨op=172∨op=173∨192≤op∧op≤196)
end
section
open Go.RowKit
def isF (op:Int):Bool:=decide (97≤op∧op≤102∨153≤op∧op≤166∨op=170∨op=171∨op=176∨op=177∨183≤op∧op≤186∨op=189∨op=191∨op=64514∨op=64515∨op=64518∨op=64519)
def WI (op:Int):Bool:=isB op || isF op
def Vr (op:Int):Nat×Int×Int :=
 if op=69 then (1,127,127) else if 70≤op∧op≤79 then (2,127,127) else if op=80 then (1,126,127) else if 81≤op∧op≤90 then (2,126,127)
 else if 97≤op∧op≤102 then (2,124,127) else if 103≤op∧op≤105 then (1,127,127) else if 106≤op∧op≤120 then (2,127,127)
 else if 121≤op∧op≤123 then (1,126,126) else if 124≤op∧op≤138 then (2,126,126) else if 153≤op∧op≤159 then (1,124,124)
 else if 160≤op∧op≤166 then (2,124,124) else if op=167 then (1,126,127) else if 170≤op∧op≤171 then (1,124,127)
 else if 172≤op∧op≤173 then (1,127,126) else if 176≤op∧op≤177 then (1,124,126) else if 183≤op∧op≤184 then (1,127,124)
 else if 185≤op∧op≤186 then (1,126,124) else if op=189 then (1,124,126) else if op=191 then (1,126,124) else if 192≤op∧op≤193 then (1,127,127)
 else if 194≤op∧op≤196 then (1,126,126) else if 64514≤op∧op≤64515 then (1,124,127) else (1,124,126)
def Vy (op:Int):List Int:=if WI op then List.replicate (Vr op).1 (Vr op).2.1 else []
def Vg (op:Int):List Int:=if WI op then [(Vr op).2.2] else []
def accL:List (Int×Int×Bool×Bool) :=
 [(4,127,false,true),(8,126,false,true),(0,0,false,false),(8,124,false,true),(1,127,true,true),(1,127,false,true),(2,127,true,true),(2,127,false,true),(1,126,true,true),(1,126,false,true),(2,126,true,true),
  (2,126,false,true),(4,126,true,true),(4,126,false,true),(4,127,false,true),(8,126,false,true),(0,0,false,false),(8,124,false,true),(1,127,false,true),(2,127,false,true),(1,126,false,true),(2,126,false,true),(4,126,false,true)]
def Ug (op:Int):Int×Int×Bool×Bool:=if 40≤op∧op≤62 then accL.getD (op - 40).toNat (0,0,false,false) else (0,0,false,false)
def Uf (op:Int):Int:=if op=65 then 127 else if op=66 then 126 else if op=68 then 124 else 0
def Uj (op:Int):Bool:=decide (2≤op∧op≤4)
def restL:List Int:=[0,1,5,11,12,13,14,15,16,18,26,27,32,33,34,35,36,63,64,64520,64521,64522,64523]
def VM (op:Int):Bool:=WI op || Uj op || Uf op != 0 || (Ug op).2.2.2 || restL.contains op
def richL:List Int:=[18,192,193,194,195,196,64514,64515,64518,64519,64520,64521,64522,64523]
def richB (op:Int):Bool:=richL.contains op
theorem by_cases3 (P:Int→Prop) (h1:∀ n:Fin 256,P (n.val:Int)) (h2:∀ n:Fin 256,P (64512+(n.val:Int)))
 (h3:∀ op,op<0∨255<op∧op<64512∨64767<op→P op) (op:Int):P op:=by
 by_cases a:0≤op∧op<256
 ·have:=h1 ⟨op.toNat,by omega⟩
  rwa [show((op.toNat:Nat):Int)=op by omega]at this
 ·by_cases b:64512≤op∧op<64768
  ·have:=h2 ⟨(op - 64512).toNat,by omega⟩
   rwa [show 64512+(((op - 64512).toNat:Nat):Int)=op by omega]at this
  ·exact h3 op (by omega)
theorem far_num (op:Int) (h:op<0∨255<op∧op<64512∨64767<op):WI op=false:=by
 unfold WI isB isF;rw[decide_eq_false (by omega),decide_eq_false (by omega)];rfl
theorem far_acc (op:Int) (h:op<0∨255<op∧op<64512∨64767<op):Ug op=(0,0,false,false):=by
 unfold Ug;rw[if_neg (by omega)]
def shapeL:List (Int×Nat×Int×Int) :=
 [(69,1,127,127),(70,2,127,127),(80,1,126,127),(81,2,126,127),(97,2,124,127),(103,1,127,127),(106,2,127,127),(121,1,126,126),(124,2,126,126),(153,1,124,124),(160,2,124,124),
  (167,1,126,127),(170,1,124,127),(172,1,127,126),(176,1,124,126),(183,1,127,124),(185,1,126,124),(189,1,124,126),(191,1,126,124),(192,1,127,127),(194,1,126,126),(64514,1,124,127),(64518,1,124,126)]
def Uu (op:Int):Nat→Nat×Int×Int
 | 0=>(0,0,0)
 | k+1=>if (shapeL.getD k (0,0,0,0)).1≤op then (shapeL.getD k (0,0,0,0)).2 else Uu op k
theorem shape_yes (op:Int) (k:Nat) (h:(shapeL.getD k (0,0,0,0)).1≤op):Uu op (k+1)=(shapeL.getD k (0,0,0,0)).2:=by
 show(if _ then _ else _)=_;rw[if_pos h]
theorem shape_no (op:Int) (k:Nat) (h:¬ (shapeL.getD k (0,0,0,0)).1≤op):Uu op (k+1)=Uu op k:=by
 show(if _ then _ else _)=_;rw[if_neg h]
theorem shape_sig (op:Int):WI op=true→Uu op 23=Vr op :=
 by_cases3 (fun op=>WI op=true→Uu op 23=Vr op) (by decide +kernel) (by decide +kernel) (fun op h e=>by rw[far_num op h]at e;cases e) op
theorem sig_count (op:Int):WI op=true→(Vr op).1=1∨(Vr op).1=2 :=
 by_cases3 (fun op=>WI op=true→(Vr op).1=1∨(Vr op).1=2) (by decide +kernel) (by decide +kernel) (fun op h e=>by rw[far_num op h]at e;cases e) op
theorem acc_pos (op:Int):(Ug op).2.2.2=decide (0<(Ug op).1) :=
 by_cases3 (fun op=>(Ug op).2.2.2=decide (0<(Ug op).1)) (by decide +kernel) (by decide +kernel) (fun op h=>by rw[far_acc op h];rfl) op
end
section
open Go.RowKit
def inB (n lo hi:Int):Bool:=decide (lo≤n∧n≤hi)
def Wp (op:Int):Int×Int×Int×Int×Int×Int :=
 if 2≤op∧op≤4 then (-4,63,0,0,0,0)
 else if op=12∨op=13 then (0,64,0,0,0,0)
 else if op=14 then (0,0,0,0,1,17)
 else if op=16∨op=18 then (0,255,0,0,0,0)
 else if 32≤op∧op≤34 then (0,255,0,0,0,0)
 else if op=35∨op=36 then (0,255,0,0,0,0)
 else if op=63∨op=64∨op=64523 then (0,3,0,0,0,0)
 else if op=64520 then (0,3,15,0,0,0)
 else if op=64521 then (0,15,0,0,0,0)
 else if op=64522 then (0,3,3,0,0,0)
 else if op=65 then (0,0,0,4294967295,0,0)
 else if op=66∨op=68 then (0,0,0,18446744073709551615,0,0)
 else if (Ug op).2.2.2 then (0,3,0,4294967295,0,0)
 else (0,0,0,0,0,0)
def labB (n:Int):Bool:=inB n 0 64
def insB (op a b n:Int) (l:List Int):Bool :=
 VM op && inB a (Wp op).1 (Wp op).2.1 && inB b 0 (Wp op).2.2.1 && decide (n≤(Wp op).2.2.2.1) && inB (l.length:Int) (Wp op).2.2.2.2.1 (Wp op).2.2.2.2.2 && l.all labB
def okB (op a b n:Int) (l:List Int):Bool:=decide (0≤n) && insB op a b n l
theorem ok_i (lo hi mb mn:Int) {op a b n:Int} (hk:VM op=true) (hf:Wp op=(lo,hi,mb,mn,0,0)) (h1:lo≤a) (h2:a≤hi) (h3:0≤b) (h4:b≤mb) (h5:0≤n) (h6:n≤mn):okB op a b n []=true:=by
 simp only[okB,insB,hk,hf,inB,List.length_nil,List.all_nil,Bool.and_true,Bool.true_and,Bool.and_eq_true,decide_eq_true_eq];exact⟨h5,⟨⟨⟨h1,h2⟩,h3,h4⟩,h6⟩,by omega⟩
theorem ok_l {q:List Int} (h1:1≤q.length) (h2:q.length≤17) (hq:∀ z ∈ q,0≤z∧z≤64):okB 14 0 0 0 q=true:=by
 simp only[okB,insB,show VM 14=true from by decide +kernel,show Wp 14=(0,0,0,0,1,17) from by decide +kernel,inB,Bool.true_and,Bool.and_eq_true,decide_eq_true_eq,List.all_eq_true];refine⟨by omega,⟨⟨⟨by omega,by omega⟩,by omega⟩,by omega,by omega⟩,fun z hz=>?_⟩;simp only[labB,inB,decide_eq_true_eq];exact hq z hz
theorem num_ok (op:Int):WI op=true→okB op 0 0 0 []=true :=
 by_cases3 (fun op=>WI op=true→okB op 0 0 0 []=true) (by decide +kernel) (by decide +kernel) (fun op h e=>by rw[far_num op h]at e;cases e) op
end
end Go.Proofs.YtepgopnnaeoolaaGreatDoor
