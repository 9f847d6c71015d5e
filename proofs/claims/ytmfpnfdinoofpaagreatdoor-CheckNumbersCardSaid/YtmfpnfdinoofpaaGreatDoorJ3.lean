/- A part of the proof. -/
import Derived.Test.YtmfpnfdinoofpaaGreatDoorJ1
import Derived.Lib.Strings
import Derived.Test.YtmfpnfdinoofpaaGreatDoorProg
import Derived.Laws.OwnMore
import Derived.Maps.AppendAt
import Derived.BigFrame
import Derived.OrdersHeld
import Derived.Deep.RegionHeld
namespace Go.Proofs.YtmfpnfdinoofpaaGreatDoor
section
def nestStep (op:Int) (o:List Nat):Option (List Nat) :=
 if op=2∨op=3 then (if o.length<60 then some (0 :: o) else none)
 else if op=4 then (if o.length<60 then some (1 :: o) else none)
 else if op=5 then (match o with|1 :: t=>some (0 :: t)|_=>none)
 else if op=11 then (match o with|_ :: t=>some t|[]=>none)
 else some o
def nestOf:List Int→List Nat→Option (List Nat)
 | [],o=>some o
 | i :: l,o=>(nestStep i o).bind (nestOf l)
end
section
open Go.RowKit
def inB (n lo hi:Int):Bool:=decide (lo≤n∧n≤hi)
def Wp (op:Int):Int×Int×Int×Int×Int×Int :=
 if 2≤op∧op≤4 then (-4,63,0,0,0,0)
 else if op=12∨op=13 then (0,64,0,0,0,0)
 else if op=14 then (0,0,0,0,1,17)
 else if op=16∨op=18 then (0,255,0,0,0,0)
 else if 32≤op∧op≤34 then (0,255,0,0,0,0)
 else if op=35∨op=36 then (0,255,0,0,0,0)
 else if op=63∨op=64∨op=64523 then (0,3,0,0,0,0)
 else if op=64520 then (0,3,15,0,0,0)
 else if op=64521 then (0,15,0,0,0,0)
 else if op=64522 then (0,3,3,0,0,0)
 else if op=65 then (0,0,0,4294967295,0,0)
 else if op=66∨op=68 then (0,0,0,18446744073709551615,0,0)
 else if (WK op).2.2.2 then (0,3,0,4294967295,0,0)
 else (0,0,0,0,0,0)
def labB (n:Int):Bool:=inB n 0 64
def insB (op a b n:Int) (l:List Int):Bool :=
 W9 op && inB a (Wp op).1 (Wp op).2.1 && inB b 0 (Wp op).2.2.1 && decide (n≤(Wp op).2.2.2.1) && inB (l.length:Int) (Wp op).2.2.2.2.1 (Wp op).2.2.2.2.2 && l.all labB
def okB (op a b n:Int) (l:List Int):Bool:=decide (0≤n) && insB op a b n l
end
section
open Go.RowKit
def VR (s:ByteArray):List Nat:=s.data.toList.map UInt8.toNat
theorem map_toNat_inj:∀ (a b:List UInt8),a.map UInt8.toNat=b.map UInt8.toNat→a=b
 | [],[],_=>rfl
 | [],_ :: _,h=>by cases h
 | _ :: _,[],h=>by cases h
 | x :: a,y :: b,h=>by
  simp only[List.map_cons,List.cons.injEq]at h;rw[UInt8.toNat_inj.1 h.1,map_toNat_inj a b h.2]
theorem nums_beq (s t:ByteArray):(s.toList==t.toList)=decide (VR s=VR t):=by
 rw[Lib.toList_data,Lib.toList_data];unfold VR;rw[Bool.eq_iff_iff];simp only[beq_iff_eq,decide_eq_true_eq];exact⟨fun h=>by rw[h],map_toNat_inj _ _⟩
theorem nums_lt (s:ByteArray):∀ x ∈ VR s,x<256:=by
 intro x hx;obtain⟨b,_,rfl⟩:=List.mem_map.1 hx;exact UInt8.toNat_lt b
theorem nums_length (s:ByteArray):(VR s).length=s.size:=by
 unfold VR;rw[List.length_map,Lib.size_eq]
theorem nums_ne {s t:ByteArray} (h:VR s≠VR t):(s.toList==t.toList)=false:=by rw[nums_beq,decide_eq_false h]
theorem nums_is {s t:ByteArray} (h:VR s=VR t):(s.toList==t.toList)=true:=by rw[nums_beq,decide_eq_true h]
end
section
open Go.RowKit
theorem ZbN {P:Prop}(h:P:=by
 rcases hown.2 with ⟨rfl,h⟩|⟨g',cap',cur,rfl,_,_,hnc,_⟩
 ·simp[Builtin.append_,run_underlying ht,sizeOf,typeInfo,hi,Builtin.lenOf,Builtin.firstCells]
 ·simp[Builtin.append_,run_underlying ht,sizeOf,typeInfo,hi,Builtin.lenOf,Builtin.firstCells,hnc,storeCells]):P:=h
theorem ZcT {P:Prop}(h:P:=by
 obtain⟨g,o,rfl,h4,h5⟩:=h3 hl;exact⟨g,o,rfl,hm g h4,fun j hj=>(hk.cell (p:=⟨g,o+j,none⟩) h4).trans (h5 j hj)⟩):P:=h
structure We (K:Nat→Prop) (w w':World):Prop where
 os:w'.os=w.os
 tape:w'.tape=w.tape
 output:w'.output=w.output
 size:w.heap.size≤w'.heap.size
 block:∀ k,K k→w'.heap[k]?=w.heap[k]?
theorem We.refl (K:Nat→Prop) (w:World):We K w w:=⟨rfl,rfl,rfl,nR _,fun _ _=>rfl⟩
theorem We.trans {K:Nat→Prop} {a b c:World} (h:We K a b) (k:We K b c):We K a c :=
 ⟨k.os.trans h.os,k.tape.trans h.tape,k.output.trans h.output,Nat.le_trans h.size k.size,fun i hi=>(k.block i hi).trans (h.block i hi)⟩
theorem We.mono {K K':Nat→Prop} {w w':World} (h:We K w w') (hK:∀ k,K' k→K k):We K' w w':=⟨h.os,h.tape,h.output,h.size,fun k hk=>h.block k (hK k hk)⟩
theorem We.below {K:Nat→Prop} {B:Nat} {w w':World} (h:Below B w w') (hK:∀ k,K k→k<B):We K w w':=⟨h.os,h.tape,h.output,h.size,fun k hk=>h.block k (hK k hk)⟩
theorem We.to_below {K:Nat→Prop} {B:Nat} {w w':World} (h:We K w w') (hK:∀ k,k<B→K k):Below B w w':=⟨h.os,h.tape,h.output,h.size,fun k hk=>h.block k (hK k hk)⟩
theorem We.alloc {K:Nat→Prop} (w:World) (hK:∀ k,K k→k<w.heap.size) (o:Obj):We K w (w.alloc o):=.below ((bR w.heap.size w).alloc (nR _) o) hK
theorem We.setCell {K:Nat→Prop} (w:World) {p:Addr} (hp:¬ K p.block) (u:Value):We K w (w.setCell p u) :=
 ⟨rfl,rfl,rfl,by simp[World.setCell],fun k hk=>Below.heap_setCell _ _ _ _ (fun e=>hp (e ▸ hk))⟩
theorem We.grown {K:Nat→Prop} {w w':World} {row:Option Nat} (hg:w.grownBy w' row) (hK:∀ k,K k→k<w.heap.size) (hr:∀ k,row=some k→¬ K k):We K w w' :=
 ⟨hg.os,hg.tape,hg.output,hg.size,fun k hk=>hg.block k (hK k hk) (fun e=>hr k e.symm hk)⟩
theorem We.drewN {K:Nat→Prop} (w:World) (n:Nat):We K w (w.drewN n):=⟨rfl,rfl,rfl,nR _,fun _ _=>rfl⟩
theorem We.cell {K:Nat→Prop} {w w':World} (h:We K w w') {p:Addr} (hp:K p.block):w'.cell? p=w.cell? p:=World.cell?_of_block (w:=w) (h.block p.block hp)
def Wf (K:Nat→Prop) (w:World) (v:Value) (l:List Int):Prop :=
 ∃ A c,v=.slice A l.length c∧l.length≤maxLen∧(A=none→c=0)∧(0<l.length→∃ g o:Nat,A=some ⟨g,o,none⟩∧K g∧∀ j,j<l.length→w.cell? ⟨g,o+j,none⟩=some (.int .i64 (l.getD j 0)))
theorem Wf.keep {K K':Nat→Prop} {w w':World} {v:Value} {l:List Int} (h:Wf K w v l) (hk:We K w w') (hm:∀ k,K k→K' k):Wf K' w' v l:=by
 obtain⟨A,c,rfl,h1,h0,h3⟩:=h;refine⟨A,c,rfl,h1,h0,fun hl=>?_⟩;exact ZcT
theorem Wf.nil (K:Nat→Prop) (w:World):Wf K w (.slice none 0 0) []:=⟨none,0,rfl,nZ _,fun _=>rfl,fun h=>by simp at h⟩
theorem Wf.at_ {K:Nat→Prop} {w:World} {g o n c:Nat} {l:List Int} (h:Wf K w (.slice (some ⟨g,o,none⟩) n c) l) (j:Nat) (hj:j<n):w.cell? ⟨g,o+j,none⟩=some (.int .i64 (l.getD j 0)):=by
 obtain⟨A,c',he,_,_,h3⟩:=h;simp only[vI]at he;obtain⟨rfl,rfl,rfl⟩:=he;obtain⟨g',o',he,_,h5⟩:=h3 (by omega);simp only[Option.some.injEq,Addr.mk.injEq]at he;obtain⟨rfl,rfl,_⟩:=he;exact h5 j hj
theorem Wf.some_ {K:Nat→Prop} {w:World} {v:Value} {l:List Int} (h:Wf K w v l) (hl:0<l.length):∃ g o c:Nat,v=.slice (some ⟨g,o,none⟩) l.length c∧l.length≤maxLen∧True:=by
 obtain⟨A,c,rfl,h1,_,h3⟩:=h;obtain⟨g,o,rfl,_⟩:=h3 hl;exact⟨g,o,c,rfl,h1,trivial⟩
theorem Wf.form {K:Nat→Prop} {w:World} {v:Value} {l:List Int} (h:Wf K w v l):∃ A c,v=.slice A l.length c∧l.length≤maxLen∧True:=by
 obtain⟨A,c,rfl,h1,_⟩:=h;exact⟨A,c,rfl,h1,trivial⟩
theorem Tryz.infoInt:(Tryz.prog.info? 3).map (fun i=>(i.zero,i.size,i.bytes))=some (some (.int .i64 0),1,8):=by kernel_rfl
def UZ (w:World) (v:Value) (m:Nat) (news:List Value):Prop :=
 (v=.slice none 0 0∧m=0∧news=[])∨∃ a c,v=.slice (some a) m c∧(∀ j u,news[j]?=some u→w.cell? (a.add j)=some u)
theorem Wf.news {K:Nat→Prop} {w:World} {v:Value} {l:List Int} (h:Wf K w v l):UZ w v l.length (l.map (Value.int .i64)):=by
 obtain⟨A,c,rfl,h1,hn,h3⟩:=h;rcases A with _|a
 ·have h0:l.length=0:=by
   rcases Nat.eq_zero_or_pos l.length with h0|h0
   ·exact h0
   ·obtain⟨_,_,h,_⟩:=h3 h0;cases h
  obtain rfl:l=[]:=List.eq_nil_of_length_eq_zero h0;obtain rfl:=hn rfl;exact .inl ⟨rfl,rfl,rfl⟩
 ·refine .inr ⟨a,c,rfl,fun j u hu=>?_⟩;obtain⟨x,hx,rfl⟩:∃ x,l[j]?=some x∧Value.int .i64 x=u:=by simpa using hu
  have hj:j<l.length:=by
   rcases Nat.lt_or_ge j l.length with h1|h1
   ·exact h1
   ·rw[List.getElem?_eq_none h1]at hx;cases hx
  obtain⟨g,o,he,_,hc⟩:=h3 (by omega);obtain rfl:a=⟨g,o,none⟩:=by simpa using he
  rw[Addr.add_lit,hc j hj,List.getD_eq_getElem?_getD,hx];rfl
theorem run_append_row (w:World) (t ty e:TypeId) (z:Value) (size bytes:Nat) (ht:Tryz.prog.underlying t=some (.slice e)) (hinfo:(Tryz.prog.info? e).map (fun i=>(i.zero,i.size,i.bytes))=some (some z,size,bytes))
 (hzs:z.cells.size=size) (hsz:0<size) (v:Value) (n:Nat) (xs:List Value) (hown:w.ownsRow 0 e size v n xs) (src:Value) (m:Nat) (news:List Value) (hl:news.length=m * size) (hsrc:UZ w src m news)
 (h1:∀ u ∈ news,u.oneCell'=true) (hnm:n+m≤1000000) (hb:bytes≤1000) :
 ∃ v' w',(Builtin.append_ #[t,t] ty #[v,src]).run Tryz.prog w=.ok v' w'∧w'.ownsRow 0 e size v' (n+m) (xs++news)∧w.grownBy w' v.ownBlock∧(v'.ownBlock=v.ownBlock∨v'.ownBlock=some w.heap.size):=by
 obtain⟨i0,hi,hz0,hz1,hz2⟩:=info_parts hinfo;rcases hsrc with ⟨rfl,rfl,rfl⟩|⟨a,c,rfl,hcell⟩
 ·refine⟨v,w,?_,by simpa using hown,World.grownBy.refl w _,.inl rfl⟩;exact ZbN
 ·have hb2:(n+m) * bytes≤1000000 * 1000:=Nat.mul_le_mul hnm hb;obtain⟨v',w',hr,h2,h3,_,h5⟩:=run_append_own_at (P:=Tryz.prog) w 0 t ty e i0 z size bytes ht hi hz0 hz1 hz2 hzs hsz v n xs hown a m c news hl hcell h1 (by unfold maxLen;omega) (by omega) (nZ _);exact⟨v',w',hr,h2,h3,h5⟩
theorem WE {ops:Array Oper} {rest:List Oper} {o:Oper} {a:Act} {w:World} {Q:Exit→Act→World→Prop} (hw:Region.wanted o (yielded ops a.tmps)=true) (s x:Operand) (t e:TypeId)
 (ho:o.op=.call { callee:=.builtin .append,args:=#[s,x],argTypes:=#[t,t] }) (z:Value) (size bytes:Nat) (ht:Tryz.prog.underlying t=some (.slice e)) (hinfo:(Tryz.prog.info? e).map (fun i=>(i.zero,i.size,i.bytes))=some (some z,size,bytes))
 (hzs:z.cells.size=size) (hsz:0<size) (hb:bytes≤1000) (v:Value) (n:Nat) (xs:List Value) (hs:a.eval s=v) (hown:w.ownsRow 0 e size v n xs) (src:Value) (m:Nat) (news:List Value) (hx:a.eval x=src) (hl:news.length=m * size) (hsrc:UZ w src m news)
 (h1:∀ u ∈ news,u.oneCell'=true) (hnm:n+m≤1000000)
 (hk:∀ v' w',w'.ownsRow 0 e size v' (n+m) (xs++news)→w.grownBy w' v.ownBlock→(v'.ownBlock=v.ownBlock∨v'.ownBlock=some w.heap.size)→wpList Tryz.prog ops Q rest (a.put o.dst v') w'):wpList Tryz.prog ops Q (o :: rest) a w:=by
 refine BigFrame.wpList_want hw fun K hK=>?_;obtain⟨v',w',hr,h2,h3,h5⟩:=run_append_row w t o.type e z size bytes ht hinfo hzs hsz v n xs hown src m news hl hsrc h1 hnm hb;unfold Oper.wp execOp;simp only[ho,resolve,invoke,builtin,Sem.run_bind,Sem.run_pure,Result.andThen_ok,List.map_toArray,List.map_cons,List.map_nil,hs,hx,hr];exact hK _ _ (hk v' w' h2 h3 h5)
theorem wp_append_row {o:Oper} {a:Act} {w:World} {K:Act→World→Prop} {Q:Exit→Act→World→Prop} (s x:Operand) (t e:TypeId)
 (ho:o.op=.call { callee:=.builtin .append,args:=#[s,x],argTypes:=#[t,t] }) (z:Value) (size bytes:Nat) (ht:Tryz.prog.underlying t=some (.slice e)) (hinfo:(Tryz.prog.info? e).map (fun i=>(i.zero,i.size,i.bytes))=some (some z,size,bytes))
 (hzs:z.cells.size=size) (hsz:0<size) (hb:bytes≤1000) (v:Value) (n:Nat) (xs:List Value) (hs:a.eval s=v) (hown:w.ownsRow 0 e size v n xs) (src:Value) (m:Nat) (news:List Value) (hx:a.eval x=src) (hl:news.length=m * size) (hsrc:UZ w src m news)
 (h1:∀ u ∈ news,u.oneCell'=true) (hnm:n+m≤1000000)
 (hk:∀ v' w',w'.ownsRow 0 e size v' (n+m) (xs++news)→w.grownBy w' v.ownBlock→(v'.ownBlock=v.ownBlock∨v'.ownBlock=some w.heap.size)→K (a.put o.dst v') w'):o.wp Tryz.prog a w K Q:=by
 obtain⟨v',w',hr,h2,h3,h5⟩:=run_append_row w t o.type e z size bytes ht hinfo hzs hsz v n xs hown src m news hl hsrc h1 hnm hb;unfold Oper.wp execOp;simp only[ho,resolve,invoke,builtin,Sem.run_bind,Sem.run_pure,Result.andThen_ok,List.map_toArray,List.map_cons,List.map_nil,hs,hx,hr];exact hk v' w' h2 h3 h5
theorem Um {ops:Array Oper} {o:Oper} {a:Act} {w:World} {K:Act→World→Prop} {Q:Exit→Act→World→Prop} {E:Prop} (hgd:o.guard=none) (s x:Operand) (t e:TypeId)
 (ho:o.op=.call { callee:=.builtin .append,args:=#[s,x],argTypes:=#[t,t] }) (z:Value) (size bytes:Nat) (ht:Tryz.prog.underlying t=some (.slice e)) (hinfo:(Tryz.prog.info? e).map (fun i=>(i.zero,i.size,i.bytes))=some (some z,size,bytes))
 (hzs:z.cells.size=size) (hsz:0<size) (hb:bytes≤1000) (v:Value) (n:Nat) (xs:List Value) (hs:a.eval s=v) (hown:w.ownsRow 0 e size v n xs) (src:Value) (m:Nat) (news:List Value) (hx:a.eval x=src) (hl:news.length=m * size) (hsrc:UZ w src m news)
 (h1:∀ u ∈ news,u.oneCell'=true) (hnm:n+m≤1000000)
 (hk:∀ v' w',w'.ownsRow 0 e size v' (n+m) (xs++news)→w.grownBy w' v.ownBlock→(v'.ownBlock=v.ownBlock∨v'.ownBlock=some w.heap.size)→K (a.put o.dst v') w') :
 if Region.wanted o (yielded ops a.tmps)=true then Oper.wp Tryz.prog o a w K Q else E:=by
 have hw:Region.wanted o (yielded ops a.tmps)=true:=by simp[Region.wanted,hgd]
 rw[if_pos hw];exact wp_append_row s x t e ho z size bytes ht hinfo hzs hsz hb v n xs hs hown src m news hx hl hsrc h1 hnm hk
theorem Ua (w:World) (cs:Array Value) (t:TypeId) (m c:Nat):UZ (w.alloc (.cells cs t)) (.slice (some ⟨w.heap.size,0,none⟩) m c) m cs.toList :=
 .inr ⟨_,c,rfl,fun j u hu=>by rw[add_lit0,wN];simpa using hu⟩
theorem UZ.keep {w w':World} {v:Value} {m:Nat} {news:List Value} (h:UZ w v m news) (hc:∀ a c,v=.slice (some a) m c→∀ j u,news[j]?=some u→w.cell? (a.add j)=some u→w'.cell? (a.add j)=some u):UZ w' v m news:=by
 rcases h with h|⟨a,c,rfl,h⟩
 ·exact .inl h
 ·exact .inr ⟨a,c,rfl,fun j u hu=>hc a c rfl j u hu (h j u hu)⟩
theorem owns_drew {w:World} {base:Nat} {e:TypeId} {size:Nat} {v:Value} {n:Nat} {xs:List Value} (h:w.ownsRow base e size v n xs):w.drew.ownsRow base e size v n xs:=h
theorem news_drew {w:World} {v:Value} {m:Nat} {news:List Value} (h:UZ w v m news):UZ w.drew v m news:=h
theorem grown_drew {w w':World} {row:Option Nat} (h:w.drew.grownBy w' row):w.grownBy w' row:=⟨h.os,h.tape,h.output,h.size,h.block⟩
theorem Wy {w:World} {base:Nat} {e:TypeId} {size:Nat} {v:Value} {n:Nat} {xs:List Value} (h:w.ownsRow base e size v n xs):∃ A c,v=.slice A n c:=by
 rcases h.2 with ⟨h1,h2⟩|⟨g,cap,cur,h1,_⟩
 ·exact⟨none,0,by rw[h1,h2]⟩
 ·exact⟨_,_,h1⟩
theorem owns_cut {w:World} {base:Nat} {e:TypeId} {size g n cap m:Nat} {xs:List Value} (h:w.ownsRow base e size (.slice (some ⟨g,0,none⟩) n cap) n xs) (hm:m≤n):w.ownsRow base e size (.slice (some ⟨g,0,none⟩) m cap) m (xs.take (m * size)):=by
 have hle:m * size≤n * size:=Nat.mul_le_mul_right size hm;refine⟨by rw[List.length_take,h.1];omega,?_⟩;rcases h.2 with ⟨h,_⟩|⟨g',cap',cur,he,h1,h2,h3,h4,h5,h6⟩
 ·cases h
 ·simp only[vI,Option.some.injEq,Addr.mk.injEq]at he;obtain⟨⟨rfl,_⟩,_,rfl⟩:=he;refine .inr ⟨g,cap,cur,rfl,h1,h2,by omega,h4,h5,?_⟩;rw[← h6,List.take_take,Nat.min_eq_left hle]
theorem VE {K:Nat→Prop} {w w':World} {base:Nat} {e:TypeId} {size:Nat} {v:Value} {n:Nat} {xs:List Value} (h:w.ownsRow base e size v n xs) (hk:We K w w') (hv:∀ g,v.ownBlock=some g→K g):w'.ownsRow base e size v n xs:=by
 obtain⟨h1,h2⟩:=h;refine⟨h1,?_⟩;rcases h2 with h2|⟨g,cap,cur,rfl,r2,r3,r4⟩
 ·exact .inl h2
 ·exact .inr ⟨g,cap,cur,rfl,r2,(hk.block g (hv g rfl)).trans r3,r4⟩
end
section
open Go.RowKit
theorem Zc9 {P:Prop}(h:P:=by
 obtain⟨h1,h2,h3,h4⟩:=h;obtain⟨k1,k2,k3,k4⟩:=k;exact⟨by omega,by omega,k3.trans h3,k4.trans h4⟩):P:=h
def Wd (K:Nat→Prop) (w:World) (v:Value) (n size:Nat) (f:Nat→Nat→Value→Prop):Prop :=
 ∃ A c,v=.slice A n c∧n≤c∧c≤maxLen∧(A=none→c=0)∧(0<n→∃ g o:Nat,A=some ⟨g,o,none⟩∧K g∧∀ j i,j<n→i<size→∃ u,w.cell? ⟨g,o+j * size+i,none⟩=some u∧f j i u)
theorem Wd.keep {K K':Nat→Prop} {w w':World} {v:Value} {n size:Nat} {f f':Nat→Nat→Value→Prop} (h:Wd K w v n size f) (hk:We K w w') (hm:∀ k,K k→K' k) (hf:∀ j i u,f j i u→f' j i u):Wd K' w' v n size f':=by
 obtain⟨A,c,rfl,h1,h2,h0,h3⟩:=h;refine⟨A,c,rfl,h1,h2,h0,fun hl=>?_⟩;obtain⟨g,o,rfl,h4,h5⟩:=h3 hl;refine⟨g,o,rfl,hm g h4,fun j i hj hi=>?_⟩;obtain⟨u,h6,h7⟩:=h5 j i hj hi;exact⟨u,(hk.cell (p:=⟨g,o+j * size+i,none⟩) h4).trans h6,hf j i u h7⟩
def UN (K:Nat→Prop) (w:World) (v:Value) (ts:List (List Int×List Int)):Prop :=
 Wd K w v ts.length 2 fun j i u=>Wf K w u (if i=0 then (ts.getD j ([],[])).1 else (ts.getD j ([],[])).2)
theorem UN.keep {K K':Nat→Prop} {w w':World} {v:Value} {ts:List (List Int×List Int)} (h:UN K w v ts) (hk:We K w w') (hm:∀ k,K k→K' k):UN K' w' v ts :=
 Wd.keep h hk hm fun _ _ _ h=>Wf.keep h hk hm
def Ut (K:Nat→Prop) (w:World) (v:Value) (size p:Nat) (l:List Int):Prop:=Wd K w v l.length size fun j i u=>i=p→u=.int .i64 (l.getD j 0)
theorem Ut.keep {K K':Nat→Prop} {w w':World} {v:Value} {size p:Nat} {l:List Int} (h:Ut K w v size p l) (hk:We K w w') (hm:∀ k,K k→K' k):Ut K' w' v size p l :=
 Wd.keep h hk hm fun _ _ _ h=>h
theorem Wd.some_ {K:Nat→Prop} {w:World} {v:Value} {n size:Nat} {f:Nat→Nat→Value→Prop} (h:Wd K w v n size f) (hn:0<n):∃ g o c:Nat,v=.slice (some ⟨g,o,none⟩) n c∧n≤c∧c≤maxLen:=by
 obtain⟨A,c,rfl,h1,h2,h0,h3⟩:=h;obtain⟨g,o,rfl,_⟩:=h3 hn;exact⟨g,o,c,rfl,h1,h2⟩
theorem Wd.form {K:Nat→Prop} {w:World} {v:Value} {n size:Nat} {f:Nat→Nat→Value→Prop} (h:Wd K w v n size f):∃ A c,v=.slice A n c∧n≤c∧c≤maxLen:=by
 obtain⟨A,c,rfl,h1,h2,_⟩:=h;exact⟨A,c,rfl,h1,h2⟩
theorem Wd.at_ {K:Nat→Prop} {w:World} {g o m n c size:Nat} {f:Nat→Nat→Value→Prop} (h:Wd K w (.slice (some ⟨g,o,none⟩) m c) n size f) (j i:Nat) (hj:j<n) (hi:i<size):∃ u,w.cell? ⟨g,o+j * size+i,none⟩=some u∧f j i u:=by
 obtain⟨A,c',he,h1,h2,h0,h3⟩:=h;simp only[vI]at he;obtain⟨rfl,rfl,rfl⟩:=he;obtain⟨g',o',he,_,h5⟩:=h3 (by omega);simp only[Option.some.injEq,Addr.mk.injEq]at he;obtain⟨rfl,rfl,_⟩:=he;exact h5 j i hj hi
theorem Ut.at_ {K:Nat→Prop} {w:World} {g o m c size p:Nat} {l:List Int} (h:Ut K w (.slice (some ⟨g,o,none⟩) m c) size p l) (j:Nat) (hj:j<l.length) (hp:p<size):w.cell? ⟨g,o+j * size+p,none⟩=some (.int .i64 (l.getD j 0)):=by
 obtain⟨u,h1,h2⟩:=Wd.at_ h j p hj hp;rw[h1,h2 rfl]
def LabsK (K:Nat→Prop) (w:World) (v:Value) (n:Nat):Prop:=Wd K w v n 1 fun _ _ u=>∃ l:List Int,l.length≤3∧Wf K w u l
theorem LabsK.keep {K K':Nat→Prop} {w w':World} {v:Value} {n:Nat} (h:LabsK K w v n) (hk:We K w w') (hm:∀ k,K k→K' k):LabsK K' w' v n :=
 Wd.keep h hk hm fun _ _ _ ⟨l,h1,h2⟩=>⟨l,h1,h2.keep hk hm⟩
def LenK (v:Value) (n:Nat):Prop:=∃ A c,v=.slice A n c∧n≤c∧c≤maxLen
structure Iv where
 op:Int
 a:Int
 b:Int
 n:Int
 l:Value
def Iv.cells (x:Iv):List Value:=[.int .i64 x.op,.int .i64 x.a,.int .i64 x.b,.int .u64 x.n,x.l]
structure Fx where
 G:Nat
 T:Nat
 tv:Value
 tl:List Int
 m0:Value
 m1:Value
 m2:Value
 m3:Value
 m4:Value
 m5:Value
 m6:Value
 m7:Value
 lov:Value
 lo:List Int
 pv:Value
 rv:Value
 ro:List Int
 ts:List (List Int×List Int)
 is:List Int
 fs:List Int
 gs:List Int
 nm:Nat
 nd:Nat
 o:Option (List Nat)
 E:Nat→Prop
structure St where
 sv:Value
 lv:Value
 cv:Value
 at_:Nat
 s:List Int
 nl:Nat
 c:List Iv
 left:Int
def priv (F:Fx) (x:St) (k:Nat):Prop:=k=F.G∨k=F.T∨x.sv.ownBlock=some k∨x.cv.ownBlock=some k
def free (F:Fx) (w:World) (x:St) (k:Nat):Prop:=k<w.heap.size∧¬ priv F x k
structure Reads (F:Fx) (K:Nat→Prop) (w:World) (lv:Value) (nl:Nat) (c:List Iv):Prop where
 tape:Wf K w F.tv F.tl
 loc:Wf K w F.lov F.lo∧F.lo.length≤100
 own:Wf K w F.rv F.ro∧F.ro.length≤3
 types:UN K w F.m0 F.ts∧F.ts.length=9∧∀ t ∈ F.ts,t.1.length≤3∧t.2.length≤3
 imps:Ut K w F.m1 3 2 F.is∧F.is.length=2∧∀ t ∈ F.is,0≤t∧t<9
 funs:Ut K w F.m2 3 0 F.fs∧(0<F.fs.length∧F.fs.length≤4)∧∀ t ∈ F.fs,0≤t∧t<9
 mems:LenK F.m3 F.nm∧F.nm≤3
 globs:Ut K w F.m4 3 0 F.gs∧F.gs.length=4
 datas:LenK F.m6 F.nd∧F.nd≤2∧(0<F.nm→F.nd=2)
 labs:LabsK K w lv nl
 code:∀ iv ∈ c,∃ l,Wf K w iv.l l∧okB iv.op iv.a iv.b iv.n l=true
 nest:∀ q,F.o=some q→nestOf (c.map Iv.op) []=some q
theorem Reads.keep {F:Fx} {K K':Nat→Prop} {w w':World} {lv:Value} {nl:Nat} {c:List Iv} (h:Reads F K w lv nl c) (hk:We K w w') (hm:∀ k,K k→K' k):Reads F K' w' lv nl c :=
 ⟨h.tape.keep hk hm,⟨h.loc.1.keep hk hm,h.loc.2⟩,⟨h.own.1.keep hk hm,h.own.2⟩,⟨h.types.1.keep hk hm,h.types.2⟩,⟨h.imps.1.keep hk hm,h.imps.2⟩,⟨h.funs.1.keep hk hm,h.funs.2⟩,h.mems,⟨h.globs.1.keep hk hm,h.globs.2⟩,h.datas,h.labs.keep hk hm,fun iv hiv=>by obtain⟨l,hl,ho⟩:=h.code iv hiv;exact⟨l,hl.keep hk hm,ho⟩,h.nest⟩
structure Step (F:Fx) (w:World) (x:St) (w':World) (x':St):Prop where
 keeps:We (free F w x) w w'
 mono:∀ k,free F w x k→free F w' x' k
theorem Step.refl (F:Fx) (w:World) (x:St):Step F w x w x:=⟨.refl _ _,fun _ h=>h⟩
theorem Step.trans {F:Fx} {a b c:World} {x y z:St} (h:Step F a x b y) (k:Step F b y c z):Step F a x c z :=
 ⟨h.keeps.trans (k.keeps.mono h.mono),fun i hi=>k.mono i (h.mono i hi)⟩
theorem Step.ints {F:Fx} {w w':World} {x x':St} (h:Step F w x w' x') {v:Value} {l:List Int} (hv:Wf (free F w x) w v l):Wf (free F w' x') w' v l:=hv.keep h.keeps h.mono
theorem Wg (w:World) (g o:Nat) (cs:Array Value) (t:TypeId) (u:Value) (h:w.heap[g]?=some (.cells cs t (0,0))):(w.setCell ⟨g,o,none⟩ u).heap[g]?=some (.cells (cs.setIfInBounds o u) t (0,0)):=by
 simp[World.setCell,Array.getElem?_modify,h]
section
variable {F:Fx} {w:World} {x:St}
end
theorem owns_nothing (W:World) (e:TypeId):(W.alloc (.cells #[] e)).ownsRow 0 e 1 (.slice (some ⟨W.heap.size,0,none⟩) 0 0) 0 []:=World.ownsRow_made W #[] 0 (nZ _) (nZ _) rfl
theorem keeps_made {W w1:World} {o:Obj} (hg1:(W.alloc o).grownBy w1 (some W.heap.size)):We (fun k=>k<W.heap.size) W w1 :=
 (We.alloc W (fun _ h=>h) o).trans (.grown hg1 (fun k hk=>by simp;omega) (fun k e hk=>by simp only[Option.some.injEq]at e;omega))
theorem keeps_made2 {W w1 w2:World} {o:Obj} {v1:Value} (hk1:We (fun k=>k<W.heap.size) W w1) (ha1:v1.ownBlock=some W.heap.size∨v1.ownBlock=some (W.alloc o).heap.size) (hg2:w1.grownBy w2 v1.ownBlock):We (fun k=>k<W.heap.size) W w2 :=
 hk1.trans (.grown hg2 (fun k hk=>Ve hk hk1.size) (fun k e hk=>by
  have hs:(W.alloc o).heap.size=W.heap.size+1:=by simp
  rcases ha1 with h|h
  ·have:=h.symm.trans e;simp only[Option.some.injEq]at this;omega
  ·have:=h.symm.trans e;simp only[Option.some.injEq]at this;omega))
theorem made_at {W w1:World} {o:Obj} {v1 v2:Value} (hk1:We (fun k=>k<W.heap.size) W w1) (ha1:v1.ownBlock=some W.heap.size∨v1.ownBlock=some (W.alloc o).heap.size) (ha2:v2.ownBlock=v1.ownBlock∨v2.ownBlock=some w1.heap.size):∀ g,v2.ownBlock=some g→W.heap.size≤g:=by
 have hs:(W.alloc o).heap.size=W.heap.size+1:=by simp
 have h1:=hk1.size;intro g hg;rcases ha2 with h|h
 ·rcases ha1 with k|k
  ·have:=(k.symm.trans h.symm).trans hg;simp only[Option.some.injEq]at this;omega
  ·have:=(k.symm.trans h.symm).trans hg;simp only[Option.some.injEq]at this;omega
 ·have:=h.symm.trans hg;simp only[Option.some.injEq]at this;omega
theorem UR (l:List Int):∀ u ∈ l.map (Value.int .i64),u.oneCell'=true:=by
 intro u hu;obtain⟨x,_,rfl⟩:=List.mem_map.1 hu;rfl
def Num (x x':St) (ds dc:Nat):Prop:=x'.s.length=x.s.length+ds∧x'.c.length=x.c.length+dc∧x'.nl=x.nl∧x'.left=x.left
theorem Num.trans {x y z:St} {a b c d:Nat} (h:Num x y a b) (k:Num y z c d):Num x z (a+c) (b+d):=by
 exact Zc9
def Most (x:St) (B:Nat):Prop:=x.s.length+x.c.length≤B
theorem Most.s {x:St} {B:Nat} (h:Most x B):x.s.length≤B:=by unfold Most at h;omega
theorem Most.c {x:St} {B:Nat} (h:Most x B):x.c.length≤B:=by unfold Most at h;omega
def Up (x x':St) (d:Nat):Prop:=x.s.length≤x'.s.length∧x'.s.length+x'.c.length≤x.s.length+x.c.length+d∧x'.nl=x.nl∧x'.left=x.left
theorem Up.refl (x:St):Up x x 0:=⟨nR _,nR _,rfl,rfl⟩
theorem Num.up {x x':St} {a b:Nat} (h:Num x x' a b):Up x x' (a+b):=by
 obtain⟨h1,h2,h3,h4⟩:=h;exact⟨by omega,by omega,h3,h4⟩
theorem Up.trans {x y z:St} {d e:Nat} (h:Up x y d) (k:Up y z e):Up x z (d+e):=by
 exact Zc9
theorem Most.up {x x':St} {B d:Nat} (h:Most x B) (hn:Up x x' d):Most x' (B+d):=by
 obtain⟨_,h2,_⟩:=hn;unfold Most at h ⊢;omega
end
section
open Go.RowKit
def Bytes (w:World) (A:Option Addr) (l:List Nat):Prop :=
 (∀ x ∈ l,x<256)∧(0<l.length→∃ g o:Nat,A=some ⟨g,o,none⟩∧g<w.heap.size∧∀ j,j<l.length→w.cell? ⟨g,o+j,none⟩=some (.int .u8 (l.getD j 0:Nat)))
theorem Bytes.nil (w:World) (A:Option Addr):Bytes w A []:=⟨by simp,fun h=>by simp at h⟩
theorem Bytes.below {w w':World} {A:Option Addr} {l:List Nat} (h:Bytes w A l) (hb:Below w.heap.size w w'):Bytes w' A l :=
 ⟨h.1,fun hl=>by
  obtain⟨g,o,r1,r2,r3⟩:=h.2 hl;exact⟨g,o,r1,Ve r2 hb.size,fun j hj=>(hb.cell (p:=⟨g,o+j,none⟩) r2).trans (r3 j hj)⟩⟩
theorem getD_lt {l:List Nat} {b:Nat} (hb:0<b) (h:∀ x ∈ l,x<b) (j:Nat):l.getD j 0<b:=by
 rcases Nat.lt_or_ge j l.length with hj|hj
 ·have e:l.getD j 0=l[j]:=by simp[hj]
  rw[e];exact h _ (List.getElem_mem hj)
 ·simp[List.getD,hj,hb]
theorem Bytes.part {w:World} {A:Option Addr} {l:List Nat} (h:Bytes w A l) (k m:Nat) (hm:k+m≤l.length) (A':Option Addr) (hA:∀ g o:Nat,0<m→A=some ⟨g,o,none⟩→A'=some ⟨g,o+k,none⟩):Bytes w A' ((l.drop k).take m):=by
 refine⟨fun x hx=>h.1 x (List.mem_of_mem_drop (List.mem_of_mem_take hx)),fun hl=>?_⟩;have hm':0<m:=by simp at hl;omega
 obtain⟨g,o,rfl,r2,r3⟩:=h.2 (by omega);refine⟨g,o+k,hA g o hm' rfl,r2,fun j hj=>?_⟩;have hj':j<m:=by simp at hj;omega
 have e:((l.drop k).take m).getD j 0=l.getD (k+j) 0:=by simp[List.getD,hj']
 rw[e,Nat.add_assoc];exact r3 (k+j) (by omega)
end
section
open Go
section
variable {P:Program} {md:Region.Mode} {ops:Array Oper} {Q:Exit→Act→World→Prop} {S:World→Prop}
theorem mR (i d:Nat) {o1:Op} {o2:TypeId} {o3:String} {o4:Array Edge} {o5:Option (Nat×Bool)} {n:Nat} {l:Array Bool} {a:Act} {w:World} (ho:ops[i]?=some ⟨some d,o1,o2,o3,o4,o5⟩)
 (h:∀ K:Act→World→Prop,Shut (∀ a w,S w→(S w→wpAnyH P md ops Q S n (l.setIfInBounds i true) a w)→K a w)→if Region.wanted ⟨some d,o1,o2,o3,o4,o5⟩ (yielded ops a.tmps)=true then Oper.wp P ⟨some d,o1,o2,o3,o4,o5⟩ a w K Q else K (a.put (some d) undef) w)
 (hr:Region.ready md ops l=[i]:=by kernel_rfl):wpAnyH P md ops Q S (n+1) l a w:=wpAnyH_ready hr (by simp) (AllReadyH.cons ho h AllReadyH.nil)
theorem mT (i d:Nat) {o1:Op} {o2:TypeId} {o3:String} {o4:Array Edge} {o5:Option (Nat×Bool)} {n:Nat} {v:Value} {l l2:Array Bool} {a a2:Act} {w:World} (hi:ops[i]?=some ⟨some d,o1,o2,o3,o4,o5⟩) (hS:S w)
 (h:wpAnyH P md ops Q S n l2 a2 w) (hw:Region.wanted ⟨some d,o1,o2,o3,o4,o5⟩ (yielded ops a.tmps)=true:=by rfl) (hy:∀ w',S w'→(execOp a.eval ⟨some d,o1,o2,o3,o4,o5⟩).run P w'=.ok (.value v) w':=by intro wS hSw;go_simp;try with_reducible rfl)
 (hl:l.setIfInBounds i true=l2:=by simp only[List.setIfInBounds_toArray,List.set] <;> rfl) (ha:a.put (some d) v=a2:=by simp only[Act.put,List.setIfInBounds_toArray,List.set] <;> rfl)
 (hs:Region.noSelect ops=true:=by kernel_rfl) (hf:Region.free md ops l i=true:=by kernel_rfl) (hr:(Region.ready md ops l).contains i=true:=by kernel_rfl)
 (hQ:∀ c a w,Q (.panic c) (a.put (some d) v) w→Q (.panic c) a w:=by exact fun _ _ _ h=>h):wpAnyH P md ops Q S (n+1) l a w:=wpAnyH_take hi hs hf hr hQ (.inl ⟨hw,hy⟩) hS (by rw[hl,ha];exact h)
theorem mN (i d:Nat) {o1:Op} {o2:TypeId} {o3:String} {o4:Array Edge} {o5:Option (Nat×Bool)} {n:Nat} {l l2:Array Bool} {a a2:Act} {w:World} (hi:ops[i]?=some ⟨some d,o1,o2,o3,o4,o5⟩) (hS:S w)
 (h:wpAnyH P md ops Q S n l2 a2 w) (hw:Region.wanted ⟨some d,o1,o2,o3,o4,o5⟩ (yielded ops a.tmps)=false:=by rfl)
 (hl:l.setIfInBounds i true=l2:=by simp only[List.setIfInBounds_toArray,List.set] <;> rfl) (ha:a.put (some d) undef=a2:=by simp only[Act.put,List.setIfInBounds_toArray,List.set] <;> rfl)
 (hs:Region.noSelect ops=true:=by kernel_rfl) (hf:Region.free md ops l i=true:=by kernel_rfl) (hr:(Region.ready md ops l).contains i=true:=by kernel_rfl)
 (hQ:∀ c a w,Q (.panic c) (a.put (some d) undef) w→Q (.panic c) a w:=by exact fun _ _ _ h=>h):wpAnyH P md ops Q S (n+1) l a w:=wpAnyH_take hi hs hf hr hQ (.inr ⟨hw,rfl⟩) hS (by rw[hl,ha];exact h)
end
theorem sA {α:Type} (l:List α) (i:Nat) (x:α):l.toArray.setIfInBounds i x=(l.set i x).toArray:=List.setIfInBounds_toArray ..
end
section
open Go.RowKit
structure Vl where
 op:Int
 a:Int
 b:Int
 n:Int
 l:List Int
structure Fnc where
 ty:Int
 loc:List Int
 code:List Vl
structure Dat where
 act:Bool
 mem:Int
 pos:Int
 bytes:List Nat
structure Vt where
 types:List (List Int×List Int)
 imps:List (ByteArray×ByteArray×Int)
 funs:List Fnc
 mems:List (Int×Int)
 globs:List (Int×Bool×Int)
 exps:List (ByteArray×Int×Int)
 datas:List Dat
 cus:List (ByteArray×List Nat)
def wordZ (z:Int):Prop:=0≤z∧z≤18446744073709551615
def fitN (n:Nat):Prop:=n * 8≤140737488355328
def BytesK (K:Nat→Prop) (w:World) (v:Value) (l:List Nat):Prop :=
 ∃ A c,v=.slice A l.length c∧l.length≤maxLen∧l.length≤c∧(A=none→c=0)∧(0<l.length→∃ g o:Nat,A=some ⟨g,o,none⟩∧K g∧∀ j,j<l.length→w.cell? ⟨g,o+j,none⟩=some (.int .u8 ((l.getD j 0:Nat):Int)))∧∀ b ∈ l,b<256
theorem BytesK.keep {K K':Nat→Prop} {w w':World} {v:Value} {l:List Nat} (h:BytesK K w v l) (hk:We K w w') (hm:∀ k,K k→K' k):BytesK K' w' v l:=by
 obtain⟨A,c,rfl,h1,hc,h0,h3,hb⟩:=h;refine⟨A,c,rfl,h1,hc,h0,fun hl=>?_,hb⟩;exact ZcT
theorem BytesK.nil (K:Nat→Prop) (w:World):BytesK K w (.slice none 0 0) []:=⟨none,0,rfl,nZ _,nZ _,fun _=>rfl,fun h=>by simp at h,fun _ h=>by cases h⟩
def insCell (K:Nat→Prop) (w:World) (x:Vl):Nat→Value→Prop
 | 0,u=>u=.int .i64 x.op
 | 1,u=>u=.int .i64 x.a
 | 2,u=>u=.int .i64 x.b
 | 3,u=>u=.int .u64 x.n∧wordZ x.n
 | _,u=>Wf K w u x.l∧fitN x.l.length
def Un:Vl:=⟨0,0,0,0,[]⟩
def Uc (K:Nat→Prop) (w:World) (v:Value) (c:List Vl):Prop:=Wd K w v c.length 5 fun j i u=>insCell K w (c.getD j Un) i u
theorem insCell.keep {K K':Nat→Prop} {w w':World} {x:Vl} {i:Nat} {u:Value} (h:insCell K w x i u) (hk:We K w w') (hm:∀ k,K k→K' k):insCell K' w' x i u:=by
 match i,h with
 | 0,h=>exact h
 | 1,h=>exact h
 | 2,h=>exact h
 | 3,h=>exact h
 | _+4,h=>exact⟨Wf.keep h.1 hk hm,h.2⟩
theorem Uc.keep {K K':Nat→Prop} {w w':World} {v:Value} {c:List Vl} (h:Uc K w v c) (hk:We K w w') (hm:∀ k,K k→K' k):Uc K' w' v c :=
 Wd.keep h hk hm fun _ _ _ h=>h.keep hk hm
def fncCell (K:Nat→Prop) (w:World) (x:Fnc):Nat→Value→Prop
 | 0,u=>u=.int .i64 x.ty
 | 1,u=>Wf K w u x.loc
 | _,u=>Uc K w u x.code
def WW:Fnc:=⟨0,[],[]⟩
def FunsK (K:Nat→Prop) (w:World) (v:Value) (l:List Fnc):Prop:=Wd K w v l.length 3 fun j i u=>fncCell K w (l.getD j WW) i u
theorem fncCell.keep {K K':Nat→Prop} {w w':World} {x:Fnc} {i:Nat} {u:Value} (h:fncCell K w x i u) (hk:We K w w') (hm:∀ k,K k→K' k):fncCell K' w' x i u:=by
 match i,h with
 | 0,h=>exact h
 | 1,h=>exact Wf.keep h hk hm
 | _+2,h=>exact Uc.keep h hk hm
theorem FunsK.keep {K K':Nat→Prop} {w w':World} {v:Value} {l:List Fnc} (h:FunsK K w v l) (hk:We K w w') (hm:∀ k,K k→K' k):FunsK K' w' v l :=
 Wd.keep h hk hm fun _ _ _ h=>h.keep hk hm
def impCell (x:ByteArray×ByteArray×Int):Nat→Value→Prop
 | 0,u=>u=.string x.1
 | 1,u=>u=.string x.2.1
 | _,u=>u=.int .i64 x.2.2
def ImpsK (K:Nat→Prop) (w:World) (v:Value) (l:List (ByteArray×ByteArray×Int)):Prop:=Wd K w v l.length 3 fun j i u=>impCell (l.getD j (ByteArray.empty,ByteArray.empty,0)) i u
def memCell (x:Int×Int):Nat→Value→Prop
 | 0,u=>u=.int .i64 x.1
 | _,u=>u=.int .i64 x.2
def MemsK (K:Nat→Prop) (w:World) (v:Value) (l:List (Int×Int)):Prop:=Wd K w v l.length 2 fun j i u=>memCell (l.getD j (0,0)) i u
def globCell (x:Int×Bool×Int):Nat→Value→Prop
 | 0,u=>u=.int .i64 x.1
 | 1,u=>u=.bool x.2.1
 | _,u=>u=.int .u64 x.2.2∧wordZ x.2.2
def GlobsK (K:Nat→Prop) (w:World) (v:Value) (l:List (Int×Bool×Int)):Prop:=Wd K w v l.length 3 fun j i u=>globCell (l.getD j (0,false,0)) i u
def expCell (x:ByteArray×Int×Int):Nat→Value→Prop
 | 0,u=>u=.string x.1
 | 1,u=>u=.int .i64 x.2.1
 | _,u=>u=.int .i64 x.2.2
def ExpsK (K:Nat→Prop) (w:World) (v:Value) (l:List (ByteArray×Int×Int)):Prop:=Wd K w v l.length 3 fun j i u=>expCell (l.getD j (ByteArray.empty,0,0)) i u
def dat0:Dat:=⟨false,0,0,[]⟩
def datCell (K:Nat→Prop) (w:World) (x:Dat):Nat→Value→Prop
 | 0,u=>u=.bool x.act
 | 1,u=>u=.int .i64 x.mem
 | 2,u=>u=.int .i64 x.pos
 | _,u=>BytesK K w u x.bytes
def DatasK (K:Nat→Prop) (w:World) (v:Value) (l:List Dat):Prop:=Wd K w v l.length 4 fun j i u=>datCell K w (l.getD j dat0) i u
theorem datCell.keep {K K':Nat→Prop} {w w':World} {x:Dat} {i:Nat} {u:Value} (h:datCell K w x i u) (hk:We K w w') (hm:∀ k,K k→K' k):datCell K' w' x i u:=by
 match i,h with
 | 0,h=>exact h
 | 1,h=>exact h
 | 2,h=>exact h
 | _+3,h=>exact BytesK.keep h hk hm
theorem DatasK.keep {K K':Nat→Prop} {w w':World} {v:Value} {l:List Dat} (h:DatasK K w v l) (hk:We K w w') (hm:∀ k,K k→K' k):DatasK K' w' v l :=
 Wd.keep h hk hm fun _ _ _ h=>h.keep hk hm
def cusCell (K:Nat→Prop) (w:World) (x:ByteArray×List Nat):Nat→Value→Prop
 | 0,u=>u=.string x.1
 | _,u=>BytesK K w u x.2
def CusK (K:Nat→Prop) (w:World) (v:Value) (l:List (ByteArray×List Nat)):Prop:=Wd K w v l.length 2 fun j i u=>cusCell K w (l.getD j (ByteArray.empty,[])) i u
theorem cusCell.keep {K K':Nat→Prop} {w w':World} {x:ByteArray×List Nat} {i:Nat} {u:Value} (h:cusCell K w x i u) (hk:We K w w') (hm:∀ k,K k→K' k):cusCell K' w' x i u:=by
 match i,h with
 | 0,h=>exact h
 | _+1,h=>exact BytesK.keep h hk hm
theorem CusK.keep {K K':Nat→Prop} {w w':World} {v:Value} {l:List (ByteArray×List Nat)} (h:CusK K w v l) (hk:We K w w') (hm:∀ k,K k→K' k):CusK K' w' v l :=
 Wd.keep h hk hm fun _ _ _ h=>h.keep hk hm
structure Mv where
 m0:Value
 m1:Value
 m2:Value
 m3:Value
 m4:Value
 m5:Value
 m6:Value
 m7:Value
def Mv.cells (v:Mv):Array Value:=#[v.m0,v.m1,v.m2,v.m3,v.m4,v.m5,v.m6,v.m7]
structure W7 (K:Nat→Prop) (w:World) (v:Mv) (m:Vt):Prop where
 types:UN K w v.m0 m.types
 imps:ImpsK K w v.m1 m.imps
 funs:FunsK K w v.m2 m.funs
 mems:MemsK K w v.m3 m.mems
 globs:GlobsK K w v.m4 m.globs
 exps:ExpsK K w v.m5 m.exps
 datas:DatasK K w v.m6 m.datas
 cus:CusK K w v.m7 m.cus
theorem W7.keep {K K':Nat→Prop} {w w':World} {v:Mv} {m:Vt} (h:W7 K w v m) (hk:We K w w') (hm:∀ k,K k→K' k):W7 K' w' v m :=
 ⟨h.types.keep hk hm,h.imps.keep hk hm (fun _ _ _ h=>h),h.funs.keep hk hm,h.mems.keep hk hm (fun _ _ _ h=>h),h.globs.keep hk hm (fun _ _ _ h=>h),h.exps.keep hk hm (fun _ _ _ h=>h),h.datas.keep hk hm,h.cus.keep hk hm⟩
theorem owns_cellsK {K:Nat→Prop} {w:World} {base size:Nat} {e:TypeId} {v:Value} {n:Nat} {xs:List Value} (h:w.ownsRow base e size v n xs) (f:Nat→Nat→Value→Prop) (hK:∀ g,v.ownBlock=some g→K g) (hf:∀ j i,j<n→i<size→∃ u,xs[j * size+i]?=some u∧f j i u):Wd K w v n size f:=by
 have hl:=h.1;rcases h.2 with ⟨rfl,rfl⟩|⟨g,cap,cur,rfl,h1,h2,h3,h4,h5,h6⟩
 ·exact⟨none,0,rfl,nR _,nZ _,fun _=>rfl,fun h=>by omega⟩
 ·refine⟨_,cap,rfl,h3,h4,(fun h=>by cases h),fun _=>⟨g,0,rfl,hK g rfl,fun j i hj hi=>?_⟩⟩;obtain⟨u,k1,k2⟩:=hf j i hj hi;have hlt:j * size+i<n * size:=by
   have:(j+1) * size≤n * size:=Nat.mul_le_mul_right size hj;rw[Nat.succ_mul]at this;omega
  exact⟨u,by rw[Nat.zero_add,h.cellAt _ hlt];exact k1,k2⟩
theorem len8 (m:Vt):(∃ n,m.types.length=n)∧(∃ n,m.imps.length=n)∧(∃ n,m.funs.length=n)∧(∃ n,m.mems.length=n)∧(∃ n,m.globs.length=n)∧(∃ n,m.exps.length=n)∧(∃ n,m.datas.length=n)∧(∃ n,m.cus.length=n):=⟨⟨_,rfl⟩,⟨_,rfl⟩,⟨_,rfl⟩,⟨_,rfl⟩,⟨_,rfl⟩,⟨_,rfl⟩,⟨_,rfl⟩,⟨_,rfl⟩⟩
end
end Go.Proofs.YtmfpnfdinoofpaaGreatDoor
