/- A part of the proof. -/
import Derived.Test.YtmfpnfdinoofpaaGreatDoorJ51
import Derived.Test.YtmfpnfdinoofpaaGreatDoorJ50
namespace Go.Proofs.YtmfpnfdinoofpaaGreatDoor
section
open Go.RowKit
theorem owns_pre {w w':World} {e:TypeId} {size:Nat} {v v2:Value} {n m:Nat} {xs ys:List Value} (h:w.ownsRow 0 e size v n xs) (h2:w.ownsRow 0 e size v2 m (xs++ys)) (hb:v2.ownBlock=v.ownBlock) (hnm:n≤m) (hs:0<size) (h2':w'.ownsRow 0 e size v2 m (xs++ys)):w'.ownsRow 0 e size v n xs:=by
 rcases h.2 with ⟨rfl,rfl⟩|⟨g,cap,cur,rfl,_,h3,h4,h5,h6,_⟩
 ·exact⟨h.1,.inl ⟨rfl,rfl⟩⟩
 ·rcases h2.2 with ⟨rfl,_⟩|⟨g2,cap2,cur2,rfl,_,k3,_,_,k6,_⟩
  ·cases hb
  ·obtain rfl:g2=g:=Option.some.inj hb;rw[h3]at k3;simp only[Option.some.injEq,Obj.cells.injEq]at k3;obtain⟨rfl,_⟩:=k3;obtain rfl:cap=cap2:=Nat.eq_of_mul_eq_mul_right hs (h6.symm.trans k6);have:=owns_cut h2' hnm
   rwa [List.take_append_of_le_length (by rw[h.1];exact nR _),List.take_of_length_le (by rw[h.1];exact nR _)]at this
theorem Wf.at0 {K:Nat→Prop} {w:World} {v:Value} {l:List Int} (h:Wf K w v l):∃ A c,v=.slice A l.length c:=by obtain⟨A,c,h,_⟩:=h.form;exact⟨A,c,h⟩
structure U0 (W w:World) (v:Value) (c:List Vl) (xs:List Value):Prop where
 own:w.ownsRow 0 25 5 v c.length xs
 ins:InsIn (fun k=>k<w.heap.size∧v.ownBlock≠some k) w c.length xs c
 nw:∀ g,v.ownBlock=some g→W.heap.size≤g
 bl:Below W.heap.size W w
 z:∀ x ∈ c,x.n=0
theorem InsIn.keep {K K':Nat→Prop} {w w':World} {n:Nat} {xs:List Value} {c:List Vl} (h:InsIn K w n xs c) (hk:We K w w') (hm:∀ k,K k→K' k):InsIn K' w' n xs c :=
 ⟨h.1,fun j i hj hi=>by obtain⟨u,h1,h2⟩:=h.2 j i hj hi;exact⟨u,h1,h2.keep hk hm⟩⟩
theorem U0.nil {W w:World} (hb:Below W.heap.size W w):U0 W w (.slice none 0 0) [] [] :=
 ⟨World.ownsRow_nil _ _ _ _,⟨rfl,fun j i hj=>by simp at hj⟩,fun g hg=>(by cases hg),hb,fun x hx=>by cases hx⟩
theorem U0.below {W w w':World} {v:Value} {c:List Vl} {xs:List Value} (h:U0 W w v c xs) (hb:Below w.heap.size w w'):U0 W w' v c xs :=
 ⟨W8 h.own hb,h.ins.keep (We.below hb fun _ hk=>hk.1) fun _ hk=>⟨Ve hk.1 hb.size,hk.2⟩,h.nw,h.bl.trans (hb.mono h.bl.size),h.z⟩
theorem U0.other {W w w':World} {v:Value} {c:List Vl} {xs:List Value} (h:U0 W w v c xs) (hk:We (fun k=>k<w.heap.size∧v.ownBlock≠some k) w w') (ho:w'.ownsRow 0 25 5 v c.length xs):U0 W w' v c xs :=
 ⟨ho,h.ins.keep hk fun _ hk'=>⟨Ve hk'.1 hk.size,hk'.2⟩,h.nw,h.bl.trans (hk.to_below (B:=W.heap.size) fun k hk'=>⟨Ve hk' h.bl.size,fun e=>by have:=h.nw k e;omega⟩),h.z⟩
theorem U0.push {W w w':World} {v v':Value} {c:List Vl} {xs:List Value} (h:U0 W w v c xs) (x:Vl) (lab:Value) (hl:Wf (fun k=>k<w.heap.size∧v.ownBlock≠some k) w lab x.l) (hf:x.l.length≤1000) (hz:x.n=0)
 (ho:w'.ownsRow 0 25 5 v' (c.length+1) (xs++[.int .i64 x.op,.int .i64 x.a,.int .i64 x.b,.int .u64 x.n,lab])) (hg:w.grownBy w' v.ownBlock) (hat:v'.ownBlock=v.ownBlock∨v'.ownBlock=some w.heap.size) :
 U0 W w' v' (c++[x]) (xs++[.int .i64 x.op,.int .i64 x.a,.int .i64 x.b,.int .u64 x.n,lab]):=by
 have hk:We (fun k=>k<w.heap.size∧v.ownBlock≠some k) w w':=.grown hg (fun k hk=>hk.1) fun k e hk=>hk.2 e;have hm:∀ k,(k<w.heap.size∧v.ownBlock≠some k)→(k<w'.heap.size∧v'.ownBlock≠some k):=fun k hk'=>⟨Ve hk'.1 hg.size,fun e=>by
  rcases hat with e1|e1
  ·exact hk'.2 (e1 ▸ e)
  ·have:=e1.symm.trans e;simp only[Option.some.injEq]at this;omega⟩
 have hnw:∀ g,v'.ownBlock=some g→W.heap.size≤g:=fun g hg'=>by
  rcases hat with e1|e1
  ·exact h.nw g (e1 ▸ hg')
  ·have:=e1.symm.trans hg';simp only[Option.some.injEq]at this;have:=h.bl.size;omega
 have hxl:=h.own.1;refine⟨by rw[List.length_append];exact ho,⟨rfl,fun j i hj hi=>?_⟩,hnw,h.bl.trans (hk.to_below (B:=W.heap.size) fun k hk'=>⟨Ve hk' h.bl.size,fun e=>by have:=h.nw k e;omega⟩),fun y hy=>?_⟩
 ·rw[List.length_append]at hj;by_cases hjn:j<c.length
  ·obtain⟨u,h1,h2⟩:=h.ins.2 j i hjn hi;refine⟨u,by rw[List.getElem?_append_left (by omega)];exact h1,?_⟩;rw[show(c++[x]).getD j Un=c.getD j Un by rw[List.getD_eq_getElem?_getD,List.getElem?_append_left hjn,← List.getD_eq_getElem?_getD]];exact h2.keep hk hm
  ·obtain rfl:j=c.length:=by have:j<c.length+1:=hj;omega
   rw[List.getElem?_append_right (by omega),hxl,show c.length * 5+i - c.length * 5=i by omega,show(c++[x]).getD c.length Un=x by rw[List.getD_eq_getElem?_getD,List.getElem?_append_right (by omega)];simp];rcases(show i=0∨i=1∨i=2∨i=3∨i=4 by omega) with rfl|rfl|rfl|rfl|rfl
   ·exact⟨_,rfl,rfl⟩
   ·exact⟨_,rfl,rfl⟩
   ·exact⟨_,rfl,rfl⟩
   ·exact⟨_,rfl,rfl,by rw[hz];unfold wordZ;decide⟩
   ·exact⟨_,rfl,hl.keep hk hm,by unfold fitN;omega⟩
 ·rcases List.mem_append.1 hy with hy|hy
  ·exact h.z y hy
  ·rw[List.mem_singleton.1 hy];exact hz
theorem U0.aside {W w w1 w2:World} {v v1:Value} {c:List Vl} {xs ys:List Value} {m:Nat} (h:U0 W w v c xs) (hg:w.grownBy w1 v.ownBlock) (hat:v1.ownBlock=v.ownBlock∨v1.ownBlock=some w.heap.size) (ho:w1.ownsRow 0 25 5 v c.length xs) (h1:w1.ownsRow 0 25 5 v1 m (xs++ys)) (hm:c.length≤m)
 (hk:We (fun k=>k<w1.heap.size∧v1.ownBlock≠some k) w1 w2) (h2:w2.ownsRow 0 25 5 v1 m (xs++ys)):U0 W w2 v c xs:=by
 have hk0:We (fun k=>k<w.heap.size∧v.ownBlock≠some k) w w1:=.grown hg (fun k hk=>hk.1) fun k e hk=>hk.2 e;have hkk:We (fun k=>k<w.heap.size∧v.ownBlock≠some k) w w2:=hk0.trans (hk.mono fun k hk'=>⟨Ve hk'.1 hg.size,fun e=>by
  rcases hat with e1|e1
  ·exact hk'.2 (e1 ▸ e)
  ·have:=e1.symm.trans e;simp only[Option.some.injEq]at this;omega⟩)
 refine h.other hkk ?_;rcases hat with e|e
 ·exact owns_pre ho h1 e hm (by decide) h2
 ·exact VE ho hk fun g hg'=>⟨(ho.lt g hg').2,fun e1=>by
   have h3:=e.symm.trans e1;simp only[Option.some.injEq]at h3;have:=(h.own.lt g hg').2;omega⟩
structure BoxAt (wd wx:World) (z ai:Int) (lab:Value) (ll:List Int):Prop where
 hb:wx.heap[wd.heap.size]?=some (.cells #[.int .i64 z,.int .i64 ai,.int .i64 0,.int .u64 0,lab] 25 (0,0))
 bl:Below wd.heap.size wd wx
 lk:Wf (fun k=>wd.heap.size<k∧k<wx.heap.size) wx lab ll
 l2:ll.length≤2
theorem BoxAt.first (wd:World) (z ai:Int):BoxAt wd (wd.alloc (.cells #[.int .i64 z,.int .i64 ai,.int .i64 0,.int .u64 0,.slice none 0 0] 25)) z ai (.slice none 0 0) [] :=
 ⟨Vj wd _,Wb (bR _ _) _,Wf.nil _ _,nZ _⟩
theorem BoxAt.setA {wd wx:World} {z ai:Int} {lab:Value} {ll:List Int} (h:BoxAt wd wx z ai lab ll) (u:Int):BoxAt wd (wx.setCell ⟨wd.heap.size,1,none⟩ (.int .i64 u)) z u lab ll:=by
 have hk:We (fun b=>b≠wd.heap.size) wx (wx.setCell ⟨wd.heap.size,1,none⟩ (.int .i64 u)):=.setCell wx (fun e=>e rfl) _;have hs:(wx.setCell ⟨wd.heap.size,1,none⟩ (.int .i64 u)).heap.size=wx.heap.size:=by simp[World.setCell]
 exact⟨Wg wx _ 1 _ _ _ h.hb,h.bl.trans ((hk.mono (K':=fun b=>b<wd.heap.size) fun b hb=>by omega).to_below fun b hb=>hb),h.lk.keep (hk.mono fun b hb=>by omega) fun b hb=>⟨hb.1,by rw[hs];exact hb.2⟩,h.l2⟩
theorem BoxAt.setL {wd wx:World} {z ai:Int} {lab:Value} {ll:List Int} (h:BoxAt wd wx z ai lab ll) (x u:Int) :
 BoxAt wd ((((((wx.alloc (.cells #[.int .i64 0,.int .i64 u] 3)).setCell ⟨wd.heap.size,0,none⟩ (.int .i64 x)).setCell ⟨wd.heap.size,1,none⟩ (.int .i64 0)).setCell ⟨wd.heap.size,2,none⟩ (.int .i64 0)).setCell ⟨wd.heap.size,3,none⟩ (.int .u64 0)).setCell ⟨wd.heap.size,4,none⟩ (.slice (some ⟨wx.heap.size,0,none⟩) 2 2)) x 0 (.slice (some ⟨wx.heap.size,0,none⟩) 2 2) [0,u]:=by
 have hlt:wd.heap.size<wx.heap.size:=(Array.getElem?_eq_some_iff.1 h.hb).1;have hn:=Vj wx (.cells #[.int .i64 0,.int .i64 u] 3);have hs0:(wx.alloc (.cells #[.int .i64 0,.int .i64 u] 3)).heap.size=wx.heap.size+1:=by rw[Wj]
 have hb0:=((Wb (bR wx.heap.size wx) (.cells #[.int .i64 0,.int .i64 u] 3)).block _ hlt).trans h.hb;have hbl:=h.bl.trans ((Wb (bR wx.heap.size wx) (.cells #[.int .i64 0,.int .i64 u] 3)).mono h.bl.size);generalize wx.alloc (.cells #[.int .i64 0,.int .i64 u] 3)=w1 at hn hb0 hbl hs0 ⊢;have h1:=Wg w1 _ 0 _ _ (.int .i64 x) hb0;have h2:=Wg _ _ 1 _ _ (.int .i64 0) h1;have h3:=Wg _ _ 2 _ _ (.int .i64 0) h2;have h4:=Wg _ _ 3 _ _ (.int .u64 0) h3;have h5:=Wg _ _ 4 _ _ (.slice (some ⟨wx.heap.size,0,none⟩) 2 2) h4;have hk:=keeps5 w1 wd.heap.size (.int .i64 x) (.int .i64 0) (.int .i64 0) (.int .u64 0) (.slice (some ⟨wx.heap.size,0,none⟩) 2 2);refine⟨h5,hbl.trans ((hk.mono (K':=fun b=>b<wd.heap.size) fun b hb=>by omega).to_below fun b hb=>hb),⟨_,2,rfl,by show 2≤maxLen;unfold maxLen;decide,fun e=>(by cases e),fun _=>⟨wx.heap.size,0,rfl,⟨hlt,by have:=hk.size;omega⟩,fun j hj=>?_⟩⟩,by show 2≤2;decide⟩;rw[Nat.zero_add,hk.cell (p:=⟨wx.heap.size,j,none⟩) (by show wx.heap.size≠wd.heap.size;omega)];rcases(show j=0∨j=1 by have:j<2:=hj;omega) with rfl|rfl <;> simp[World.cell?,hn]
theorem few_one (t:List Int×List Int) (c:List Vl):Few (oneM t c):=by unfold Few oneM;simp
theorem typed_one {t:List Int×List Int} {c:List Vl} (h:∀ x ∈ c,x.n=0):TypedM (oneM t c):=fun f hf x hx=>by
 have hf:f=⟨0,[124],c++[⟨11,0,0,0,[]⟩]⟩:=by simpa [oneM] using hf
 subst hf;rcases List.mem_append.1 hx with hx|hx
 ·rw[h x hx];exact⟨by decide,by decide⟩
 ·rw[List.mem_singleton.1 hx];exact⟨by decide,by decide⟩
end
section
open Go.RowKit
set_option maxHeartbeats 4000000
set_option maxRecDepth 100000
theorem Z6 {P:Prop}(h:P:=by
 go_wp2_with (go_at_call 20;refine(HMB.out _ HB1.out).mono ?_;rintro e w2 ⟨rfl,hb2⟩;have HB2:=hD hb2;clear hb2)
 go_ret;exact⟨rfl,Wa HBW.out (Wa HBL.out (Wa HB1.out HB2.out))⟩):P:=h
theorem Tryz.infoFunc:(Tryz.prog.info? 68).map (fun i=>(i.zero,i.size,i.bytes))=some (some (.agg #[.int .i64 0,.slice none 0 0,.slice none 0 0]),3,56):=by kernel_rfl
def bareF (f:Fnc):Fnc:=⟨f.ty,f.loc,[⟨0,0,0,0,[]⟩,⟨11,0,0,0,[]⟩]⟩
def bareM (m:Vt):Vt:={ m with funs:=m.funs.map bareF }
def bareC:Array Value:=#[.int .i64 0,.int .i64 0,.int .i64 0,.int .u64 0,.slice none 0 0,.int .i64 11,.int .i64 0,.int .i64 0,.int .u64 0,.slice none 0 0]
theorem bareC_code {K:Nat→Prop} {w:World} {g:Nat} (h:w.heap[g]?=some (.cells bareC 25 (0,0))) (hK:K g):Uc K w (.slice (some ⟨g,0,none⟩) 2 2) [⟨0,0,0,0,[]⟩,⟨11,0,0,0,[]⟩]:=by
 refine⟨_,2,rfl,nR _,by unfold maxLen;decide,fun h=>(by cases h),fun _=>⟨g,0,rfl,hK,fun j i hj hi=>?_⟩⟩;have hc:∀ o,w.cell? ⟨g,o,none⟩=bareC[o]?:=fun o=>by simp[World.cell?,h]
 have hj:j=0∨j=1:=by have:j<2:=hj;omega
 have hi:i=0∨i=1∨i=2∨i=3∨i=4:=by omega
 rw[hc];rcases hj with rfl|rfl <;> rcases hi with rfl|rfl|rfl|rfl|rfl
 all_goals first
  | exact⟨_,rfl,rfl⟩
  | exact⟨_,rfl,rfl,by unfold wordZ;decide⟩
  | exact⟨_,rfl,Wf.nil _ _,by unfold fitN;decide⟩
structure BareAt (W w:World) (bc:Value→Array Value) (fs:List Fnc) (k:Nat) (rv:Value) (xs:List Value):Prop where
 hb:w.heap[W.heap.size]?=some (.cells (bc rv) 37 (0,0))
 own:w.ownsRow 0 68 3 rv k xs
 nw:∀ g,rv.ownBlock=some g→W.heap.size<g
 bl:Below W.heap.size W w
 fr:∀ j i,j<k→i<3→∃ u,xs[j * 3+i]?=some u∧fncCell (fun b=>b<w.heap.size∧b≠W.heap.size∧rv.ownBlock≠some b) w (bareF (fs.getD j WW)) i u
theorem BareAt.below {W w w':World} {bc:Value→Array Value} {fs:List Fnc} {k:Nat} {rv:Value} {xs:List Value} (h:BareAt W w bc fs k rv xs) (hb:Below w.heap.size w w'):BareAt W w' bc fs k rv xs :=
 ⟨(hb.block _ (Array.getElem?_eq_some_iff.1 h.hb).1).trans h.hb,W8 h.own hb,h.nw,h.bl.trans (hb.mono h.bl.size),fun j i hj hi=>by
  obtain⟨u,h1,h2⟩:=h.fr j i hj hi;exact⟨u,h1,h2.keep (We.below hb fun _ hk=>hk.1) fun b hk=>⟨Ve hk.1 hb.size,hk.2⟩⟩⟩
theorem BareAt.first (W:World) (bc:Value→Array Value) (fs:List Fnc) {w:World} (hw:w.heap[W.heap.size]?=some (.cells (bc (.slice none 0 0)) 37 (0,0))) (hb:Below W.heap.size W w):BareAt W w bc fs 0 (.slice none 0 0) [] :=
 ⟨hw,World.ownsRow_nil _ _ _ _,fun g hg=>(by cases hg),hb,fun j i hj=>by omega⟩
theorem BareAt.step {W w2 w3:World} {bc:Value→Array Value} {fs:List Fnc} {k:Nat} {rv rv':Value} {xs:List Value} (h:BareAt W w2 bc fs k rv xs) (hbc:∀ r r',(bc r).setIfInBounds 2 r'=bc r') (u0 u1 u2:Value)
 (hu:∀ i,i<3→fncCell (fun b=>b<w2.heap.size∧b≠W.heap.size∧rv.ownBlock≠some b) w2 (bareF (fs.getD k WW)) i (match i with|0=>u0|1=>u1|_=>u2))
 (hg:w2.grownBy w3 rv.ownBlock) (ho:w3.ownsRow 0 68 3 rv' (k+1) (xs++[u0,u1,u2])) (hat:rv'.ownBlock=rv.ownBlock∨rv'.ownBlock=some w2.heap.size) :
 BareAt W (w3.setCell ⟨W.heap.size,2,none⟩ rv') bc fs (k+1) rv' (xs++[u0,u1,u2]):=by
 have hW2:W.heap.size<w2.heap.size:=(Array.getElem?_eq_some_iff.1 h.hb).1;have hnW:rv.ownBlock≠some W.heap.size:=fun e=>by have:=h.nw _ e;omega
 have hb3:w3.heap[W.heap.size]?=some (.cells (bc rv) 37 (0,0)):=((We.grown (K:=fun b=>b=W.heap.size) hg (fun b e=>e ▸ hW2) fun b e hk=>hnW (hk ▸ e)).block _ rfl).trans h.hb;have hnw':∀ g,rv'.ownBlock=some g→W.heap.size<g:=fun g hg'=>by
  rcases hat with e|e
  ·exact h.nw g (e ▸ hg')
  ·have:=e.symm.trans hg';simp only[Option.some.injEq]at this;omega
 have hk0:We (fun b=>b≠W.heap.size) w3 (w3.setCell ⟨W.heap.size,2,none⟩ rv'):=.setCell w3 (fun e=>e rfl) rv';have hsz:(w3.setCell ⟨W.heap.size,2,none⟩ rv').heap.size=w3.heap.size:=by simp[World.setCell]
 have hk:We (fun b=>b<w2.heap.size∧b≠W.heap.size∧rv.ownBlock≠some b) w2 (w3.setCell ⟨W.heap.size,2,none⟩ rv'):=(We.grown (K:=fun b=>b<w2.heap.size∧b≠W.heap.size∧rv.ownBlock≠some b) hg (fun b hb=>hb.1) fun b e hb=>hb.2.2 e).trans (hk0.mono fun b hb=>hb.2.1);have hm:∀ b,(b<w2.heap.size∧b≠W.heap.size∧rv.ownBlock≠some b)→(b<(w3.setCell ⟨W.heap.size,2,none⟩ rv').heap.size∧b≠W.heap.size∧rv'.ownBlock≠some b):=fun b hb=>⟨by rw[hsz];exact Ve hb.1 hg.size,hb.2.1,fun e=>by
  rcases hat with e1|e1
  ·exact hb.2.2 (e1 ▸ e)
  ·have:=e1.symm.trans e;simp only[Option.some.injEq]at this;omega⟩
 refine⟨by rw[Wg w3 _ 2 _ _ rv' hb3,hbc],VE ho hk0 fun g hg'=>by have:=hnw' g hg';omega,hnw',(h.bl.trans (((We.grown (K:=fun b=>b<W.heap.size) hg (fun b hb=>by omega) fun b e hb=>by have:=h.nw b e;omega).trans (hk0.mono fun b hb=>by omega)).to_below fun b hb=>hb)),fun j i hj hi=>?_⟩;have hl:=h.own.1;by_cases hjk:j<k
 ·obtain⟨u,h1,h2⟩:=h.fr j i hjk hi;exact⟨u,by rw[List.getElem?_append_left (by omega)];exact h1,h2.keep hk hm⟩
 ·obtain rfl:k=j:=by omega
  rw[List.getElem?_append_right (by omega),hl,show k * 3+i - k * 3=i by omega];have h3:=(hu i hi).keep hk hm;rcases(show i=0∨i=1∨i=2 by omega) with rfl|rfl|rfl
  ·exact⟨u0,rfl,h3⟩
  ·exact⟨u1,rfl,h3⟩
  ·exact⟨u2,rfl,h3⟩
theorem BareAt.modAt {W w:World} {bc:Value→Array Value} {m:Vt} {v:Mv} {rv:Value} {xs:List Value} (h:BareAt W w bc m.funs m.funs.length rv xs) (hm:W7 (fun k=>k<w.heap.size) w v m):W7 (fun k=>k<w.heap.size) w { v with m2:=rv } (bareM m) :=
 ⟨hm.types,hm.imps,by
  show Wd _ _ _ (m.funs.map bareF).length 3 _;rw[List.length_map];exact owns_cellsK h.own _ (fun g hg=>(h.own.lt g hg).2) fun j i hj hi=>by
   obtain⟨u,h1,h2⟩:=h.fr j i hj hi;refine⟨u,h1,?_⟩;have e:(m.funs.map bareF).getD j WW=bareF (m.funs.getD j WW):=by
    rw[List.getD_eq_getElem?_getD,List.getElem?_map,List.getD_eq_getElem?_getD,List.getElem?_eq_getElem hj];rfl
   show fncCell _ _ ((m.funs.map bareF).getD j WW) i u;rw[e];exact h2.keep (We.refl _ _) fun _ hk=>hk.1,hm.mems,hm.globs,hm.exps,hm.datas,hm.cus⟩
theorem rightB_is (m:Vt):WU m=0∨WU m=12∨WU m=13:=by
 unfold WU
 split
 ·split
  ·exact .inl rfl
  ·exact .inr (.inl rfl)
 ·exact .inr (.inr rfl)
theorem matC_is (f:Fnc):UO f=0∨UO f=12∨UO f=26:=by
 unfold UO VY
 split
 ·exact .inr (.inl rfl)
 ·split
  ·exact .inr (.inl rfl)
  ·split
   ·exact .inr (.inl rfl)
   ·split
    ·exact .inr (.inr rfl)
    ·exact .inl rfl
theorem firstC_is {α:Type} {g:α→Int} (h:∀ a,g a=0∨g a=12∨g a=26):∀ l:List α,Vp g l=0∨Vp g l=12∨Vp g l=26
 | []=>.inl rfl
 | a :: l=>by
  unfold Vp
  split
  ·exact firstC_is h l
  ·exact h a
theorem rightB_of {m:Vt} {prof:Int} (hb:VC (bareM m) prof=0) (h12:VC m prof≠12) (h13:VC m prof≠13) (h26:VC m prof≠26):WU m=0∧Vp UO m.funs=0∧Ub m=true:=by
 have hp:¬ (prof≠1∧prof≠2):=fun hp=>by unfold VC at hb;rw[if_pos hp]at hb;cases hb
 have hr:WU m=0:=by
  refine Classical.byContradiction fun hr=>?_;have hv:VC m prof=WU m:=by unfold VC;rw[if_neg hp,if_pos hr]
  rcases rightB_is m with e|e|e
  ·exact hr e
  ·exact h12 (hv.trans e)
  ·exact h13 (hv.trans e)
 have hm:Vp UO m.funs=0:=by
  refine Classical.byContradiction fun hm=>?_;have hv:VC m prof=Vp UO m.funs:=by unfold VC;rw[if_neg hp,if_neg (fun h=>h hr),if_pos hm]
  rcases firstC_is matC_is m.funs with e|e|e
  ·exact hm e
  ·exact h12 (hv.trans e)
  ·exact h26 (hv.trans e)
 refine⟨hr,hm,?_⟩;have hbr:WU (bareM m)=0:=by
  refine Classical.byContradiction fun h=>?_;unfold VC at hb;rw[if_neg hp,if_pos h]at hb;exact h hb
 have hbm:Vp UO (bareM m).funs=0:=by
  refine Classical.byContradiction fun h=>?_;unfold VC at hb;rw[if_neg hp,if_neg (fun h'=>h' hbr),if_pos h]at hb;exact h hb
 have hba:V8 (bareM m) prof=0:=by
  refine Classical.byContradiction fun h=>?_;unfold VC at hb;rw[if_neg hp,if_neg (fun h'=>h' hbr),if_neg (fun h'=>h' hbm),if_pos h]at hb;exact h hb
 have ht:=dahead_types hba;unfold Ub bareM at ht;unfold Ub;rw[Bool.and_eq_true]at ht ⊢;refine⟨ht.1,?_⟩;have h2:=ht.2;simp only[List.all_map]at h2;exact h2
theorem funcs10_any (w:World) (v:Mv) (m:Vt) (h:W7 (fun k=>k<w.heap.size) w v m) (hT:TypedM m) (hw:Few m) (hl9:m.funs.length≤900000) (prof:Int) :
 Calls Tryz.prog 8 #[.agg v.cells,.int .i64 prof] w (Wh true w):=by
 have hT':TypedM (bareM m):=fun f hf x hx=>by
  obtain⟨f0,_,rfl⟩:=List.mem_map.1 hf;rcases List.mem_cons.1 hx with rfl|hx
  ·exact⟨by decide,by decide⟩
  ·rw[List.mem_singleton.1 hx];exact⟨by decide,by decide⟩
 have hw':Few (bareM m):=by
  unfold Few at hw ⊢;unfold bareM;simp only[List.length_map];exact hw
 have HK:=fun wz (hb:Below w.heap.size w wz)=>(h.keep (We.below hb fun _ hk=>hk) fun _ hk=>Ve hk hb.size:W7 (fun k=>k<wz.heap.size) wz v m);have HMD:=hD h;have HDM:=hD (fun wz (hb:Below w.heap.size w wz)=>dmodule_any wz v m (HK wz hb) hT hw prof);have HDB:=hD (fun wz vb (hb:W7 (fun k=>k<wz.heap.size) wz vb (bareM m))=>dmodule_any wz vb (bareM m) hb hT' hw' prof);have HRO:=hD (rightB_of (m:=m) (prof:=prof));have HFN:=hD (fun (hr:WU m=0) (hm:Vp UO m.funs=0) (htc:Ub m=true) (f:Int) (hf : -1≤f∧f≤(m.funs.length:Int))=>(by
  refine⟨Uq m f prof,fun wz hb=>func_any steps_all wz v m (HK wz hb) (Uy hr) (right_types hr) f prof fun f hf=>⟨(right_funs hr f hf).2,right_small hr f hf⟩,fun wz hb=>?_⟩;by_cases hin:0≤f∧f<(m.funs.length:Int)
  ·obtain⟨k,rfl⟩:∃ k:Nat,f=(k:Int):=⟨f.toNat,by omega⟩;have hk:k<m.funs.length:=by omega
   obtain⟨t,ht⟩:=fsig_some htc hk;have hmk:=firstC_all hm _ (WA _ _ WW hk);rw[← dfunc_eq hr hk (by rw[ht];rfl) hmk];exact(dfunc_ok wz v m (HK wz hb) (Uy hr) hr k hk t ht hmk prof).mono fun e w' ⟨rv,he,_,hb'⟩=>⟨rv,he,hb'⟩
  ·have hc:Uq m f prof=(-1,1):=by unfold Uq;rw[if_pos];unfold Wi;rcases(show f = -1∨f=(m.funs.length:Int) by omega) with rfl|rfl <;> simp
   rw[hc];exact(dfunc_no wz v m (HK wz hb) f prof (by omega)).mono fun e w' ⟨he,hb'⟩=>⟨_,he,hb'⟩ :
  ∃ r:Int×Int,(∀ wz,Below w.heap.size w wz→Calls Tryz.prog 21 #[.agg v.cells,.int .i64 f,.int .i64 prof] wz (FuncPost r wz))∧∀ wz,Below w.heap.size w wz→Calls Tryz.prog 22 #[.agg v.cells,.int .i64 f,.int .i64 prof] wz (fun e w'=>∃ rv,e=.returned (.tuple #[.int .i64 r.1,.int .i64 r.2,rv])∧Below wz.heap.size wz w')))
 have q2:=h.funs;unfold ModlPost at HDM HDB;unfold FuncPost at HFN;clear hT hw hT' hw' HK;obtain⟨A0,c0,A1,c1,A2,c2,A3,c3,A4,c4,A5,c5,A6,c6,A7,c7,rfl⟩:=Wr h;simp only[Mv.cells]at HDM HFN ⊢;simp only at q2;clear h;obtain⟨⟨n0,hn0⟩,⟨n1,hn1⟩,⟨n2,hn2⟩,⟨n3,hn3⟩,⟨n4,hn4⟩,⟨n5,hn5⟩,⟨n6,hn6⟩,⟨n7,hn7⟩⟩:=len8 m;have HN2:=hD hn2;have HN3:=hD hn3;rw[hn0,hn1,hn2,hn3,hn4,hn5,hn6,hn7]at HDM HFN HMD ⊢;rw[hn2]at hl9;obtain⟨W,hW,hbw,HB8⟩:=Vv w (.slice A0 n0 c0) (.slice A1 n1 c1) (.slice A2 n2 c2) (.slice A3 n3 c3) (.slice A4 n4 c4) (.slice A5 n5 c5) (.slice A6 n6 c6) (.slice A7 n7 c7);have HBW:=hD hbw;have HB8:=hD HB8;have HW:=hD hW;obtain⟨b0,b1,b2,b3,b4,b5,b6,b7⟩:=HB8.out W (bR _ _);clear hbw hW hn0 hn1 hn2 hn3 hn4 hn5 hn6 hn7;obtain⟨bc,hbc⟩:∃ bc:Value→Array Value,bc=fun r=>#[.slice A0 n0 c0,.slice A1 n1 c1,r,.slice A3 n3 c3,.slice A4 n4 c4,.slice A5 n5 c5,.slice A6 n6 c6,.slice A7 n7 c7]:=⟨_,rfl⟩;have HBC:=hD hbc;have HST2:Hid (∀ r r',(bc r).setIfInBounds 2 r'=bc r'):=hD fun r r'=>by rw[hbc];rfl
 obtain⟨W2,hW2⟩:∃ W2,W2=W.alloc (.cells #[.slice A0 n0 c0,.slice A1 n1 c1,.slice none 0 0,.slice A3 n3 c3,.slice A4 n4 c4,.slice A5 n5 c5,.slice A6 n6 c6,.slice A7 n7 c7] 37):=⟨_,rfl⟩;have HBA0:Hid (BareAt W W2 bc m.funs 0 (.slice none 0 0) []):=hD (.first W bc _ (by rw[hW2,hbc];exact Vj W _) (by rw[hW2];exact Wb (bR _ _) _));have HW2:=hD hW2;clear hbc hW2;go_enter Tryz.func8,Tryz.ntmps8
 go_upto_region 1 with (fail)
 rw[← HW.out]
 go_upto_region 3 with (fail)
 rw[← HW2.out];clear b0 b1 b2 b3 b4 b5 b6 b7;obtain⟨b0,b1,b2,b3,b4,b5,b6,b7⟩:=HB8.out W2 HBA0.out.bl;go_wp2_with fail
 clear b0 b1 b2 b3 b4 b5 b6 b7;go_loopw [19] (fun i wr=>∃ (k:Nat) (A:Option Addr) (c:Nat) (xs:List Value),k≤n2∧i=.int .i64 (k:Int)∧Hid (BareAt W wr bc m.funs k (.slice A k c) xs)) (fun i _=>n2 - (intOf i).toNat)
 case atStart=>exact⟨0,none,0,[],nZ _,rfl,HBA0⟩
 case round =>
  obtain⟨w0,rfl⟩:∃ w0,w0=wr:=⟨_,rfl⟩;obtain⟨k,A,c,xs,hk,rfl,HBA⟩:=hrel;by_cases hlt:k<n2
  ·have hd:decide ((k:Int)<(n2:Int))=true:=by simp;omega
   have hd2:decide (k<n2)=true:=by simp;omega
   have hkl:k<m.funs.length:=by rw[HN2.out];exact hlt
   obtain⟨g,o,c',he,hq1,hq2⟩:=Wd.some_ q2 (by omega);simp only[vI]at he;obtain⟨rfl,-,rfl⟩:=he;obtain⟨u0,k0,h0⟩:=Wd.at_ q2 k 0 hkl (by decide);obtain⟨u1,k1,h1⟩:=Wd.at_ q2 k 1 hkl (by decide);have h1:Wf (fun k=>k<w.heap.size) w u1 (m.funs.getD k WW).loc:=h1;obtain rfl:u0=.int .i64 (m.funs.getD k WW).ty:=h0;obtain⟨Al,cl,rfl,_,_⟩:=h1.form;rw[Nat.add_zero]at k0;have HH1:=hD h1;have hbl:=Wa HBW.out HBA.out.bl;have k0':=(hbl.cell (wL w _ k0)).trans k0;have k1':=(hbl.cell (wL w _ k1)).trans k1;obtain⟨b0,b1,b2,b3,b4,b5,b6,b7⟩:=HB8.out w0 HBA.out.bl;have y2:w0.cell? ⟨W.heap.size,2,none⟩=some (.slice A k c):=by simp only[World.cell?,HBA.out.hb];rw[HBC.out];rfl
   have yf:w0.frozen? ⟨W.heap.size,2,none⟩=false:=by simp[World.frozen?,HBA.out.hb]
   have hnW:(Value.slice A k c).ownBlock≠some W.heap.size:=fun e=>by have:=HBA.out.nw _ e;omega
   have hgW:g<W.heap.size:=Ve (wL w _ k0) HBW.out.size;have hwW:w.heap.size<W.heap.size:=by rw[HW.out,Wj];omega
   have hW0:W.heap.size<w0.heap.size:=(Array.getElem?_eq_some_iff.1 HBA.out.hb).1;have hno:∀ b,b<W.heap.size→(Value.slice A k c).ownBlock≠some b:=fun b hb e=>by have:=HBA.out.nw _ e;omega
   obtain⟨ty,hty⟩:∃ ty,(m.funs.getD k WW).ty=ty:=⟨_,rfl⟩;obtain⟨nl,hnl⟩:∃ nl,(m.funs.getD k WW).loc.length=nl:=⟨_,rfl⟩;have HTY:=hD hty;rw[hty]at k0';rw[hnl]at k1' HH1;have HE:Hid (∀ wz,We (fun b=>b<w0.heap.size∧(Value.slice A k c).ownBlock≠some b) w0 wz→wz.cell? ⟨w.heap.size,2,none⟩=some (.slice (some ⟨g,o,none⟩) n2 c2)∧wz.cell? ⟨W.heap.size,2,none⟩=some (.slice A k c)∧wz.cell? ⟨g,o+k * 3,none⟩=some (.int .i64 ty)∧wz.cell? ⟨g,o+k * 3+1,none⟩=some (.slice Al nl cl)):=hD fun wz hz =>
    ⟨(hz.cell (p:=⟨w.heap.size,2,none⟩) ⟨by show w.heap.size<w0.heap.size;omega,hno _ hwW⟩).trans b2,(hz.cell (p:=⟨W.heap.size,2,none⟩) ⟨hW0,hnW⟩).trans y2,(hz.cell (p:=⟨g,o+k * 3,none⟩) ⟨by show g<w0.heap.size;omega,hno _ hgW⟩).trans k0',(hz.cell (p:=⟨g,o+k * 3+1,none⟩) ⟨by show g<w0.heap.size;omega,hno _ hgW⟩).trans k1'⟩
   have HZ:Hid (∀ wz,We (fun b=>b<w0.heap.size∧(Value.slice A k c).ownBlock≠some b) w0 wz→wz.frozen? ⟨W.heap.size,2,none⟩=false):=hD fun wz hz=>(World.frozen?_of_block (w:=w0) (a:=⟨W.heap.size,2,none⟩) (hz.block W.heap.size ⟨hW0,hnW⟩)).trans yf;clear b0 b1 b2 b3 b4 b5 b6 b7 y2 yf k0 k1 k0' k1' h1 hbl hty hnl;have e1:IntKind.i64.wrap ((k:Int)+1)=(k:Int)+1:=IntWalk.i64_in _ (by omega)
   go_upto_region 6 with (fail)
   refine Wm.start (S:=fun wz=>We (fun b=>b<w0.heap.size∧(Value.slice A k c).ownBlock≠some b) w0 wz) (X:=21) (by kernel_rfl) ?_;show Wm _ _ _ _ _ _ 22 #[false,false,false,false,false,false,false,false,false,false,false,false,false,false,false,false,false,false,false,false,false,false] _ _;have hS:We (fun b=>b<w0.heap.size∧(Value.slice A k c).ownBlock≠some b) w0 w0.drew:=.below ((bR _ _).drew) fun _ h=>h.1;have hSB:Below w0.heap.size w0 w0.drew:=(bR _ _).drew;generalize w0.drew=w1 at hS hSB ⊢;refine Wm.tk 0 22 rfl hS ?_;refine Wm.tk 1 23 rfl hS ?_ (hy:=by intro w' hSw;obtain⟨a0,a1,a2,a3⟩:=HE.out w' hSw;go_simp;try with_reducible rfl);refine Wm.tk 2 24 rfl hS ?_;refine Wm.tk 3 25 rfl hS ?_ (hy:=by intro w' hSw;obtain⟨a0,a1,a2,a3⟩:=HE.out w' hSw;go_simp;try with_reducible rfl);refine Wm.tk 4 26 rfl hS ?_;refine Wm.tk 5 27 rfl hS ?_;refine Wm.tk 6 28 rfl hS ?_;refine Wm.tk 7 29 rfl hS ?_ (hy:=by intro w' hSw;obtain⟨a0,a1,a2,a3⟩:=HE.out w' hSw;go_simp;try with_reducible rfl);refine Wm.tk 8 30 rfl hS ?_;refine Wm.tk 9 31 rfl hS ?_ (hy:=by intro w' hSw;obtain⟨a0,a1,a2,a3⟩:=HE.out w' hSw;go_simp;try with_reducible rfl);refine Wm.tk 10 32 rfl hS ?_;refine Wm.tk 11 33 rfl hS ?_;refine Wm.tk 12 34 rfl hS ?_;refine Wm.tk 13 35 rfl hS ?_ (hy:=by intro w' hSw;obtain⟨a0,a1,a2,a3⟩:=HE.out w' hSw;go_simp;try with_reducible rfl);refine Wm.tk 14 36 rfl hS ?_;refine Wm.tk 15 37 rfl hS ?_;refine Wm.om 16 38 rfl fun K hK=>?_;go_simp;have hSB2:Below w0.heap.size w0 (w1.alloc (.cells bareC 25)):=hSB.alloc hSB.size _;have hS2:We (fun b=>b<w0.heap.size∧(Value.slice A k c).ownBlock≠some b) w0 (w1.alloc (.cells bareC 25)):=.below hSB2 fun _ h=>h.1;have hc2:(w1.alloc (.cells bareC 25)).heap[w1.heap.size]?=some (.cells bareC 25 (0,0)):=Vj w1 _;refine hK.out _ _ (.inr hS2) ?_;clear hK K hS;try simp only[sA,List.set]
   change Wm _ _ _ _ _ _ _ _ _ (w1.alloc (.cells bareC 25));have hz1:=hSB.size;generalize w1.heap.size=g1 at hc2 hz1 ⊢;generalize w1.alloc (.cells bareC 25)=w2 at hS2 hSB2 hc2 ⊢;refine Wm.tk 17 39 rfl hS2 ?_;refine Wm.om 18 40 rfl fun K hK=>?_;go_simp;have hSB3:Below w0.heap.size w0 (w2.alloc (.cells #[.int .i64 ty,.slice Al nl cl,.slice (some ⟨g1,0,none⟩) 2 2] 68)):=hSB2.alloc hSB2.size _;have hS3:We (fun b=>b<w0.heap.size∧(Value.slice A k c).ownBlock≠some b) w0 (w2.alloc (.cells #[.int .i64 ty,.slice Al nl cl,.slice (some ⟨g1,0,none⟩) 2 2] 68)):=.below hSB3 fun _ h=>h.1;have hnews:=Ua w2 #[.int .i64 ty,.slice Al nl cl,.slice (some ⟨g1,0,none⟩) 2 2] 68 1 1;have hc3:=((Wb (bR _ _) (.cells #[.int .i64 ty,.slice Al nl cl,.slice (some ⟨g1,0,none⟩) 2 2] 68)).block g1 (Array.getElem?_eq_some_iff.1 hc2).1).trans hc2;refine hK.out _ _ (.inr hS3) ?_;clear hK K hS2;try simp only[sA,List.set]
   generalize w2.alloc (.cells #[.int .i64 ty,.slice Al nl cl,.slice (some ⟨g1,0,none⟩) 2 2] 68)=w3 at hS3 hSB3 hnews hc3 ⊢;have hBA3:=HBA.out.below hSB3;have hone:∀ u ∈ ([.int .i64 ty,.slice Al nl cl,.slice (some ⟨g1,0,none⟩) 2 2]:List Value),u.oneCell'=true:=by
    intro u hu;simp only[List.mem_cons,List.not_mem_nil,or_false]at hu;rcases hu with rfl|rfl|rfl <;> rfl
   refine Wm.om 19 41 rfl fun K hK=>?_;refine Um rfl (.tmp 23) (.tmp 40) 30 68 rfl _ 3 56 Tryz.underlying30 Tryz.infoFunc rfl (by decide) (by decide) (.slice A k c) k xs (by rfl) hBA3.own _ 1 [.int .i64 ty,.slice Al nl cl,.slice (some ⟨g1,0,none⟩) 2 2] (by rfl) (by rfl) hnews hone (by omega) ?_;intro v4 w4 hown hgr hat;obtain⟨A4,c4,rfl⟩:=Wy hown;have hS4:We (fun b=>b<w0.heap.size∧(Value.slice A k c).ownBlock≠some b) w0 w4:=hS3.trans (.grown hgr (fun b hb=>Ve hb.1 hSB3.size) (fun j e hb=>hb.2 e));refine hK.out _ _ (.inr hS4) ?_;clear hK K hS3;try simp only[Act.put,sA,List.set]
   refine Wm.om 20 42 rfl fun K hK=>?_;go_simp;refine hK.out _ _ (.inr hS4) ?_;clear hK K;try simp only[sA,List.set]
   refine Wm.on 21 rfl fun K hK=>?_;obtain⟨_,a1,_,_⟩:=HE.out w4 hS4;have f1:=HZ.out w4 hS4;go_simp;refine hK.out _ _ (.inl rfl) ?_;clear hK K;refine Wm.done (by kernel_rfl) ?_ _;have hst:=hBA3.step HST2.out (.int .i64 ty) (.slice Al nl cl) (.slice (some ⟨g1,0,none⟩) 2 2) (fun i hi=>by
    rcases(show i=0∨i=1∨i=2 by omega) with rfl|rfl|rfl
    ·show Value.int .i64 ty=.int .i64 (m.funs.getD k WW).ty;rw[HTY.out]
    ·exact HH1.out.keep ((We.below (Wa HBW.out HBA.out.bl) fun _ hk=>hk).trans (We.below hSB3 fun b hb=>by omega)) fun b hb=>⟨by have:=hSB3.size;omega,by omega,hno b (by omega)⟩
    ·exact bareC_code hc3 ⟨(Array.getElem?_eq_some_iff.1 hc3).1,by omega,fun e=>by have:=(HBA.out.own.lt _ e).2;omega⟩) hgr hown hat
   have HST:=hD hst;clear hst hS4 hBA3 hgr hown hat hnews hone hc3 a1 f1;generalize w4.setCell ⟨W.heap.size,2,none⟩ (.slice A4 (k+1) c4)=w5 at HST ⊢;go_wp2;go_roundw
   case rel=>exact⟨k+1,A4,c4,_,by omega,by go_num,HST⟩
   case measure=>simp[intOf];omega
  ·have hd:decide ((k:Int)<(n2:Int))=false:=by simp;omega
   have hd2:decide (k<n2)=false:=by simp;omega
   obtain rfl:n2=k:=by omega
   have hmod:W7 (fun k=>k<w0.heap.size) w0 _ (bareM m):=(show BareAt W w0 bc m.funs m.funs.length _ xs by rw[HN2.out];exact HBA.out).modAt (HMD.out.keep (We.below (Wa HBW.out HBA.out.bl) fun _ hk=>hk) fun b hk=>Ve hk (Wa HBW.out HBA.out.bl).size);have HMB:=hD (fun wz (hb:Below w0.heap.size w0 wz)=>HDB.out wz _ (hmod.keep (We.below hb fun _ hk=>hk) fun b hk=>Ve hk hb.size));clear hmod;simp only[Mv.cells]at HMB;have HY:Hid (∀ wz,Below w0.heap.size w0 wz→Box8 wz W.heap.size (.slice A0 n0 c0) (.slice A1 n1 c1) (.slice A n2 c) (.slice A3 n3 c3) (.slice A4 n4 c4) (.slice A5 n5 c5) (.slice A6 n6 c6) (.slice A7 n7 c7)):=hD fun wz hz=>by
    have hb:=(HBA.out.below hz).hb;rw[HBC.out]at hb;simp[Box8,World.cell?,hb]
   obtain⟨zb,hzb⟩:∃ zb,VC (bareM m) prof=zb:=⟨_,rfl⟩;obtain⟨zm,hzm⟩:∃ zm,VC m prof=zm:=⟨_,rfl⟩;rw[hzb]at HMB HRO;rw[hzm]at HDM HRO;clear hzb hzm HDB;obtain⟨b0,b1,b2,b3,b4,b5,b6,b7⟩:=HB8.out w0 HBA.out.bl;have HBL:=hD HBA.out.bl
   go_upto_region 9 with (go_at_call 20;refine(HDM.out _ (Wa HBW.out HBL.out)).mono ?_;rintro e w1 ⟨rfl,hb1⟩;have HB1:=hD hb1;clear hb1)
   clear b0 b1 b2 b3 b4 b5 b6 b7;obtain⟨y0,y1,y2,y3,y4,y5,y6,y7⟩:=HY.out w1 HB1.out;by_cases h0:zb=0
   case' neg =>
    have h0b:(zb != 0)=true:=by simpa using h0
    clear h0;exact Z6
   subst h0;by_cases h12:zm=12
   case' pos =>
    subst h12;exact Z6
   by_cases h13:zm=13
   case' pos =>
    subst h13;exact Z6
   by_cases h26:zm=26
   case' pos =>
    subst h26;exact Z6
   have hro:=HRO.out rfl h12 h13 h26;have HFZ:=hD (HFN.out hro.1 hro.2.1 hro.2.2);have h12b:(zm==12)=false:=by simpa using h12
   have h13b:(zm==13)=false:=by simpa using h13
   have h26b:(zm==26)=false:=by simpa using h26
   clear hro h12 h13 h26 HFN HRO;go_wp2_with (go_at_call 20;refine(HMB.out _ HB1.out).mono ?_;rintro e w2 ⟨rfl,hb2⟩;have HB2:=hD hb2;clear hb2)
   clear y0 y1 y2 y3 y4 y5 y6 y7;have HB02:=hD (Wa HBL.out (Wa HB1.out HB2.out));go_loopw [8] (fun i wr=>∃ z:Int,-1≤z∧z≤(n2:Int)+1∧i=.int .i64 z∧Hid (Below W.heap.size W wr)) (fun i _=>((n2:Int)+1 - intOf i).toNat)
   case atStart=>exact⟨-1,by omega,by omega,rfl,HB02⟩
   case round =>
    obtain⟨w6,rfl⟩:∃ w6,w6=wr:=⟨_,rfl⟩;obtain⟨z,hz1,hz2,rfl,HB⟩:=hrel;obtain⟨b0,b1,b2,b3,b4,b5,b6,b7⟩:=HB8.out w6 HB.out;by_cases hlt:z≤(n2:Int)
    ·have hd:decide (z≤(n2:Int))=true:=by simpa using hlt
     have e1:IntKind.i64.wrap (z+1)=z+1:=IntWalk.i64_in _ (by omega);obtain⟨⟨r1,r2⟩,hc,hr⟩:=HFZ.out z ⟨hz1,hlt⟩;have HC:=hD (hc w6 (Wa HBW.out HB.out));have HR:=hD hr;clear hc hr
     go_upto_region 15 with (go_at_call 21;refine(HC.out).mono ?_;rintro e w7 ⟨rfl,hb7⟩;have HB7:=hD (Wa HB.out hb7);clear hb7)
     clear b0 b1 b2 b3 b4 b5 b6 b7;obtain⟨b0,b1,b2,b3,b4,b5,b6,b7⟩:=HB8.out w7 HB7.out;go_wp2_with (go_at_call 22;refine(HR.out _ (Wa HBW.out HB7.out)).mono ?_;rintro e w8 ⟨rv8,rfl,hb8⟩;have HB9:=hD (Wa HB7.out hb8);clear hb8)
     go_roundw
     case rel=>exact⟨z+1,by omega,by omega,by go_num,HB9⟩
     case measure=>simp[intOf];omega
    ·have hd:decide (z≤(n2:Int))=false:=by simpa using hlt
     go_wp2;go_ret;exact⟨rfl,Wa HBW.out HB.out⟩
end
end Go.Proofs.YtmfpnfdinoofpaaGreatDoor
