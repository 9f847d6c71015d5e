/- A part of the proof. -/
import Derived.Test.YtmfpnfdinoofpaaGreatDoorJ47
namespace Go.Proofs.YtmfpnfdinoofpaaGreatDoor
open Go.RowKit
set_option maxHeartbeats 8000000
set_option maxRecDepth 100000
theorem Tryz.infoInsE:(Tryz.prog.info? 25).map (fun i=>(i.zero,i.size,i.bytes))=some (some (.agg #[.int .i64 0,.int .i64 0,.int .i64 0,.int .u64 0,.slice none 0 0]),5,56):=by kernel_rfl
theorem Lx.Ok.boxc {X:Lx} (hX:X.Ok) {L:Array Bool} {s:Nat→Value} {w:World} (h:X.Inv L s w):w.heap[X.b2]?=some (.cells #[X.pv,X.rv] 40 (0,0)):=by
 have h1:=hX.c1;have h2:=hX.c2;exact(h.kp.block X.b2 ⟨by omega,fun e=>by have:=hX.c0 _ e;omega⟩).trans hX.bx
def fillM (w:World) (B:Nat) (a b c d e f:Value):World:=((((((((w.setCell ⟨B,0,none⟩ a).setCell ⟨B,1,none⟩ b).setCell ⟨B,2,none⟩ c).setCell ⟨B,3,none⟩ d).setCell ⟨B,4,none⟩ e).setCell ⟨B,5,none⟩ (.slice none 0 0)).setCell ⟨B,6,none⟩ f).setCell ⟨B,7,none⟩ (.slice none 0 0))
structure Lx.Inv0 (X:Lx) (w:World):Prop where
 kp:We (fun k=>k<X.w0.heap.size∧X.u1.ownBlock≠some k) X.w0 w
 ow:w.ownsRow 0 25 5 X.u1 X.n X.xs
 rs:w.heap[X.r]?=some (.cells zero8 37 (0,0))
def Lx.F24 (X:Lx) (w:World) (a b c d e f:Value):Prop:=X.T6 w a∧X.In w b 66 1 #[.string ByteArray.empty,.string ByteArray.empty,.int .i64 2]∧X.F15 w c∧X.In w d 58 2 #[.int .i64 0,.int .i64 1,.int .i64 0,.int .i64 1]∧X.In w e 70 2 #[.int .i64 127,.bool true,.int .u64 0,.int .i64 126,.bool false,.int .u64 0]∧X.In w f 61 1 #[.bool false,.int .i64 0,.int .i64 0,.slice none 0 0]
theorem Lx.Ok.box0 {X:Lx} (hX:X.Ok) {L:Array Bool} {s:Nat→Value} {w:World} (h:X.Inv L s w):w.cell? ⟨X.b2,0,none⟩=some X.pv:=by simp[World.cell?,hX.boxc h]
theorem Lx.Ok.box1 {X:Lx} (hX:X.Ok) {L:Array Bool} {s:Nat→Value} {w:World} (h:X.Inv L s w):w.cell? ⟨X.b2,1,none⟩=some X.rv:=by simp[World.cell?,hX.boxc h]
theorem step_append_both {ops:Array Oper} {o:Oper} {a:Act} {w:World} {K:Act→World→Prop} {Q:Exit→Act→World→Prop} {E:Prop} (hgd:o.guard=none) (s x:Operand) (t e:TypeId)
 (ho:o.op=.call { callee:=.builtin .append,args:=#[s,x],argTypes:=#[t,t] }) (z:Value) (size bytes:Nat) (ht:Tryz.prog.underlying t=some (.slice e)) (hinfo:(Tryz.prog.info? e).map (fun i=>(i.zero,i.size,i.bytes))=some (some z,size,bytes))
 (hzs:z.cells.size=size) (hsz:0<size) (hb:bytes≤1000) (v:Value) (n:Nat) (xs:List Value) (hs:a.eval s=v) (hown:w.ownsRow 0 e size v n xs) (src:Value) (m:Nat) (news:List Value) (hx:a.eval x=src) (hl:news.length=m * size) (hsrc:UZ w src m news)
 (h1:∀ u ∈ news,u.oneCell'=true) (hnm:n+m≤1000000)
 (hk:∀ v' w',w'.ownsRow 0 e size v' (n+m) (xs++news)→w.grownBy w' v.ownBlock→(v'.ownBlock=v.ownBlock∨v'.ownBlock=some w.heap.size)→w'.ownsRow 0 e size v n xs→K (a.put o.dst v') w') :
 if Region.wanted o (yielded ops a.tmps)=true then Oper.wp Tryz.prog o a w K Q else E:=by
 have hw:Region.wanted o (yielded ops a.tmps)=true:=by simp[Region.wanted,hgd]
 rw[if_pos hw];obtain⟨v',w',hr,h2,h3,h5,h6⟩:=run_append_both w t o.type e z size bytes ht hinfo hzs hsz v n xs hown src m news hl hsrc h1 hnm hb;unfold Oper.wp execOp;simp only[ho,resolve,invoke,builtin,Sem.run_bind,Sem.run_pure,Result.andThen_ok,List.map_toArray,List.map_cons,List.map_nil,hs,hx,hr];exact hk v' w' h2 h3 h5 h6
def oneM (t:List Int×List Int) (c:List Vl):Vt:=⟨[t,([127],[127,126]),([],[127])],[(ByteArray.empty,ByteArray.empty,2)],[⟨0,[124],c++[⟨11,0,0,0,[]⟩]⟩],[(0,1),(0,1)],[(127,true,0),(126,false,0)],[],[⟨false,0,0,[]⟩],[]⟩
def InsIn (K:Nat→Prop) (w:World) (n:Nat) (xs:List Value) (c:List Vl):Prop:=c.length=n∧∀ j i,j<n→i<5→∃ u,xs[j * 5+i]?=some u∧insCell K w (c.getD j Un) i u
theorem Lx.Row.code {X:Lx} {w:World} {v:Value} {K K0:Nat→Prop} {wz:World} {c:List Vl} (h:X.Row w v) (hx:InsIn K0 wz X.n X.xs c) (hk:We K0 wz w) (hm:∀ k,K0 k→K k) (hK:∀ g,v.ownBlock=some g→K g):Uc K w v (c++[⟨11,0,0,0,[]⟩]):=by
 have hl:=hx.1;unfold Uc;rw[List.length_append,hl];refine owns_cellsK h.1 _ hK fun j i hj hi=>?_;have hxl:X.xs.length=X.n * 5:=by
  have:=h.1.1;rw[List.length_append]at this;have:endC.length=5:=rfl;omega
 by_cases hjn:j<X.n
 ·obtain⟨u,h1,h2⟩:=hx.2 j i hjn hi;refine⟨u,by rw[List.getElem?_append_left (by omega)];exact h1,?_⟩;rw[show(c++[(⟨11,0,0,0,[]⟩:Vl)]).getD j Un=c.getD j Un by rw[List.getD_eq_getElem?_getD,List.getElem?_append_left (by omega),← List.getD_eq_getElem?_getD]];exact h2.keep hk hm
 ·obtain rfl:j=X.n:=by have:j<X.n+1:=hj;omega
  rw[List.getElem?_append_right (by omega),hxl,show X.n * 5+i - X.n * 5=i by omega,show(c++[(⟨11,0,0,0,[]⟩:Vl)]).getD X.n Un=(⟨11,0,0,0,[]⟩:Vl) by rw[List.getD_eq_getElem?_getD,List.getElem?_append_right (by omega),hl];simp];rcases(show i=0∨i=1∨i=2∨i=3∨i=4 by omega) with rfl|rfl|rfl|rfl|rfl
  ·exact⟨_,rfl,rfl⟩
  ·exact⟨_,rfl,rfl⟩
  ·exact⟨_,rfl,rfl⟩
  ·exact⟨_,rfl,rfl,by unfold wordZ;decide⟩
  ·exact⟨_,rfl,Wf.nil _ _,by unfold fitN;decide⟩
theorem nilK (K:Nat→Prop) (w:World) (size:Nat) (f:Nat→Nat→Value→Prop):Wd K w (.slice none 0 0) 0 size f:=⟨none,0,rfl,nR _,nZ _,fun _=>rfl,fun h=>(by cases h)⟩
theorem Lx.mod {X:Lx} (hX:X.Ok) {wz w:World} {a b c d e f:Value} {t:List Int×List Int} {cc:List Vl} (h0:X.Inv0 w) (hF:X.F24 w a b c d e f) (hk:We (fun k=>k<X.b2∧X.u1.ownBlock≠some k) wz w)
 (hp:Wf (fun k=>k<X.b2∧X.u1.ownBlock≠some k) wz X.pv t.1) (hr:Wf (fun k=>k<X.b2∧X.u1.ownBlock≠some k) wz X.rv t.2) (hx:InsIn (fun k=>k<X.b2∧X.u1.ownBlock≠some k) wz X.n X.xs cc) :
 W7 (fun k=>k<w.heap.size∧k≠X.r) w ⟨a,b,c,d,e,.slice none 0 0,f,.slice none 0 0⟩ (oneM t cc):=by
 have c1:=hX.c1;have c2:=hX.c2;have c3:=h0.kp.size;have hK:∀ g,X.w0.heap.size≤g→g<w.heap.size→g<w.heap.size∧g≠X.r:=fun g h1 h2=>⟨h2,by omega⟩;have hm:∀ k,(k<X.b2∧X.u1.ownBlock≠some k)→k<w.heap.size∧k≠X.r:=fun k hk=>⟨by omega,by omega⟩;obtain⟨⟨a6,b6,c6,h6,ha6,hb6,hc6⟩,h8,⟨lo,cv,h15,hlo,hrow⟩,h18,h21,h23⟩:=hF;have i1:Wf (fun k=>k<w.heap.size∧k≠X.r) w a6 [127]:=ha6.ints rfl rfl hK (by decide);have i2:Wf (fun k=>k<w.heap.size∧k≠X.r) w b6 [127,126]:=hb6.ints rfl rfl hK (by decide);have i3:Wf (fun k=>k<w.heap.size∧k≠X.r) w c6 [127]:=hc6.ints rfl rfl hK (by decide);have i4:Wf (fun k=>k<w.heap.size∧k≠X.r) w lo [124]:=hlo.ints rfl rfl hK (by decide);have i5:=hrow.code hx hk hm fun g hg=>⟨(hrow.1.lt g hg).2,by
  rcases hrow.2.1 with e1|e1
  ·have:=hX.c0 g (e1 ▸ hg);omega
  ·have:=e1 g hg;omega⟩
 refine⟨h6.cells hK (by unfold maxLen;decide) 2 _ fun j i hj hi=>?_,h8.cells hK (by unfold maxLen;decide) 3 _ fun j i hj hi=>?_,h15.cells hK (by unfold maxLen;decide) 3 _ fun j i hj hi=>?_,h18.cells hK (by unfold maxLen;decide) 2 _ fun j i hj hi=>?_,h21.cells hK (by unfold maxLen;decide) 3 _ fun j i hj hi=>?_,nilK _ _ _ _,h23.cells hK (by unfold maxLen;decide) 4 _ fun j i hj hi=>?_,nilK _ _ _ _⟩
 ·rcases(show j=0∨j=1∨j=2 by omega) with rfl|rfl|rfl <;> rcases(show i=0∨i=1 by omega) with rfl|rfl
  ·exact⟨_,rfl,hp.keep hk hm⟩
  ·exact⟨_,rfl,hr.keep hk hm⟩
  ·exact⟨_,rfl,i1⟩
  ·exact⟨_,rfl,i2⟩
  ·exact⟨_,rfl,Wf.nil _ _⟩
  ·exact⟨_,rfl,i3⟩
 ·obtain rfl:j=0:=by omega
  rcases(show i=0∨i=1∨i=2 by omega) with rfl|rfl|rfl <;> exact⟨_,rfl,rfl⟩
 ·obtain rfl:j=0:=by omega
  rcases(show i=0∨i=1∨i=2 by omega) with rfl|rfl|rfl
  ·exact⟨_,rfl,rfl⟩
  ·exact⟨_,rfl,i4⟩
  ·exact⟨_,rfl,i5⟩
 ·rcases(show j=0∨j=1 by omega) with rfl|rfl <;> rcases(show i=0∨i=1 by omega) with rfl|rfl <;> exact⟨_,rfl,rfl⟩
 ·rcases(show j=0∨j=1 by omega) with rfl|rfl <;> rcases(show i=0∨i=1∨i=2 by omega) with rfl|rfl|rfl
  all_goals first
   | exact⟨_,rfl,rfl⟩
   | exact⟨_,rfl,rfl,(by show wordZ 0;unfold wordZ;decide)⟩
 ·obtain rfl:j=0:=by omega
  rcases(show i=0∨i=1∨i=2∨i=3 by omega) with rfl|rfl|rfl|rfl
  ·exact⟨_,rfl,rfl⟩
  ·exact⟨_,rfl,rfl⟩
  ·exact⟨_,rfl,rfl⟩
  ·exact⟨_,rfl,BytesK.nil _ _⟩
theorem fillM_at {w:World} {B:Nat} {T:TypeId} (h:w.heap[B]?=some (.cells zero8 T (0,0))) (a b c d e f:Value):(fillM w B a b c d e f).heap[B]?=some (.cells #[a,b,c,d,e,.slice none 0 0,f,.slice none 0 0] T (0,0)):=by
 unfold zero8 at h;have h0:_=some (Obj.cells #[a,.slice none 0 0,.slice none 0 0,.slice none 0 0,.slice none 0 0,.slice none 0 0,.slice none 0 0,.slice none 0 0] T (0,0)):=Wg w B 0 _ T a h;have h1:_=some (Obj.cells #[a,b,.slice none 0 0,.slice none 0 0,.slice none 0 0,.slice none 0 0,.slice none 0 0,.slice none 0 0] T (0,0)):=Wg _ B 1 _ T b h0;have h2:_=some (Obj.cells #[a,b,c,.slice none 0 0,.slice none 0 0,.slice none 0 0,.slice none 0 0,.slice none 0 0] T (0,0)):=Wg _ B 2 _ T c h1;have h3:_=some (Obj.cells #[a,b,c,d,.slice none 0 0,.slice none 0 0,.slice none 0 0,.slice none 0 0] T (0,0)):=Wg _ B 3 _ T d h2;have h4:_=some (Obj.cells #[a,b,c,d,e,.slice none 0 0,.slice none 0 0,.slice none 0 0] T (0,0)):=Wg _ B 4 _ T e h3;have h5:_=some (Obj.cells #[a,b,c,d,e,.slice none 0 0,.slice none 0 0,.slice none 0 0] T (0,0)):=Wg _ B 5 _ T (.slice none 0 0) h4;have h6:_=some (Obj.cells #[a,b,c,d,e,.slice none 0 0,f,.slice none 0 0] T (0,0)):=Wg _ B 6 _ T f h5;have h7:_=some (Obj.cells #[a,b,c,d,e,.slice none 0 0,f,.slice none 0 0] T (0,0)):=Wg _ B 7 _ T (.slice none 0 0) h6;exact h7
theorem fillM_keeps (w:World) (B:Nat) (a b c d e f:Value):We (fun k=>k≠B) w (fillM w B a b c d e f) :=
 (We.setCell w (fun e=>e rfl) _).trans ((We.setCell _ (fun e=>e rfl) _).trans ((We.setCell _ (fun e=>e rfl) _).trans ((We.setCell _ (fun e=>e rfl) _).trans ((We.setCell _ (fun e=>e rfl) _).trans ((We.setCell _ (fun e=>e rfl) _).trans ((We.setCell _ (fun e=>e rfl) _).trans (We.setCell _ (fun e=>e rfl) _)))))))
theorem fillM_size (w:World) (B:Nat) (a b c d e f:Value):(fillM w B a b c d e f).heap.size=w.heap.size:=by simp[fillM,World.setCell]
theorem one10_any (w:World) (t:List Int×List Int) (pv rv:Value) (u1:Value) (n:Nat) (xs:List Value) (c:List Vl) (hn:n≤1000) (ho:w.ownsRow 0 25 5 u1 n xs)
 (hp:Wf (fun k=>k<w.heap.size∧u1.ownBlock≠some k) w pv t.1) (hr:Wf (fun k=>k<w.heap.size∧u1.ownBlock≠some k) w rv t.2) (hx:InsIn (fun k=>k<w.heap.size∧u1.ownBlock≠some k) w n xs c) :
 Calls Tryz.prog 7 #[.agg #[pv,rv],u1] w (fun e w'=>∃ vm:Mv,e=.returned (.agg vm.cells)∧W7 (fun k=>k<w'.heap.size) w' vm (oneM t c)∧We (fun k=>k<w.heap.size∧u1.ownBlock≠some k) w w'∧w'.ownsRow 0 25 5 u1 n xs):=by
 obtain⟨W,hW⟩:∃ W,W=(w.alloc (.cells #[pv,rv] 40)).alloc (.cells zero8 37):=⟨_,rfl⟩;have hbW:Below w.heap.size w W:=hW ▸ Wb (Wb (bR _ _) _) _;have hsW:W.heap.size=w.heap.size+2:=by rw[hW];simp
 have hWr:W.heap[w.heap.size+1]?=some (.cells zero8 37 (0,0)):=by rw[hW];have:=Vj (w.alloc (.cells #[pv,rv] 40)) (.cells zero8 37);rwa [Wj]at this
 have hWb:W.heap[w.heap.size]?=some (.cells #[pv,rv] 40 (0,0)):=by rw[hW];exact((Wb (bR (w.alloc (.cells #[pv,rv] 40)).heap.size _) _).block w.heap.size (by rw[Wj];omega)).trans (Vj w _)
 obtain⟨X,hX0⟩:∃ X:Lx,X=⟨W.drew,w.heap.size+1,w.heap.size,pv,rv,u1,n,xs⟩:=⟨_,rfl⟩;have hX:X.Ok:=by
  rw[hX0];exact⟨fun g e=>(ho.lt g e).2,Nat.lt_succ_self _,by show w.heap.size+1<W.heap.size;omega,hWb,hn,Wy ho⟩
 have hI0:X.Inv (Array.replicate 26 false) (fun _=>undef) W.drew:=by
  rw[hX0];exact⟨by simp,We.refl _ _,owns_drew (W8 ho hbW),hWr,fun i hi hl=>by(rw[Array.getD_eq_getD_getElem?,Array.getElem?_replicate]at hl;split at hl <;> cases hl),fun _=>⟨rfl,rfl,rfl⟩⟩
 have HW:=hD hW;have HX0:=hD hX0;have HI0:=hD hI0;have HBW:=hD hbW;clear hW hI0 hX0 hWr hWb;go_enter Tryz.func7,Tryz.ntmps7
 go_upto_region 1 with (fail)
 try unfold zero8 at HW
 rw[← HW.out];refine region_inv (Ur:=fun L a w'=>(L.getD 25 false=false∧∃ s,a=X.arr s∧X.Inv L s w')∨((∀ j,j<26→L.getD j false=true)∧∃ s a0 b0 c0 d0 e0 f0 w0,a=X.arr s∧X.Inv0 w0∧X.F24 w0 a0 b0 c0 d0 e0 f0∧w'=fillM w0 X.r a0 b0 c0 d0 e0 f0)) (by kernel_rfl) ?_ ?_ ?_
 ·exact .inl ⟨by simp,fun _=>undef,by rw[HX0.out];rfl,HI0.out⟩
 ·rintro L a w1 hI hrd;rcases hI with ⟨h25,s,rfl,h⟩|⟨_,s,a0,b0,c0,d0,e0,f0,w0,rfl,hI,hF,rfl⟩
  ·have:=ready_all (by kernel_rfl) hrd (by rw[h.sz];rfl) 25 (by show 25<26;omega);rw[h25]at this;cases this
  have hc1:=hX.c1;have hc2:=hX.c2;have hxb:X.b2=w.heap.size:=by rw[HX0.out]
  have hxn:X.n=n:=by rw[HX0.out]
  have hxs:X.xs=xs:=by rw[HX0.out]
  have hxu:X.u1=u1:=by rw[HX0.out]
  have hxp:X.pv=pv:=by rw[HX0.out]
  have hxr:X.rv=rv:=by rw[HX0.out]
  have hxw:X.w0=W.drew:=by rw[HX0.out]
  have hkw:We (fun k=>k<X.b2∧X.u1.ownBlock≠some k) w w0:=(We.below HBW.out.drew fun k hk=>by rw[← hxb];exact hk.1).trans ((show We (fun k=>k<W.heap.size∧X.u1.ownBlock≠some k) W.drew w0 by have h:=hI.kp;rw[hxw]at h;exact h).mono (K':=fun k=>k<X.b2∧X.u1.ownBlock≠some k) fun k hk=>⟨by omega,hk.2⟩);have hm0:=Lx.mod hX (t:=t) (cc:=c) hI hF hkw (by rw[hxb,hxu,hxp];exact hp) (by rw[hxb,hxu,hxr];exact hr) (by rw[hxb,hxu,hxn,hxs];exact hx);have hfk:=fillM_keeps w0 X.r a0 b0 c0 d0 e0 f0;have hsz:=fillM_size w0 X.r a0 b0 c0 d0 e0 f0;have hfa:=fillM_at hI.rs a0 b0 c0 d0 e0 f0;have HM:=hD (hm0.keep (hfk.mono fun k (hk:k<w0.heap.size∧k≠X.r)=>hk.2) (fun k hk=>(by rw[hsz];exact hk.1:k<(fillM w0 X.r a0 b0 c0 d0 e0 f0).heap.size)));have HKW:=hD (hkw.trans (hfk.mono (K':=fun k=>k<X.b2∧X.u1.ownBlock≠some k) fun k hk=>by omega));have HOW:=hD (VE hI.ow hfk fun g hg=>by have:=hX.c0 g hg;omega);rw[hxb,hxu]at HKW;rw[hxu,hxn,hxs]at HOW;have hcl:∀ o:Nat,(fillM w0 X.r a0 b0 c0 d0 e0 f0).cell? ⟨X.r,o,none⟩=(#[a0,b0,c0,d0,e0,.slice none 0 0,f0,.slice none 0 0]:Array Value)[o]?:=fun o=>by simp[World.cell?,hfa]
  have hcl2:(fillM w0 X.r a0 b0 c0 d0 e0 f0).heap[X.r]?=some (.cells #[a0,b0,c0,d0,e0,.slice none 0 0,f0,.slice none 0 0] 37 (0,0)):=hfa;have z0:=hcl 0;have z1:=hcl 1;have z2:=hcl 2;have z3:=hcl 3;have z4:=hcl 4;have z5:=hcl 5;have z6:=hcl 6;have z7:=hcl 7;simp only[List.getElem?_toArray,List.getElem?_cons_zero,List.getElem?_cons_succ]at z0 z1 z2 z3 z4 z5 z6 z7;generalize fillM w0 X.r a0 b0 c0 d0 e0 f0=w2 at HM HKW HOW hcl2 z0 z1 z2 z3 z4 z5 z6 z7 ⊢;clear hm0 hfk hsz hfa hcl hkw hI hF;unfold Lx.arr;go_wp2;exact bodyPost_ret (v:=.agg #[a0,b0,c0,d0,e0,.slice none 0 0,f0,.slice none 0 0]) (by simp[results,Tryz.results7,go_sem,World.cell?,hcl2]) rfl ⟨_,rfl,HM.out,HKW.out,HOW.out⟩
 ·rintro L a w1 i hI hr;have hi:i<26:=by
   obtain⟨_,o,hoi,_⟩:=mem_ready.1 hr;exact(Array.getElem?_eq_some_iff.1 hoi).1
  rcases hI with ⟨h25,s,rfl,h⟩|⟨hall,_⟩
  case inr =>
   have h1:=(mem_ready.1 hr).1;have h2:=hall i hi;rw[not_done h1]at h2;cases h2
  have hnext:∀ i,i≠25→∀ a' w',(∃ s',a'=X.arr s'∧X.Inv (L.setIfInBounds i true) s' w')→((L.setIfInBounds i true).getD 25 false=false∧∃ s,a'=X.arr s∧X.Inv (L.setIfInBounds i true) s w')∨((∀ j,j<26→(L.setIfInBounds i true).getD j false=true)∧∃ s a0 b0 c0 d0 e0 f0 w0,a'=X.arr s∧X.Inv0 w0∧X.F24 w0 a0 b0 c0 d0 e0 f0∧w'=fillM w0 X.r a0 b0 c0 d0 e0 f0):=fun i hi a' w' hh=>.inl ⟨by rw[UH (fun e=>hi e.symm)];exact h25,hh⟩;rcases(show i<25∨i=25 by omega) with hi2|rfl;refine wpOp_mono (fun a' w' hh=>hnext i (by omega) a' w' hh) ?_;rcases(show i=0∨i=1∨i=2∨i=3∨i=4∨i=5∨i=6∨i=7∨i=8∨i=9∨i=10∨i=11∨i=12∨i=13∨i=14∨i=15∨i=16∨i=17∨i=18∨i=19∨i=20∨i=21∨i=22∨i=23∨i=24 by omega) with rfl|rfl|rfl|rfl|rfl|rfl|rfl|rfl|rfl|rfl|rfl|rfl|rfl|rfl|rfl|rfl|rfl|rfl|rfl|rfl|rfl|rfl|rfl|rfl|rfl
  ·skip
   have q0:=hX.box0 h;have q1:=hX.box1 h;refine wpOp_step (o:=⟨some 5,_,_,_,_,_⟩) rfl fun K hK=>?_;simp only[Lx.arr];go_simp;refine hK _ _ ⟨VK s 5 ?v0,?p0,h.put (i:=0) (by decide) (fun e=>by omega) ?v0 (bR _ _) ?q0⟩
   case q0=>exact rfl
   case p0=>simp[Lx.arr,VK]
  ·skip
   refine wpOp_step (o:=⟨some 6,_,_,_,_,_⟩) rfl fun K hK=>?_;simp only[Lx.arr];go_simp;refine hK _ _ ⟨VK s 6 ?v1,?p1,h.put (i:=1) (by decide) (fun e=>by omega) ?v1 ((bR _ _).alloc (nR _) _) ?q1⟩
   case q1=>exact Lx.In.new (h.kp.size)
   case p1=>simp[Lx.arr,VK]
  ·skip
   refine wpOp_step (o:=⟨some 7,_,_,_,_,_⟩) rfl fun K hK=>?_;simp only[Lx.arr];go_simp;refine hK _ _ ⟨VK s 7 ?v2,?p2,h.put (i:=2) (by decide) (fun e=>by omega) ?v2 ((bR _ _).alloc (nR _) _) ?q2⟩
   case q2=>exact Lx.In.new (h.kp.size)
   case p2=>simp[Lx.arr,VK]
  ·skip
   obtain⟨g1,e1,h1,l1⟩:=h.fs 1 (by decide) (WQ hr (by kernel_rfl));change s 6=_ at e1;obtain⟨g2,e2,h2,l2⟩:=h.fs 2 (by decide) (WQ hr (by kernel_rfl));change s 7=_ at e2;refine wpOp_step (o:=⟨some 8,_,_,_,_,_⟩) rfl fun K hK=>?_;simp only[Lx.arr,e1,e2];go_simp;refine hK _ _ ⟨VK s 8 (.agg #[.slice (some ⟨g1,0,none⟩) 1 1,.slice (some ⟨g2,0,none⟩) 2 2]),?p3,h.put (i:=3) (by decide) (fun e=>by omega) (.agg #[.slice (some ⟨g1,0,none⟩) 1 1,.slice (some ⟨g2,0,none⟩) 2 2]) (bR _ _) ?q3⟩
   case q3=>exact⟨_,_,rfl,⟨g1,rfl,h1,l1⟩,⟨g2,rfl,h2,l2⟩⟩
   case p3=>simp[Lx.arr,VK,e1,e2]
  ·skip
   refine wpOp_step (o:=⟨some 9,_,_,_,_,_⟩) rfl fun K hK=>?_;simp only[Lx.arr];go_simp;refine hK _ _ ⟨VK s 9 ?v4,?p4,h.put (i:=4) (by decide) (fun e=>by omega) ?v4 ((bR _ _).alloc (nR _) _) ?q4⟩
   case q4=>exact Lx.In.new (h.kp.size)
   case p4=>simp[Lx.arr,VK]
  ·skip
   obtain⟨g4,e4,h4,l4⟩:=h.fs 4 (by decide) (WQ hr (by kernel_rfl));change s 9=_ at e4;refine wpOp_step (o:=⟨some 10,_,_,_,_,_⟩) rfl fun K hK=>?_;simp only[Lx.arr,e4];go_simp;refine hK _ _ ⟨VK s 10 (.agg #[.slice none 0 0,.slice (some ⟨g4,0,none⟩) 1 1]),?p5,h.put (i:=5) (by decide) (fun e=>by omega) (.agg #[.slice none 0 0,.slice (some ⟨g4,0,none⟩) 1 1]) (bR _ _) ?q5⟩
   case q5=>exact⟨_,rfl,⟨g4,rfl,h4,l4⟩⟩
   case p5=>simp[Lx.arr,VK,e4]
  ·skip
   have f0:=h.fs 0 (by decide) (WQ hr (by kernel_rfl));have e0:s 5=_:=f0;obtain⟨a3,b3,e3,⟨ga3,ea3,ha3,la3⟩,⟨gb3,eb3,hb3,lb3⟩⟩:=h.fs 3 (by decide) (WQ hr (by kernel_rfl));change s 8=_ at e3;obtain⟨b5,e5,⟨gb5,eb5,hb5,lb5⟩⟩:=h.fs 5 (by decide) (WQ hr (by kernel_rfl));change s 10=_ at e5;subst ea3;subst eb3;subst eb5;refine wpOp_step (o:=⟨some 11,_,_,_,_,_⟩) rfl fun K hK=>?_;simp only[Lx.arr,e0,e3,e5];go_simp;refine hK _ _ ⟨VK s 11 (.slice (some ⟨w1.heap.size,0,none⟩) 3 3),?p6,h.put (i:=6) (by decide) (fun e=>by omega) (.slice (some ⟨w1.heap.size,0,none⟩) 3 3) ((bR _ _).alloc (nR _) _) ?q6⟩
   case q6=>exact⟨_,_,_,Lx.In.new (h.kp.size),Lx.In.below ⟨ga3,rfl,ha3,la3⟩ ((bR _ _).alloc (nR _) _),Lx.In.below ⟨gb3,rfl,hb3,lb3⟩ ((bR _ _).alloc (nR _) _),Lx.In.below ⟨gb5,rfl,hb5,lb5⟩ ((bR _ _).alloc (nR _) _)⟩
   case p6=>simp[Lx.arr,VK,e0,e3,e5]
  ·skip
   refine wpOp_step (o:=⟨some 12,_,_,_,_,_⟩) rfl fun K hK=>?_;simp only[Lx.arr];go_simp;refine hK _ _ ⟨VK s 12 ?v7,?p7,h.put (i:=7) (by decide) (fun e=>by omega) ?v7 (bR _ _) ?q7⟩
   case q7=>exact rfl
   case p7=>simp[Lx.arr,VK] <;> rfl
  ·skip
   have f7:=h.fs 7 (by decide) (WQ hr (by kernel_rfl));have e7:s 12=_:=f7;refine wpOp_step (o:=⟨some 13,_,_,_,_,_⟩) rfl fun K hK=>?_;simp only[Lx.arr,e7];go_simp;refine hK _ _ ⟨VK s 13 ?v8,?p8,h.put (i:=8) (by decide) (fun e=>by omega) ?v8 ((bR _ _).alloc (nR _) _) ?q8⟩
   case q8=>exact Lx.In.new (h.kp.size)
   case p8=>simp[Lx.arr,VK,e7]
  ·skip
   refine wpOp_step (o:=⟨some 14,_,_,_,_,_⟩) rfl fun K hK=>?_;simp only[Lx.arr];go_simp;refine hK _ _ ⟨VK s 14 ?v9,?p9,h.put (i:=9) (by decide) (fun e=>by omega) ?v9 ((bR _ _).alloc (nR _) _) ?q9⟩
   case q9=>exact Lx.In.new (h.kp.size)
   case p9=>simp[Lx.arr,VK]
  ·skip
   refine wpOp_step (o:=⟨some 15,_,_,_,_,_⟩) rfl fun K hK=>?_;simp only[Lx.arr];go_simp;refine hK _ _ ⟨VK s 15 ?v10,?p10,h.put (i:=10) (by decide) (fun e=>by omega) ?v10 (bR _ _) ?q10⟩
   case q10=>exact rfl
   case p10=>simp[Lx.arr,VK]
  ·skip
   refine wpOp_step (o:=⟨some 16,_,_,_,_,_⟩) rfl fun K hK=>?_;simp only[Lx.arr];go_simp;refine hK _ _ ⟨VK s 16 ?v11,?p11,h.put (i:=11) (by decide) (fun e=>by omega) ?v11 (bR _ _) ?q11⟩
   case q11=>exact rfl
   case p11=>simp[Lx.arr,VK]
  ·skip
   have f11:=h.fs 11 (by decide) (WQ hr (by kernel_rfl));have e11:s 16=_:=f11;refine wpOp_step (o:=⟨some 17,_,_,_,_,_⟩) rfl fun K hK=>?_;simp only[Lx.arr,e11];go_simp;refine hK _ _ ⟨VK s 17 ?v12,?p12,h.put (i:=12) (by decide) (fun e=>by omega) ?v12 ((bR _ _).alloc (nR _) _) ?q12⟩
   case q12=>exact Lx.In.new (h.kp.size)
   case p12=>simp[Lx.arr,VK,e11]
  ·skip
   have f10:=h.fs 10 (by decide) (WQ hr (by kernel_rfl));have e10:s 15=_:=f10;obtain⟨g12,e12,h12,l12⟩:=h.fs 12 (by decide) (WQ hr (by kernel_rfl));change s 17=_ at e12;obtain⟨Au,cu,eu⟩:=hX.fm;rw[show X.arr s={ tmps:=#[.agg #[X.pv,X.rv],X.u1,.pointer (some ⟨X.b2,0,none⟩),undef,.pointer (some ⟨X.r,0,none⟩),s 5,s 6,s 7,s 8,s 9,s 10,s 11,s 12,s 13,s 14,X.u1,s 16,.slice (some ⟨g12,0,none⟩) 1 1,s 18,s 19,s 20,s 21,s 22,s 23,s 24,s 25,s 26,s 27,s 28,s 29],defers:=[] } by simp[Lx.arr,e10,e12]];refine wpOp_step (o:=⟨some 18,_,_,_,_,_⟩) rfl fun K hK=>?_;refine step_append_both rfl (.tmp 15) (.tmp 17) 26 25 rfl _ 5 56 Tryz.underlying26 Tryz.infoInsE rfl (by decide) (by decide) X.u1 X.n X.xs (by rfl) h.ow (.slice (some ⟨g12,0,none⟩) 1 1) 1 endC (by rfl) (by rfl) (.inr ⟨_,1,rfl,fun j u hu=>by rw[add_lit0];simpa [World.cell?,h12,endC] using hu⟩) endC_one (by have:=hX.n9;omega) ?_;intro v' w' ho' hg' hat' hold';obtain⟨Av,cv,ev⟩:=Wy ho';refine hK _ _ ⟨VK s 18 v',?_,h.app hX (not_done (mem_ready.1 hr).1) v' hg' hold' ⟨ho',hat'.imp id fun e g hg=>?_,Av,cv,ev⟩⟩
   ·simp[Lx.arr,VK,Act.put,e10,e12]
   ·have:=e.symm.trans hg;simp only[Option.some.injEq]at this;have:=h.kp.size;omega
  ·skip
   obtain⟨g9,e9,h9,l9⟩:=h.fs 9 (by decide) (WQ hr (by kernel_rfl));change s 14=_ at e9;obtain⟨ho13,hb13,A13,c13,e13⟩:=h.fs 13 (by decide) (WQ hr (by kernel_rfl));change s 18=_ at e13;refine wpOp_step (o:=⟨some 19,_,_,_,_,_⟩) rfl fun K hK=>?_;simp only[Lx.arr,e9,e13];go_simp;refine hK _ _ ⟨VK s 19 (.agg #[.int .i64 0,.slice (some ⟨g9,0,none⟩) 1 1,.slice A13 (X.n+1) c13]),?p14,h.put (i:=14) (by decide) (fun _=>WQ hr (by kernel_rfl)) (.agg #[.int .i64 0,.slice (some ⟨g9,0,none⟩) 1 1,.slice A13 (X.n+1) c13]) (bR _ _) ?q14⟩
   case q14=>exact⟨_,_,rfl,⟨g9,rfl,h9,l9⟩,⟨e13 ▸ ho13,e13 ▸ hb13,A13,c13,rfl⟩⟩
   case p14=>simp[Lx.arr,VK,e9,e13]
  ·skip
   obtain⟨lo14,cv14,e14,⟨gl14,el14,hl14,ll14⟩,⟨ho14,hb14,A14,c14,ec14⟩⟩:=h.fs 14 (by decide) (WQ hr (by kernel_rfl));change s 19=_ at e14;subst el14;subst ec14;refine wpOp_step (o:=⟨some 20,_,_,_,_,_⟩) rfl fun K hK=>?_;simp only[Lx.arr,e14];go_simp;refine hK _ _ ⟨VK s 20 (.slice (some ⟨w1.heap.size,0,none⟩) 1 1),?p15,h.put (i:=15) (by decide) (fun _=>h.d13 (.inl rfl) (WQ hr (by kernel_rfl))) (.slice (some ⟨w1.heap.size,0,none⟩) 1 1) ((bR _ _).alloc (nR _) _) ?q15⟩
   case q15=>exact⟨_,_,Lx.In.new (h.kp.size),Lx.In.below ⟨gl14,rfl,hl14,ll14⟩ ((bR _ _).alloc (nR _) _),Lx.Row.below ⟨ho14,hb14,A14,c14,rfl⟩ ((bR _ _).alloc (nR _) _)⟩
   case p15=>simp[Lx.arr,VK,e14]
  ·skip
   refine wpOp_step (o:=⟨some 21,_,_,_,_,_⟩) rfl fun K hK=>?_;simp only[Lx.arr];go_simp;refine hK _ _ ⟨VK s 21 ?v16,?p16,h.put (i:=16) (by decide) (fun e=>by omega) ?v16 (bR _ _) ?q16⟩
   case q16=>exact rfl
   case p16=>simp[Lx.arr,VK]
  ·skip
   refine wpOp_step (o:=⟨some 22,_,_,_,_,_⟩) rfl fun K hK=>?_;simp only[Lx.arr];go_simp;refine hK _ _ ⟨VK s 22 ?v17,?p17,h.put (i:=17) (by decide) (fun e=>by omega) ?v17 (bR _ _) ?q17⟩
   case q17=>exact rfl
   case p17=>simp[Lx.arr,VK]
  ·skip
   have f16:=h.fs 16 (by decide) (WQ hr (by kernel_rfl));have e16:s 21=_:=f16;have f17:=h.fs 17 (by decide) (WQ hr (by kernel_rfl));have e17:s 22=_:=f17;refine wpOp_step (o:=⟨some 23,_,_,_,_,_⟩) rfl fun K hK=>?_;simp only[Lx.arr,e16,e17];go_simp;refine hK _ _ ⟨VK s 23 ?v18,?p18,h.put (i:=18) (by decide) (fun e=>by omega) ?v18 ((bR _ _).alloc (nR _) _) ?q18⟩
   case q18=>exact Lx.In.new (h.kp.size)
   case p18=>simp[Lx.arr,VK,e16,e17]
  ·skip
   refine wpOp_step (o:=⟨some 24,_,_,_,_,_⟩) rfl fun K hK=>?_;simp only[Lx.arr];go_simp;refine hK _ _ ⟨VK s 24 ?v19,?p19,h.put (i:=19) (by decide) (fun e=>by omega) ?v19 (bR _ _) ?q19⟩
   case q19=>exact rfl
   case p19=>simp[Lx.arr,VK]
  ·skip
   refine wpOp_step (o:=⟨some 25,_,_,_,_,_⟩) rfl fun K hK=>?_;simp only[Lx.arr];go_simp;refine hK _ _ ⟨VK s 25 ?v20,?p20,h.put (i:=20) (by decide) (fun e=>by omega) ?v20 (bR _ _) ?q20⟩
   case q20=>exact rfl
   case p20=>simp[Lx.arr,VK]
  ·skip
   have f19:=h.fs 19 (by decide) (WQ hr (by kernel_rfl));have e19:s 24=_:=f19;have f20:=h.fs 20 (by decide) (WQ hr (by kernel_rfl));have e20:s 25=_:=f20;refine wpOp_step (o:=⟨some 26,_,_,_,_,_⟩) rfl fun K hK=>?_;simp only[Lx.arr,e19,e20];go_simp;refine hK _ _ ⟨VK s 26 ?v21,?p21,h.put (i:=21) (by decide) (fun e=>by omega) ?v21 ((bR _ _).alloc (nR _) _) ?q21⟩
   case q21=>exact Lx.In.new (h.kp.size)
   case p21=>simp[Lx.arr,VK,e19,e20]
  ·skip
   refine wpOp_step (o:=⟨some 27,_,_,_,_,_⟩) rfl fun K hK=>?_;simp only[Lx.arr];go_simp;refine hK _ _ ⟨VK s 27 ?v22,?p22,h.put (i:=22) (by decide) (fun e=>by omega) ?v22 (bR _ _) ?q22⟩
   case q22=>exact rfl
   case p22=>simp[Lx.arr,VK]
  ·skip
   have f22:=h.fs 22 (by decide) (WQ hr (by kernel_rfl));have e22:s 27=_:=f22;refine wpOp_step (o:=⟨some 28,_,_,_,_,_⟩) rfl fun K hK=>?_;simp only[Lx.arr,e22];go_simp;refine hK _ _ ⟨VK s 28 ?v23,?p23,h.put (i:=23) (by decide) (fun e=>by omega) ?v23 ((bR _ _).alloc (nR _) _) ?q23⟩
   case q23=>exact Lx.In.new (h.kp.size)
   case p23=>simp[Lx.arr,VK,e22]
  ·skip
   obtain⟨a6,b6,c6,⟨g6,e6,h6,l6⟩,t6⟩:=h.fs 6 (by decide) (WQ hr (by kernel_rfl));change s 11=_ at e6;obtain⟨g8,e8,h8,l8⟩:=h.fs 8 (by decide) (WQ hr (by kernel_rfl));change s 13=_ at e8;obtain⟨lo15,cv15,⟨g15,e15,h15,l15⟩,t15⟩:=h.fs 15 (by decide) (WQ hr (by kernel_rfl));change s 20=_ at e15;obtain⟨g18,e18,h18,l18⟩:=h.fs 18 (by decide) (WQ hr (by kernel_rfl));change s 23=_ at e18;obtain⟨g21,e21,h21,l21⟩:=h.fs 21 (by decide) (WQ hr (by kernel_rfl));change s 26=_ at e21;obtain⟨g23,e23,h23,l23⟩:=h.fs 23 (by decide) (WQ hr (by kernel_rfl));change s 28=_ at e23;refine wpOp_step (o:=⟨some 29,_,_,_,_,_⟩) rfl fun K hK=>?_;simp only[Lx.arr,e6,e8,e15,e18,e21,e23];go_simp;refine hK _ _ ⟨VK s 29 (.agg #[.slice (some ⟨g6,0,none⟩) 3 3,.slice (some ⟨g8,0,none⟩) 1 1,.slice (some ⟨g15,0,none⟩) 1 1,.slice (some ⟨g18,0,none⟩) 2 2,.slice (some ⟨g21,0,none⟩) 2 2,.slice none 0 0,.slice (some ⟨g23,0,none⟩) 1 1,.slice none 0 0]),?p24,h.put (i:=24) (by decide) (fun _=>h.d13 (.inr (.inl rfl)) (WQ hr (by kernel_rfl))) (.agg #[.slice (some ⟨g6,0,none⟩) 3 3,.slice (some ⟨g8,0,none⟩) 1 1,.slice (some ⟨g15,0,none⟩) 1 1,.slice (some ⟨g18,0,none⟩) 2 2,.slice (some ⟨g21,0,none⟩) 2 2,.slice none 0 0,.slice (some ⟨g23,0,none⟩) 1 1,.slice none 0 0]) (bR _ _) ?q24⟩
   case q24=>exact⟨_,_,_,_,_,_,rfl,⟨a6,b6,c6,⟨g6,rfl,h6,l6⟩,t6⟩,⟨g8,rfl,h8,l8⟩,⟨lo15,cv15,⟨g15,rfl,h15,l15⟩,t15⟩,⟨g18,rfl,h18,l18⟩,⟨g21,rfl,h21,l21⟩,⟨g23,rfl,h23,l23⟩⟩
   case p24=>simp[Lx.arr,VK,e6,e8,e15,e18,e21,e23]
  ·have f24:=h.fs 24 (by decide) (WQ hr (by kernel_rfl));obtain⟨a0,b0,c0,d0,e0,f0,e24,t6,⟨g8,rfl,h8,l8⟩,t15,⟨g18,rfl,h18,l18⟩,⟨g21,rfl,h21,l21⟩,⟨g23,rfl,h23,l23⟩⟩:=f24;have e24:s 29=_:=e24;obtain⟨a6,b6,c6,⟨g6,rfl,h6,l6⟩,t6⟩:=t6;obtain⟨lo,cv,⟨g15,rfl,h15,l15⟩,t15⟩:=t15;have zc:∀ o:Nat,w1.cell? ⟨X.r,o,none⟩=zero8[o]?:=fun o=>by simp[World.cell?,h.rs]
   have zf:∀ o:Nat,w1.frozen? ⟨X.r,o,none⟩=false:=fun o=>by simp[World.frozen?,h.rs]
   have z0:=zc 0;have y0:=zf 0;have z1:=zc 1;have y1:=zf 1;have z2:=zc 2;have y2:=zf 2;have z3:=zc 3;have y3:=zf 3;have z4:=zc 4;have y4:=zf 4;have z5:=zc 5;have y5:=zf 5;have z6:=zc 6;have y6:=zf 6;have z7:=zc 7;have y7:=zf 7;unfold zero8 at z0 z1 z2 z3 z4 z5 z6 z7;simp only[List.getElem?_toArray,List.getElem?_cons_zero,List.getElem?_cons_succ]at z0 z1 z2 z3 z4 z5 z6 z7;have hall:∀ j,j<26→(L.setIfInBounds 25 true).getD j false=true:=fun j hj=>by
    by_cases hj5:j=25
    ·subst hj5;exact getD_set_at (by have:=h.sz;omega)
    ·rw[UH hj5];rcases(show j=0∨j=1∨j=2∨j=3∨j=4∨j=5∨j=6∨j=7∨j=8∨j=9∨j=10∨j=11∨j=12∨j=13∨j=14∨j=15∨j=16∨j=17∨j=18∨j=19∨j=20∨j=21∨j=22∨j=23∨j=24 by omega) with rfl|rfl|rfl|rfl|rfl|rfl|rfl|rfl|rfl|rfl|rfl|rfl|rfl|rfl|rfl|rfl|rfl|rfl|rfl|rfl|rfl|rfl|rfl|rfl|rfl <;> exact WQ hr (by kernel_rfl)
   have hI0:X.Inv0 w1:=⟨h.kp,h.ow,h.rs⟩;have hF0:X.F24 w1 _ _ _ _ _ _:=⟨⟨a6,b6,c6,⟨g6,rfl,h6,l6⟩,t6⟩,⟨g8,rfl,h8,l8⟩,⟨lo,cv,⟨g15,rfl,h15,l15⟩,t15⟩,⟨g18,rfl,h18,l18⟩,⟨g21,rfl,h21,l21⟩,⟨g23,rfl,h23,l23⟩⟩;refine wpOp_step (o:=⟨none,_,_,_,_,_⟩) rfl fun K hK=>?_;simp only[Lx.arr,e24];clear hnext zc zf;go_simp;refine hK _ _ (.inr ⟨hall,s,_,_,_,_,_,_,w1,?_,hI0,hF0,rfl⟩);simp[Lx.arr,e24]
end Go.Proofs.YtmfpnfdinoofpaaGreatDoor
