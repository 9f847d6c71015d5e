/- A part of the proof. -/
import Derived.Test.YtepgopnnaeoolaaGreatDoorJ4
namespace Go.Proofs.YtepgopnnaeoolaaGreatDoor
section
open Go.RowKit
section
variable {P:Program} {md:Region.Mode} {ops:Array Oper} {Q:Exit→Act→World→Prop} {S:World→Prop} {X:Nat}
theorem We.tk (i d:Nat) {o1:Op} {o2:TypeId} {o3:String} {o4:Array Edge} {o5:Option (Nat×Bool)} {n:Nat} {v:Value} {L l2:Array Bool} {a a2:Act} {w:World} (hi:ops[i]?=some ⟨some d,o1,o2,o3,o4,o5⟩) (hS:S w)
 (h:We P md ops Q S X n l2 a2 w) (hw:Region.wanted ⟨some d,o1,o2,o3,o4,o5⟩ (yielded ops a.tmps)=true:=by rfl) (hy:∀ w',S w'→(execOp a.eval ⟨some d,o1,o2,o3,o4,o5⟩).run P w'=.ok (.value v) w':=by intro w' hSw;go_simp;try with_reducible rfl)
 (hl:L.setIfInBounds i true=l2:=by simp only[List.setIfInBounds_toArray,List.set] <;> rfl) (ha:a.put (some d) v=a2:=by simp only[Act.put,List.setIfInBounds_toArray,List.set] <;> rfl)
 (hs:Region.noSelect ops=true:=by kernel_rfl) (hf:Region.free md ops L i=true:=by kernel_rfl) (hr:(Region.ready md ops L).contains i=true:=by kernel_rfl) (hX:waits md ops X i=true:=by kernel_rfl)
 (hQ:∀ c a w,Q (.panic c) (a.put (some d) v) w→Q (.panic c) a w:=by exact fun _ _ _ h=>h):We P md ops Q S X (n+1) L a w:=We.take hi hs hf hr hX hQ (.inl ⟨hw,hy⟩) hS (by rw[hl,ha];exact h)
theorem We.om (i d:Nat) {o1:Op} {o2:TypeId} {o3:String} {o4:Array Edge} {o5:Option (Nat×Bool)} {n:Nat} {L:Array Bool} {a:Act} {w:World} (ho:ops[i]?=some ⟨some d,o1,o2,o3,o4,o5⟩)
 (h:∀ K:Act→World→Prop,Hid (∀ a w,(i=X∨S w)→We P md ops Q S X n (L.setIfInBounds i true) a w→K a w)→if Region.wanted ⟨some d,o1,o2,o3,o4,o5⟩ (yielded ops a.tmps)=true then Oper.wp P ⟨some d,o1,o2,o3,o4,o5⟩ a w K Q else K (a.put (some d) undef) w)
 (hr:Region.ready md ops L=[i]:=by kernel_rfl):We P md ops Q S X (n+1) L a w:=.one hr (.mk ho h)
theorem We.on (i:Nat) {o1:Op} {o2:TypeId} {o3:String} {o4:Array Edge} {o5:Option (Nat×Bool)} {n:Nat} {L:Array Bool} {a:Act} {w:World} (ho:ops[i]?=some ⟨none,o1,o2,o3,o4,o5⟩)
 (h:∀ K:Act→World→Prop,Hid (∀ a w,(i=X∨S w)→We P md ops Q S X n (L.setIfInBounds i true) a w→K a w)→if Region.wanted ⟨none,o1,o2,o3,o4,o5⟩ (yielded ops a.tmps)=true then Oper.wp P ⟨none,o1,o2,o3,o4,o5⟩ a w K Q else K (a.put none undef) w)
 (hr:Region.ready md ops L=[i]:=by kernel_rfl):We P md ops Q S X (n+1) L a w:=.one hr (.mk ho h)
theorem Wy.m (d:Nat) {o1:Op} {o2:TypeId} {o3:String} {o4:Array Edge} {o5:Option (Nat×Bool)} {i n:Nat} {L:Array Bool} {a:Act} {w:World} (ho:ops[i]?=some ⟨some d,o1,o2,o3,o4,o5⟩)
 (h:∀ K:Act→World→Prop,Hid (∀ a w,(i=X∨S w)→We P md ops Q S X n (L.setIfInBounds i true) a w→K a w)→if Region.wanted ⟨some d,o1,o2,o3,o4,o5⟩ (yielded ops a.tmps)=true then Oper.wp P ⟨some d,o1,o2,o3,o4,o5⟩ a w K Q else K (a.put (some d) undef) w):Wy P md ops Q S X n L a w i:=.mk ho h
theorem Wy.n {o1:Op} {o2:TypeId} {o3:String} {o4:Array Edge} {o5:Option (Nat×Bool)} {i n:Nat} {L:Array Bool} {a:Act} {w:World} (ho:ops[i]?=some ⟨none,o1,o2,o3,o4,o5⟩)
 (h:∀ K:Act→World→Prop,Hid (∀ a w,(i=X∨S w)→We P md ops Q S X n (L.setIfInBounds i true) a w→K a w)→if Region.wanted ⟨none,o1,o2,o3,o4,o5⟩ (yielded ops a.tmps)=true then Oper.wp P ⟨none,o1,o2,o3,o4,o5⟩ a w K Q else K (a.put none undef) w):Wy P md ops Q S X n L a w i:=.mk ho h
end
end
section
open Go.RowKit
def WH {α:Type} (cf:α→Nat→Value→Prop) (size:Nat) (bnd:α→Prop) (us:List Value) (n:Nat):Prop :=
 us.length=n * size∧∀ j,j<n→∃ x,bnd x∧∀ i,i<size→∃ u,us[j * size+i]?=some u∧cf x i u
section
variable {α:Type} {cf cf':α→Nat→Value→Prop} {size n m:Nat} {bnd bnd':α→Prop} {us vs:List Value}
theorem WH.nil (cf:α→Nat→Value→Prop) (size:Nat) (bnd:α→Prop):WH cf size bnd [] 0:=⟨by simp,fun _ h=>absurd h (Nat.not_lt_zero _)⟩
theorem WH.mono (h:WH cf size bnd us n) (hc:∀ x i u,cf x i u→cf' x i u) (hb:∀ x,bnd x→bnd' x):WH cf' size bnd' us n :=
 ⟨h.1,fun j hj=>by
  obtain⟨x,h1,h2⟩:=h.2 j hj;exact⟨x,hb x h1,fun i hi=>by obtain⟨u,h3,h4⟩:=h2 i hi;exact⟨u,h3,hc x i u h4⟩⟩⟩
theorem lt_rows {j i n size:Nat} (hj:j<n) (hi:i<size):j * size+i<n * size:=by
 exact Zby
theorem WH.append (h:WH cf size bnd us n) (k:WH cf size bnd vs m):WH cf size bnd (us++vs) (n+m):=by
 refine⟨by rw[List.length_append,h.1,k.1,Nat.add_mul],fun j hj=>?_⟩;rcases Nat.lt_or_ge j n with hlt|hge
 ·obtain⟨x,hb,hx⟩:=h.2 j hlt;refine⟨x,hb,fun i hi=>?_⟩;obtain⟨u,h1,h2⟩:=hx i hi;exact⟨u,by rw[List.getElem?_append_left (by rw[h.1];exact lt_rows hlt hi)];exact h1,h2⟩
 ·obtain⟨x,hb,hx⟩:=k.2 (j - n) (by omega);refine⟨x,hb,fun i hi=>?_⟩;obtain⟨u,h1,h2⟩:=hx i hi;have e:j * size=(j - n) * size+n * size:=by rw[← Nat.add_mul];congr 1;omega
  exact⟨u,by rw[List.getElem?_append_right (by rw[h.1];omega),h.1,show j * size+i - n * size=(j - n) * size+i by omega];exact h1,h2⟩
theorem WH.one (x:α) (hl:us.length=size) (hb:bnd x) (h:∀ i,i<size→∃ u,us[i]?=some u∧cf x i u):WH cf size bnd us 1 :=
 ⟨by rw[hl,Nat.one_mul],fun j hj=>⟨x,hb,fun i hi=>by
  obtain rfl:j=0:=by omega
  rw[Nat.zero_mul,Nat.zero_add];exact h i hi⟩⟩
theorem row_ne {j k i i0 size:Nat} (hi:i<size) (hi0:i0<size) (h:j≠k):k * size+i0≠j * size+i:=by
 rcases Nat.lt_or_gt_of_ne h with h1|h1
 ·have:(j+1) * size≤k * size:=Nat.mul_le_mul_right size h1;rw[Nat.succ_mul]at this;omega
 ·have:(k+1) * size≤j * size:=Nat.mul_le_mul_right size h1;rw[Nat.succ_mul]at this;omega
theorem WH.set (h:WH cf size bnd us n) (k i0:Nat) (hk:k<n) (hi0:i0<size) (u0:Value) (f:α→α) (hb:∀ x,bnd x→bnd' x) (hf:∀ x,bnd x→bnd' (f x)∧cf (f x) i0 u0∧∀ i u,i<size→i≠i0→cf x i u→cf (f x) i u):WH cf size bnd' (us.set (k * size+i0) u0) n:=by
 refine⟨by rw[List.length_set];exact h.1,fun j hj=>?_⟩;obtain⟨x,hbx,hx⟩:=h.2 j hj;by_cases hjk:j=k
 ·subst hjk;refine⟨f x,(hf x hbx).1,fun i hi=>?_⟩;by_cases hii:i=i0
  ·subst hii;exact⟨u0,by rw[List.getElem?_set,if_pos rfl,if_pos (by rw[h.1];exact lt_rows hj hi)],(hf x hbx).2.1⟩
  ·obtain⟨u,h1,h2⟩:=hx i hi;exact⟨u,by rw[List.getElem?_set,if_neg (by omega)];exact h1,(hf x hbx).2.2 i u hi hii h2⟩
 ·refine⟨x,hb x hbx,fun i hi=>?_⟩;obtain⟨u,h1,h2⟩:=hx i hi;exact⟨u,by rw[List.getElem?_set,if_neg (row_ne hi hi0 hjk)];exact h1,h2⟩
theorem WH.rows {K:Nat→Prop} {w:World} {base:Nat} {e:TypeId} {v:Value} (d:α) (h:WH cf size bnd us n) (ho:w.ownsRow base e size v n us) (hK:∀ g,v.ownBlock=some g→K g) :
 ∃ l:List α,l.length=n∧(∀ x ∈ l,bnd x)∧Wd K w v l.length size fun j i u=>cf (l.getD j d) i u:=by
 have hc:∀ m,m≤n→∃ c:List α,c.length=m∧(∀ x ∈ c,bnd x)∧∀ j,j<m→∀ i,i<size→∃ u,us[j * size+i]?=some u∧cf (c.getD j d) i u:=by
  intro m;induction m with
  | zero=>intro _;exact⟨[],rfl,by simp,fun j hj=>absurd hj (Nat.not_lt_zero _)⟩
  | succ m ih =>
   intro hm;obtain⟨c,h1,h2,h3⟩:=ih (by omega);obtain⟨x,hb,hx⟩:=h.2 m (by omega);refine⟨c++[x],by simp[h1],fun y hy=>?_,fun j hj i hi=>?_⟩
   ·rcases List.mem_append.1 hy with hy|hy
    ·exact h2 y hy
    ·rw[List.mem_singleton.1 hy];exact hb
   ·by_cases e:j=m
    ·exact Zb2
    ·rw[List.getD_eq_getElem?_getD,List.getElem?_append_left (by omega),← List.getD_eq_getElem?_getD];exact h3 j (by omega) i hi
 obtain⟨c,h1,h2,h3⟩:=hc n (nR _);refine⟨c,h1,h2,?_⟩;rw[h1];exact Ua ho _ hK fun j i hj hi=>h3 j hj i hi
theorem getD_inl {l:List α} {j:Nat} (d:α) (h:j<l.length):l.getD j d ∈ l:=by
 rw[List.getD_eq_getElem?_getD,List.getElem?_eq_getElem h];exact List.getElem_mem h
theorem Wd.goodR {K:Nat→Prop} {w:World} {v:Value} {l:List α} {d:α} (h:Wd K w v l.length size fun j i u=>cf (l.getD j d) i u) (hb:∀ x ∈ l,bnd x) :
 ∃ us,VG w v l.length us∧WH cf size bnd us l.length:=by
 obtain⟨us,h1,h2,h3⟩:=Wd.news h;exact⟨us,h2,h1,fun j hj=>⟨_,hb _ (getD_inl d hj),fun i hi=>h3 j i hj hi⟩⟩
theorem WH.ones (h:WH cf size bnd us n) (ho:∀ x i u,i<size→cf x i u→u.oneCell'=true):∀ u ∈ us,u.oneCell'=true:=by
 intro u hu;obtain⟨k,hk,rfl⟩:=List.mem_iff_getElem.1 hu;have h1:=h.1;rcases Nat.eq_zero_or_pos size with h0|h0
 ·rw[h1,h0]at hk;omega
 obtain⟨x,_,hx⟩:=h.2 (k / size) (Nat.div_lt_of_lt_mul (by rw[Nat.mul_comm];omega));obtain⟨u',k1,k2⟩:=hx (k % size) (Nat.mod_lt _ h0);rw[show k / size * size+k % size=k by rw[Nat.mul_comm];exact Nat.div_add_mod k size,List.getElem?_eq_getElem hk]at k1;obtain rfl:=Option.some.inj k1;exact ho x _ _ (Nat.mod_lt _ h0) k2
end
theorem VG.below {w0 w:World} {v:Value} {m:Nat} {us:List Value} (h:VG w0 v m us) (hb:Below w0.heap.size w0 w):VG w v m us :=
 h.keep fun _ _ _ _ _ _ hc=>(hb.cell (wL w0 _ hc)).trans hc
def typCell (K:Nat→Prop) (w:World) (x:List Int×List Int) (i:Nat) (u:Value):Prop:=Wg K w u (if i=0 then x.1 else x.2)
theorem ints_one {K:Nat→Prop} {w:World} {u:Value} {l:List Int} (h:Wg K w u l):u.oneCell'=true:=by obtain⟨A,c,rfl,_⟩:=h;rfl
theorem cells_one {K:Nat→Prop} {w:World} {u:Value} {n size:Nat} {f:Nat→Nat→Value→Prop} (h:Wd K w u n size f):u.oneCell'=true:=by obtain⟨A,c,rfl,_⟩:=h;rfl
theorem bytes_oneK {K:Nat→Prop} {w:World} {u:Value} {l:List Nat} (h:UJ K w u l):u.oneCell'=true:=by obtain⟨A,c,rfl,_⟩:=h;rfl
theorem typ_one {K:Nat→Prop} {w:World} (x:List Int×List Int) (i:Nat) (u:Value) (_:i<2) (h:typCell K w x i u):u.oneCell'=true:=ints_one h
theorem imp_one (x:ByteArray×ByteArray×Int) (i:Nat) (u:Value) (_:i<3) (h:impCell x i u):u.oneCell'=true:=by
 match i,h with
 | 0,h=>rw[show u=_ from h];rfl
 | 1,h=>rw[show u=_ from h];rfl
 | _+2,h=>rw[show u=_ from h];rfl
theorem fnc_one {K:Nat→Prop} {w:World} (x:Fnc) (i:Nat) (u:Value) (_:i<3) (h:VU K w x i u):u.oneCell'=true:=by
 match i,h with
 | 0,h=>rw[show u=_ from h];rfl
 | 1,h=>exact ints_one h
 | _+2,h=>exact cells_one h
theorem mem_one (x:Int×Int) (i:Nat) (u:Value) (_:i<2) (h:memCell x i u):u.oneCell'=true:=by
 match i,h with
 | 0,h=>rw[show u=_ from h];rfl
 | _+1,h=>rw[show u=_ from h];rfl
theorem glob_one (x:Int×Bool×Int) (i:Nat) (u:Value) (_:i<3) (h:VX x i u):u.oneCell'=true:=by
 match i,h with
 | 0,h=>rw[show u=_ from h];rfl
 | 1,h=>rw[show u=_ from h];rfl
 | _+2,h=>rw[show u=_ from h.1];rfl
theorem exp_one (x:ByteArray×Int×Int) (i:Nat) (u:Value) (_:i<3) (h:expCell x i u):u.oneCell'=true:=by
 match i,h with
 | 0,h=>rw[show u=_ from h];rfl
 | 1,h=>rw[show u=_ from h];rfl
 | _+2,h=>rw[show u=_ from h];rfl
theorem dat_one {K:Nat→Prop} {w:World} (x:Dat) (i:Nat) (u:Value) (_:i<4) (h:UI K w x i u):u.oneCell'=true:=by
 match i,h with
 | 0,h=>rw[show u=_ from h];rfl
 | 1,h=>rw[show u=_ from h];rfl
 | 2,h=>rw[show u=_ from h];rfl
 | _+3,h=>exact bytes_oneK h
theorem cus_one {K:Nat→Prop} {w:World} (x:ByteArray×List Nat) (i:Nat) (u:Value) (_:i<2) (h:UM K w x i u):u.oneCell'=true:=by
 match i,h with
 | 0,h=>rw[show u=_ from h];rfl
 | _+1,h=>exact bytes_oneK h
def bndT (t:List Int×List Int):Prop:=t.1.length≤1000∧t.2.length≤1000
def bndF (k:Nat) (f:Fnc):Prop:=f.loc.length≤1000+k∧f.code.length≤900000+k
def bndD (d:Dat):Prop:=d.bytes.length≤1000
def bndC (c:ByteArray×List Nat):Prop:=c.2.length≤1000
structure Sz (k:Nat) (m:W8):Prop where
 types:m.types.length≤1000+k∧∀ t ∈ m.types,bndT t
 imps:m.imps.length≤1000+k
 funs:m.funs.length≤1000+k∧∀ f ∈ m.funs,bndF k f
 mems:m.mems.length≤1000+k
 globs:m.globs.length≤1000+k
 exps:m.exps.length≤1000+k
 datas:m.datas.length≤1000+k∧∀ d ∈ m.datas,bndD d
 cus:m.cus.length≤1000+k∧∀ c ∈ m.cus,bndC c
 fp:0<m.funs.length
theorem bndF.le {k k':Nat} {f:Fnc} (h:bndF k f) (hk:k≤k'):bndF k' f:=⟨by have:=h.1;omega,by have:=h.2;omega⟩
theorem Sz.le {k k':Nat} {m:W8} (h:Sz k m) (hk:k≤k'):Sz k' m :=
 ⟨⟨by have:=h.types.1;omega,h.types.2⟩,by have:=h.imps;omega,⟨by have:=h.funs.1;omega,fun f hf=>(h.funs.2 f hf).le hk⟩,by have:=h.mems;omega,by have:=h.globs;omega,by have:=h.exps;omega,⟨by have:=h.datas.1;omega,h.datas.2⟩,⟨by have:=h.cus.1;omega,h.cus.2⟩,h.fp⟩
theorem WQ.forms {K:Nat→Prop} {w:World} {v:Mv} {m:W8} (h:WQ K w v m) :
 ∃ (A0:Option Addr) (c0:Nat) (A1:Option Addr) (c1:Nat) (A2:Option Addr) (c2:Nat) (A3:Option Addr) (c3:Nat) (A4:Option Addr) (c4:Nat) (A5:Option Addr) (c5:Nat) (A6:Option Addr) (c6:Nat) (A7:Option Addr) (c7:Nat),
  v=⟨.slice A0 m.types.length c0,.slice A1 m.imps.length c1,.slice A2 m.funs.length c2,.slice A3 m.mems.length c3,.slice A4 m.globs.length c4,.slice A5 m.exps.length c5,.slice A6 m.datas.length c6,.slice A7 m.cus.length c7⟩:=by
 obtain⟨v0,v1,v2,v3,v4,v5,v6,v7⟩:=v;obtain⟨A0,c0,h0,_⟩:=Wd.form h.types;obtain⟨A1,c1,h1,_⟩:=Wd.form h.imps;obtain⟨A2,c2,h2,_⟩:=Wd.form h.funs;obtain⟨A3,c3,h3,_⟩:=Wd.form h.mems;obtain⟨A4,c4,h4,_⟩:=Wd.form h.globs;obtain⟨A5,c5,h5,_⟩:=Wd.form h.exps;obtain⟨A6,c6,h6,_⟩:=Wd.form h.datas;obtain⟨A7,c7,h7,_⟩:=Wd.form h.cus;simp only at h0 h1 h2 h3 h4 h5 h6 h7;subst h0 h1 h2 h3 h4 h5 h6 h7;exact⟨A0,c0,A1,c1,A2,c2,A3,c3,A4,c4,A5,c5,A6,c6,A7,c7,rfl⟩
end
section
open Go.RowKit
def UptoK (h:Nat) (w:World) (e:Ending) (w':World):Prop:=(∃ q:Nat,q≤h∧e=.returned (.int .i64 (q:Int)))∧w=w'
theorem uptoK_mk {v:Int} {h:Nat} (h0:0≤v) (h1:v≤(h:Int)):∃ q:Nat,q≤h∧Ending.returned (.int .i64 v)=.returned (.int .i64 (q:Int)) :=
 ⟨v.toNat,by omega,by rw[Int.toNat_of_nonneg h0]⟩
theorem within0_K (n:Int) (h:Nat) (hh:h≤1048576) (w:World) :
 Calls Tryz.prog 24 #[.int .i64 n,.int .i64 0,.int .i64 (h:Int)] w (UptoK h w):=by
 have hz:((h:Int) - 0+1==0)=false:=by simp;omega
 have hz2:((h:Int)+1==0)=false:=by simp;omega
 have h0:(0:Int)<(h:Int)+1:=by omega
 have t0:=Int.lt_tmod_of_pos n h0;have t1:=Int.tmod_lt_of_pos n h0;have e0:=Int.emod_nonneg n (Int.ne_of_gt h0);have e1:=Int.emod_lt_of_pos n h0;go_enter Tryz.func24,Tryz.ntmps24;go_wp2
 all_goals go_ret
 all_goals exact⟨uptoK_mk (by omega) (by omega),rfl⟩
def PlaceK (k:Nat) (w:World) (e:Ending) (w':World):Prop:=(∃ q:Nat,q<k∧e=.returned (.int .i64 (q:Int)))∧w=w'
theorem at_any (n:Int) (k:Nat) (hk:0<k) (hh:k≤1000000) (w:World) :
 Calls Tryz.prog 28 #[.int .i64 n,.int .i64 (k:Int)] w (PlaceK k w):=by
 obtain⟨h,rfl⟩:∃ h,k=h+1:=⟨k - 1,by omega⟩;have e1:IntKind.i64.wrap (((h+1:Nat):Int) - 1)=(h:Int):=by rw[show((h+1:Nat):Int) - 1=(h:Int) by omega];exact IntWalk.i64_in _ (by omega)
 obtain⟨kv,hkv⟩:∃ kv:Int,kv=((h+1:Nat):Int):=⟨_,rfl⟩;rw[← hkv]at e1 ⊢;clear hkv;go_enter Tryz.func28,Tryz.ntmps28;go_wp2_with fail
 go_at_call 24;refine(within0_K n h (by omega) w).mono ?_;rintro e w' ⟨⟨q,hq,rfl⟩,rfl⟩;go_wp2;go_ret;exact⟨⟨q,by omega,rfl⟩,rfl⟩
end
end Go.Proofs.YtepgopnnaeoolaaGreatDoor
