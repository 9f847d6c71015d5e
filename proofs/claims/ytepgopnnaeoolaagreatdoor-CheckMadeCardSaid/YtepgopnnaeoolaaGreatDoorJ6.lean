/- A part of the proof. -/
import Derived.Test.YtepgopnnaeoolaaGreatDoorJ5
import Derived.StillTailTactics
import Derived.Deep.CutBlock
namespace Go.Proofs.YtepgopnnaeoolaaGreatDoor
section
open Go.RowKit
set_option maxHeartbeats 2000000
set_option maxRecDepth 100000
theorem ZE {P:Prop}(h:P:=by
 refine hK.out _ _ (.inr hR.bl) ?_;clear hK K;try simp only[Act.put,sA,List.set]
 refine We.om 13 4 rfl fun K hK=>?_;go_simp;refine hK.out _ _ (.inl rfl) ?_;clear hK K;refine We.done (by kernel_rfl) ?_ _;have HP:=hD ((rows_made (Rows.front hR) HB5.out HGS.out).post (n:=n) HKL.out (by omega));clear hR;go_wp2
 all_goals go_ret
 all_goals exact HP.out):P:=h
structure Trn where
 what:Int
 pos:Int
 to_:Int
 n:Int
 raw:VV
def Trn.val (t:Trn) (Lv:Value):Value:=.agg #[.int .i64 t.what,.int .i64 t.pos,.int .i64 t.to_,.int .u64 t.n,.int .i64 t.raw.op,.int .i64 t.raw.a,.int .i64 t.raw.b,.int .u64 t.raw.n,Lv]
def lt (w:World) (k:Nat):Prop:=k<w.heap.size
def CodePost (K:Nat→Prop) (n:Nat) (w:World) (e:Ending) (w':World):Prop:=∃ v c,e=.returned v∧c.length≤n+1∧Vh (fun k=>K k∨w.heap.size≤k∧k<w'.heap.size) w' v c∧Below w.heap.size w w'
structure Made (K:Nat→Prop) (w w':World) (v:Value) (n:Nat) (us:List Value):Prop where
 ow:w'.ownsRow 0 76 5 v n us
 gd:Vu K w us n
 nw:∀ g,v.ownBlock=some g→w.heap.size≤g
 bl:Below w.heap.size w w'
theorem Made.lit {K:Nat→Prop} {w w':World} (hb:Below w.heap.size w w'):Made K w (w'.alloc (.cells #[] 76)) (.slice (some ⟨w'.heap.size,0,none⟩) 0 0) 0 [] :=
 ⟨World.ownsRow_made w' #[] 0 (nZ _) (nZ _) rfl,Vu.nil _ _,fun g hg=>by have e:some w'.heap.size=some g:=hg;simp only[Option.some.injEq]at e;have:=hb.size;omega,Wi hb _⟩
theorem Made.lit1 {K:Nat→Prop} {w w':World} (hb:Below w.heap.size w w') (x:VV) {Lv:Value} (h:Wg K w Lv x.l) (hn:VK x.n) (hf:fitN x.l.length):Made K w (w'.alloc (.cells #[.int .i64 x.op,.int .i64 x.a,.int .i64 x.b,.int .u64 x.n,Lv] 76)) (.slice (some ⟨w'.heap.size,0,none⟩) 1 1) 1 [.int .i64 x.op,.int .i64 x.a,.int .i64 x.b,.int .u64 x.n,Lv] :=
 ⟨World.ownsRow_lit w' #[.int .i64 x.op,.int .i64 x.a,.int .i64 x.b,.int .u64 x.n,Lv] 1 (nZ _) (by decide) rfl,insCell_one x h hn hf,fun g hg=>by have e:some w'.heap.size=some g:=hg;simp only[Option.some.injEq]at e;have:=hb.size;omega,Wi hb _⟩
theorem Made.below {K:Nat→Prop} {w w' w'':World} {v:Value} {n:Nat} {us:List Value} (h:Made K w w' v n us) (hb:Below w'.heap.size w' w''):Made K w w'' v n us :=
 ⟨Vi h.ow hb,h.gd,h.nw,Wa h.bl hb⟩
theorem Made.push {K:Nat→Prop} {w w1 w2:World} {v v2:Value} {n m n2:Nat} {us vs xs:List Value} (h:Made K w w1 v n us) (hg:w1.grownBy w2 v.ownBlock) (ho:w2.ownsRow 0 76 5 v2 n2 xs) (hn:n2=n+m) (hx:xs=us++vs) (gv:Vu K w vs m) (hat:v2.ownBlock=v.ownBlock∨v2.ownBlock=some w1.heap.size):Made K w w2 v2 (n+m) (us++vs):=by
 subst hn hx;refine⟨ho,h.gd.append gv,fun g e=>?_,h.bl.grown hg h.bl.size h.nw⟩;rcases hat with k|k
 ·exact h.nw g (k ▸ e)
 ·have:=k.symm.trans e;simp only[Option.some.injEq]at this;have:=h.bl.size;omega
theorem Made.take {K:Nat→Prop} {w w':World} {g n c:Nat} {us:List Value} (h:Made K w w' (.slice (some ⟨g,0,none⟩) n c) n us) (k:Nat) (hk:k≤n):Made K w w' (.slice (some ⟨g,0,none⟩) k c) k (us.take (k * 5)) :=
 ⟨owns_cut h.ow hk,h.gd.take k hk,h.nw,h.bl⟩
theorem Made.set {K:Nat→Prop} {w w':World} {g n c:Nat} {us:List Value} (h:Made K w w' (.slice (some ⟨g,0,none⟩) n c) n us) (k i0:Nat) (hk:k<n) (hi0:i0<5) (u0:Value) (f:VV→VV) (hf:∀ x,WR K w (f x) i0 u0∧∀ i u,i<5→i≠i0→WR K w x i u→WR K w (f x) i u) :
 Made K w (w'.setCell ⟨g,k * 5+i0,none⟩ u0) (.slice (some ⟨g,0,none⟩) n c) n (us.set (k * 5+i0) u0) :=
 ⟨(h.ow.stored (k * 5+i0) u0).1,h.gd.set k i0 hk hi0 u0 f hf,h.nw,h.bl.setCell (h.nw g rfl) u0⟩
theorem Made.post {K:Nat→Prop} {w w':World} {v:Value} {n m:Nat} {us:List Value} (h:Made K w w' v m us) (hK:∀ k,K k→k<w.heap.size) (hm:m≤n+1):CodePost K n w (.returned v) w':=by
 obtain⟨c,h1,h2⟩:=(h.gd.keep (K':=fun k=>K k∨w.heap.size≤k∧k<w'.heap.size) (Wf.below h.bl hK) fun _ hk=>.inl hk).code h.ow fun g hg=>.inr ⟨h.nw g hg,(h.ow.lt g hg).2⟩;exact⟨v,c,rfl,by omega,h2,h.bl⟩
theorem Made.some_ {K:Nat→Prop} {w w':World} {v:Value} {n:Nat} {us:List Value} (h:Made K w w' v n us) (hn:0<n):∃ g c,v=.slice (some ⟨g,0,none⟩) n c∧n≤c:=by
 rcases h.ow.2 with ⟨_,h0⟩|⟨g,c,_,h1,_,_,h2,_⟩
 ·omega
 ·exact⟨g,c,h1,h2⟩
theorem set_op (K:Nat→Prop) (w:World) (v:Int) (x:VV):WR K w { x with op:=v } 0 (.int .i64 v)∧∀ i u,i<5→i≠0→WR K w x i u→WR K w { x with op:=v } i u :=
 ⟨rfl,fun i _ _ hi h=>match i,hi,h with|0,hi,_=>absurd rfl hi|1,_,h=>h|2,_,h=>h|3,_,h=>h|_+4,_,h=>h⟩
theorem set_a (K:Nat→Prop) (w:World) (v:Int) (x:VV):WR K w { x with a:=v } 1 (.int .i64 v)∧∀ i u,i<5→i≠1→WR K w x i u→WR K w { x with a:=v } i u :=
 ⟨rfl,fun i _ _ hi h=>match i,hi,h with|0,_,h=>h|1,hi,_=>absurd rfl hi|2,_,h=>h|3,_,h=>h|_+4,_,h=>h⟩
theorem set_b (K:Nat→Prop) (w:World) (v:Int) (x:VV):WR K w { x with b:=v } 2 (.int .i64 v)∧∀ i u,i<5→i≠2→WR K w x i u→WR K w { x with b:=v } i u :=
 ⟨rfl,fun i _ _ hi h=>match i,hi,h with|0,_,h=>h|1,_,h=>h|2,hi,_=>absurd rfl hi|3,_,h=>h|_+4,_,h=>h⟩
theorem set_n (K:Nat→Prop) (w:World) (v:Int) (hv:VK v) (x:VV):WR K w { x with n:=v } 3 (.int .u64 v)∧∀ i u,i<5→i≠3→WR K w x i u→WR K w { x with n:=v } i u :=
 ⟨⟨rfl,hv⟩,fun i _ _ hi h=>match i,hi,h with|0,_,h=>h|1,_,h=>h|2,_,h=>h|3,hi,_=>absurd rfl hi|_+4,_,h=>h⟩
theorem set_l {K:Nat→Prop} {w:World} {u:Value} {l:List Int} (hu:Wg K w u l) (hl:fitN l.length) (x:VV):WR K w { x with l:=l } 4 u∧∀ i u,i<5→i≠4→WR K w x i u→WR K w { x with l:=l } i u :=
 ⟨⟨hu,hl⟩,fun i _ hi5 hi h=>match i,hi5,hi,h with|0,_,_,h=>h|1,_,_,h=>h|2,_,_,h=>h|3,_,_,h=>h|4,_,hi,_=>absurd rfl hi|_+5,hi5,_,_=>absurd hi5 (by omega)⟩
theorem below_lit_grown {w1 w3:World} {o:Obj} (hg:(w1.alloc o).grownBy w3 (Value.slice (some ⟨w1.heap.size,0,none⟩) 0 0).ownBlock):Below w1.heap.size w1 w3 :=
 (Wi (bR w1.heap.size w1) o).grown hg (Wi (bR w1.heap.size w1) o).size fun g e=>by
  have e2:some w1.heap.size=some g:=e;simp only[Option.some.injEq]at e2;omega
theorem Vh.dropI {K:Nat→Prop} {w:World} {g o n c:Nat} {cs:List VV} (h:Vh K w (.slice (some ⟨g,o,none⟩) n c) cs) (k:Nat) (hk:k≤n) (hn:cs.length=n) :
 ∃ us,VG w (.slice (if c=k then some ⟨g,o,none⟩ else some ⟨g,o+k * 5,none⟩) (n - k) (c - k)) (n - k) us∧Vu K w us (n - k):=by
 unfold Vh at h;rw[hn]at h;obtain⟨us,h1,h2,h3⟩:=(Wd.drop h k hk).news;have hg:Vu K w us (n - k):=⟨h1,fun j hj=>⟨_,fun i hi=>h3 j i hj hi⟩⟩;refine⟨us,?_,hg⟩;by_cases hc:c=k
 ·obtain⟨A,c',he,h4,_⟩:=h.form;simp only[vI]at he;obtain⟨-,-,rfl⟩:=he;rw[if_pos hc];have hl:us.length=0:=by rw[h1,show n - k=0 by omega,Nat.zero_mul]
  obtain rfl:=List.eq_nil_of_length_eq_zero hl;exact .inr ⟨_,_,rfl,fun j u hu=>by simp at hu⟩
 ·rw[if_neg hc];exact h2
theorem Vh.takeI {K:Nat→Prop} {w:World} {g o n c:Nat} {cs:List VV} (h:Vh K w (.slice (some ⟨g,o,none⟩) n c) cs) (k:Nat) (hk:k≤n) (hn:cs.length=n) :
 ∃ us,VG w (.slice (some ⟨g,o,none⟩) k c) k us∧Vu K w us k:=by
 unfold Vh at h;rw[hn]at h;obtain⟨us,h1,h2,h3⟩:=(Wd.take h k hk).news;exact⟨us,h2,h1,fun j hj=>⟨_,fun i hi=>h3 j i hj hi⟩⟩
theorem rows_made {K:Nat→Prop} {w w0 w':World} {v:Value} {n:Nat} {xs:List Value} (h:Rows w0 w' [⟨76,5,v,n,xs,true⟩]) (hb:Below w.heap.size w w0) (hg:Vu K w xs n):Made K w w' v n xs :=
 ⟨h.head,hg,fun g e=>Nat.le_trans hb.size (h.nw _ (List.mem_cons_self ..) g e),hb.trans (h.bl.mono hb.size)⟩
theorem Made.rows {K:Nat→Prop} {w w':World} {v:Value} {n:Nat} {us:List Value} (h:Made K w w' v n us):Rows w w' [⟨76,5,v,n,us,true⟩] :=
 ⟨h.bl,fun r hr=>by rw[List.mem_singleton.1 hr];exact W7.in_.mk rfl h.ow,fun r hr=>by rw[List.mem_singleton.1 hr];exact h.nw,List.pairwise_singleton _ _⟩
theorem code_any (K:Nat→Prop) (w:World) (hK:∀ k,K k→k<w.heap.size) (v:Value) (c:List VV) (hv:Vh K w v c) (hl:c.length≤900100) (t:Trn) (Lv:Value) (hL:Wg K w Lv t.raw.l) (ht:VK t.n∧VK t.raw.n∧fitN t.raw.l.length) :
 Calls Tryz.prog 29 #[v,t.val Lv] w (CodePost K c.length w):=by
 have HW:=hD ht;clear ht;have HKL:=hD hK;clear hK;obtain⟨us,hnw,hgd⟩:=hv.good;obtain⟨A,cap,rfl,hcap,hcm⟩:=Wd.form hv;obtain⟨Al,cl,hLe,hLm,_⟩:=hL.form;obtain⟨nl,hnl⟩:∃ nl,t.raw.l.length=nl:=⟨_,rfl⟩;rw[hnl]at hLe hLm;have HL:=hD hL;have HNL:=hD hnl;obtain⟨n,hn⟩:∃ n,c.length=n:=⟨_,rfl⟩;have HV:=hD hv;have HN:=hD hn;rw[hn]at hnw hgd hl hcap ⊢;have HNW:=hD hnw;have HGD:=hD hgd;obtain⟨what,pos,to_,tn,op,ra,rb,rn,rl⟩:=t;simp only at hLe HL HNL;subst hLe;clear hv hL hn hnl hnw hgd;simp only[Trn.val];have HB1:=hD ((bR w.heap.size w).alloc (nR _) (.cells #[.int .i64 what,.int .i64 pos,.int .i64 to_,.int .u64 tn,.int .i64 op,.int .i64 ra,.int .i64 rb,.int .u64 rn,.slice Al nl cl] 79));have HTC:Hid (∀ wz,Below (w.alloc (.cells #[.int .i64 what,.int .i64 pos,.int .i64 to_,.int .u64 tn,.int .i64 op,.int .i64 ra,.int .i64 rb,.int .u64 rn,.slice Al nl cl] 79)).heap.size (w.alloc (.cells #[.int .i64 what,.int .i64 pos,.int .i64 to_,.int .u64 tn,.int .i64 op,.int .i64 ra,.int .i64 rb,.int .u64 rn,.slice Al nl cl] 79)) wz→wz.cell? ⟨w.heap.size,0,none⟩=some (.int .i64 what)∧wz.cell? ⟨w.heap.size,1,none⟩=some (.int .i64 pos)∧wz.cell? ⟨w.heap.size,2,none⟩=some (.int .i64 to_)∧wz.cell? ⟨w.heap.size,3,none⟩=some (.int .u64 tn)∧wz.cell? ⟨w.heap.size,4,none⟩=some (.int .i64 op)∧wz.cell? ⟨w.heap.size,5,none⟩=some (.int .i64 ra)∧wz.cell? ⟨w.heap.size,6,none⟩=some (.int .i64 rb)∧wz.cell? ⟨w.heap.size,7,none⟩=some (.int .u64 rn)∧wz.cell? ⟨w.heap.size,8,none⟩=some (.slice Al nl cl)):=fun wz hb=>by
  have h9:∀ i,wz.cell? ⟨w.heap.size,i,none⟩=(#[.int .i64 what,.int .i64 pos,.int .i64 to_,.int .u64 tn,.int .i64 op,.int .i64 ra,.int .i64 rb,.int .u64 rn,.slice Al nl cl]:Array Value)[i]?:=fun i=>(hb.cell (p:=⟨w.heap.size,i,none⟩) (by simp)).trans (wN w _ _ i);exact⟨h9 0,h9 1,h9 2,h9 3,h9 4,h9 5,h9 6,h9 7,h9 8⟩
 have HNX:=hD (fun (wz:World) (hb:Below w.heap.size w wz)=>HNW.out.keep (w':=wz) fun a c' he j u hu hc=>(hb.cell (wL w _ hc)).trans hc);have HON:=hD HGD.out.ones;have HUL:=hD HGD.out.1;rcases Nat.eq_zero_or_pos n with h0|h0
 ·subst h0;go_enter Tryz.func29,Tryz.ntmps29;go_wp2_with fail
  go_at_call 28;refine(at_any to_ 1 (by decide) (by decide) _).mono ?_;rintro e w1 ⟨⟨q,hq,rfl⟩,rfl⟩;generalize w.alloc (.cells #[.int .i64 what,.int .i64 pos,.int .i64 to_,.int .u64 tn,.int .i64 op,.int .i64 ra,.int .i64 rb,.int .u64 rn,.slice Al nl cl] 79)=w1 at *;have HL0:=hD (Made.lit (K:=K) HB1.out);go_wp2_with (at_builtin;refine Wl rfl (.tmp 13) (.tmp 14) 60 76 rfl _ 5 56 Tryz.underlying60 Tryz.infoInst rfl (by decide) (by decide) (.slice (some ⟨w1.heap.size,0,none⟩) 0 0) 0 [] (by rfl) HL0.out.ow _ 0 us (by rfl) HUL.out (HNX.out _ (Wi HB1.out _)) HON.out (by omega) ?_;intro v3 w3 ho3 hg3 ha3;simp only[Nat.zero_add,List.nil_append]at ho3;have hm3:=HL0.out.push hg3 (n:=0) (us:=[]) (m:=0) (vs:=us) ho3 (by omega) (by rfl) HGD.out ha3;simp only[Nat.zero_add,List.nil_append]at hm3;obtain⟨B3,k3,rfl⟩:=Wc ho3;obtain⟨t0,t1,t2,t3,t4,t5,t6,t7,t8⟩:=HTC.out w3 (below_lit_grown hg3);clear ho3 hg3 ha3)
  have HP:=hD ((Made.lit1 hm3.bl ⟨op,ra,rb,rn,rl⟩ HL.out HW.out.2.1 HW.out.2.2).post (n:=0) HKL.out (by omega));clear hm3;go_wp2;go_ret;exact HP.out
 have d1:decide ((n:Int)<1)=false:=by simp;omega
 have d3:max (n:Int) 1=(n:Int):=by omega
 have d4:((n:Int)==0)=false:=by simp;omega
 go_enter Tryz.func29,Tryz.ntmps29;go_wp2_with fail
 go_at_call 28;refine(at_any to_ n h0 (by omega) _).mono ?_;rintro e w1 ⟨⟨q,hq,rfl⟩,rfl⟩;generalize w.alloc (.cells #[.int .i64 what,.int .i64 pos,.int .i64 to_,.int .u64 tn,.int .i64 op,.int .i64 ra,.int .i64 rb,.int .u64 rn,.slice Al nl cl] 79)=w1 at *;have HL0:=hD (Made.lit (K:=K) HB1.out);go_wp2_with (at_builtin;refine Wl rfl (.tmp 13) (.tmp 14) 60 76 rfl _ 5 56 Tryz.underlying60 Tryz.infoInst rfl (by decide) (by decide) (.slice (some ⟨w1.heap.size,0,none⟩) 0 0) 0 [] (by rfl) HL0.out.ow _ n us (by rfl) HUL.out (HNX.out _ (Wi HB1.out _)) HON.out (by omega) ?_;intro v3 w3 ho3 hg3 ha3;simp only[Nat.zero_add,List.nil_append]at ho3;have hm3:=HL0.out.push hg3 (n:=0) (us:=[]) (m:=n) (vs:=us) ho3 (by omega) (by rfl) HGD.out ha3;simp only[Nat.zero_add,List.nil_append]at hm3;obtain⟨B3,k3,rfl⟩:=Wc ho3;obtain⟨t0,t1,t2,t3,t4,t5,t6,t7,t8⟩:=HTC.out w3 (below_lit_grown hg3);clear ho3 hg3 ha3)
 obtain⟨g3,c3,he3,hc3⟩:=hm3.some_ h0;simp only[vI,true_and]at he3;obtain⟨rfl,rfl⟩:=he3;have HM3:=hD hm3;clear hm3;go_wp2_with fail
 go_at_call 24;refine(within0_K what 1048576 (by decide) _).mono ?_;rintro e w4 ⟨⟨r,hr,rfl⟩,rfl⟩;obtain⟨dd,hdd⟩:∃ d:Nat,r / 4=d:=⟨_,rfl⟩;have e1:(r:Int) / 4=(dd:Int):=by omega
 have e2:∃ k:Int,(dd:Int) % 6=k∧(k=0∨k=1∨k=2∨k=3∨k=4∨k=5):=⟨_,rfl,by omega⟩;have ew:wrap64 (dd:Int)=(dd:Int):=IntWalk.wrap64_in _ (by omega);obtain⟨kk,e2,hkk⟩:=e2;have HKK:=hD hkk;clear hkk;have e3:(dd:Int).tmod 6=kk:=(Int.tmod_eq_emod_of_nonneg (Int.natCast_nonneg dd)).trans e2;clear hdd hr;have e5:IntKind.i64.wrap ((q:Int)+1)=((q+1:Nat):Int):=by rw[show(q:Int)+1=((q+1:Nat):Int) by omega];exact IntWalk.i64_in _ (by omega)
 obtain⟨ga,oa,rfl⟩:∃ ga oa,A=some ⟨ga,oa,none⟩:=by
  obtain⟨g,o,c',he,_,_⟩:=Wd.some_ HV.out (by rw[HN.out];exact h0);simp only[vI]at he;exact⟨g,o,he.1⟩
 have f0:=HM3.out.ow.frozenAt (q * 5);have f1:=HM3.out.ow.frozenAt (q * 5+1);have f2:=HM3.out.ow.frozenAt (q * 5+2);have f3:=HM3.out.ow.frozenAt (q * 5+3);have f4:=HM3.out.ow.frozenAt (q * 5+4);obtain⟨x,hx⟩:=HGD.out.2 q hq;obtain⟨u0,k0,rfl⟩:=hx 0 (by omega);obtain⟨u1,k1,rfl⟩:=hx 1 (by omega);obtain⟨u2,k2,rfl⟩:=hx 2 (by omega);obtain⟨u3,k3',rfl,_⟩:=hx 3 (by omega);obtain⟨u4,k4,_⟩:=hx 4 (by omega);have K0:=(HM3.out.ow.cellAt (q * 5) (by omega)).trans k0;have K1:=(HM3.out.ow.cellAt (q * 5+1) (by omega)).trans k1;have K2:=(HM3.out.ow.cellAt (q * 5+2) (by omega)).trans k2;have K3:=(HM3.out.ow.cellAt (q * 5+3) (by omega)).trans k3';have K4:=(HM3.out.ow.cellAt (q * 5+4) (by omega)).trans k4;clear k0 k1 k2 k3' k4;clear hx;rcases HKK.out with hk6|hk6|hk6|hk6|hk6|hk6
 all_goals
  rw[hk6]at e2 e3;clear hk6 HKK
 ·obtain⟨us2,hn2,hg2⟩:=HV.out.dropI (q+1) (by rw[HN.out];omega) rfl;rw[HN.out]at hn2 hg2;have HNS:=hD hn2;have HGS:=hD hg2;have HUL2:=hD hg2.1;have HON2:=hD hg2.ones;clear hn2 hg2;have HNX2:=hD (fun (wz:World) (hb:Below w.heap.size w wz)=>HNS.out.keep (w':=wz) fun a c' he j u hu hc=>(hb.cell (wL w _ hc)).trans hc);have hR:=(HM3.out.take q (by omega)).rows.drewN 1;have hqc:q≤k3:=by omega
  have hb1:(0:Int)≤(q:Int)+1:=by omega
  have hb2:(q:Int)+1≤(n:Int):=by omega
  have e6:((q+1:Nat):Int).toNat=q+1:=Int.toNat_natCast _;have hRs:=hR
  go_upto_region 8 with (fail)
  refine We.start (X:=8) (S:=fun w'=>Below w.heap.size w w') (by kernel_rfl) ?_;change We _ _ _ _ _ _ _ _ _ w3.drew;change Rows w w3.drew _ at hR;generalize w3.drew=w5 at hR ⊢;show We _ _ _ _ _ _ 9 #[false,false,false,false,false,false,false,false,false] _ _;refine We.tk 0 34 rfl hR.bl ?_;refine We.tk 1 35 rfl hR.bl ?_;refine We.tk 2 36 rfl hR.bl ?_;refine We.tk 3 37 rfl hR.bl ?_;refine We.tk 4 38 rfl hR.bl ?_;refine We.tk 5 39 rfl hR.bl ?_;refine We.tk 6 40 rfl hR.bl ?_;refine We.om 7 41 rfl fun K hK=>?_;refine Wb rfl (.tmp 36) (.tmp 40) 60 76 rfl _ 5 56 Tryz.underlying60 Tryz.infoInst rfl (by decide) (by decide) (.slice (some ⟨g3,0,none⟩) q k3) q (us.take (q * 5)) (by rfl) hR.head _ (n - (q+1)) us2 (by rfl) HUL2.out (HNX2.out _ hR.bl) HON2.out (by omega) ?_;intro v1 x1 ho1 hg1 hat1;replace hR:=hR.grow hg1 ho1 hat1;obtain⟨A1,c1,rfl⟩:=Wc ho1;clear ho1 hg1 hat1;refine hK.out _ _ (.inr hR.bl) ?_;clear hK K;try simp only[Act.put,sA,List.set]
  refine We.om 8 4 rfl fun K hK=>?_;go_simp;refine hK.out _ _ (.inl rfl) ?_;clear hK K;refine We.done (by kernel_rfl) ?_ _;have HP:=hD ((rows_made hR (bR _ _) ((HGD.out.take q (by omega)).append (HGS.out))).post (n:=n) HKL.out (by omega));clear hR HM3;go_wp2
  all_goals go_ret
  all_goals exact HP.out
 ·obtain⟨us1,hn1,hg1⟩:=HV.out.takeI q (by rw[HN.out];omega) rfl;obtain⟨us2,hn2,hg2⟩:=HV.out.dropI q (by rw[HN.out];omega) rfl;have hcq:¬ cap=q:=by omega
  rw[HN.out,if_neg hcq]at hn2;rw[HN.out]at hg2;have HNS:=hD hn2;have HNT:=hD hn1;have HGS:=hD (Vu.append (Vu.append hg1 (insCell_one ⟨op,ra,rb,rn,rl⟩ HL.out HW.out.2.1 HW.out.2.2)) hg2);have HUL1:=hD hg1.1;have HON1:=hD hg1.ones;have HUL2:=hD hg2.1;have HON2:=hD hg2.ones;have HON5:=hD (Vu.ones (insCell_one ⟨op,ra,rb,rn,rl⟩ HL.out HW.out.2.1 HW.out.2.2));clear hn1 hg1 hn2 hg2;have HNX1:=hD (fun (wz:World) (hb:Below w.heap.size w wz)=>HNT.out.keep (w':=wz) fun a c' he j u hu hc=>(hb.cell (wL w _ hc)).trans hc);have HNX2:=hD (fun (wz:World) (hb:Below w.heap.size w wz)=>HNS.out.keep (w':=wz) fun a c' he j u hu hc=>(hb.cell (wL w _ hc)).trans hc);have hbt:=wL _ _ t0;have HT5:=hD (fun wz (hb:Below w3.drew.heap.size w3.drew wz)=>And.intro ((hb.cell (p:=⟨w.heap.size,4,none⟩) hbt).trans t4) (And.intro ((hb.cell (p:=⟨w.heap.size,5,none⟩) hbt).trans t5) (And.intro ((hb.cell (p:=⟨w.heap.size,6,none⟩) hbt).trans t6) (And.intro ((hb.cell (p:=⟨w.heap.size,7,none⟩) hbt).trans t7) ((hb.cell (p:=⟨w.heap.size,8,none⟩) hbt).trans t8)))));have hB5:Below w.heap.size w w3.drew:=Wj HM3.out.bl 1;have HB5:=hD hB5;have hb3:(q:Int)≤(cap:Int):=by omega
  have hb4:(q:Int)≤(n:Int):=by omega
  clear t0 t1 t2 t3 t4 t5 t6 t7 t8 K0 K1 K2 K3 K4 f0 f1 f2 f3 f4 hbt HM3 hB5
  go_upto_region 10 with (fail)
  refine We.start (X:=13) (S:=fun w'=>Below w3.drew.heap.size w3.drew w') (by kernel_rfl) ?_;have hR:=Rows.nil (bR w3.drew.heap.size w3.drew);generalize w3.drew=w5 at hR HT5 HB5 ⊢;show We _ _ _ _ _ _ 14 #[false,false,false,false,false,false,false,false,false,false,false,false,false,false] _ _;refine We.tk 1 45 rfl hR.bl ?_;refine We.tk 2 46 rfl hR.bl ?_;refine We.tk 3 47 rfl hR.bl ?_;refine We.tk 5 49 rfl hR.bl ?_;refine We.tk 6 50 rfl hR.bl ?_ (hy:=by intro w' hSw;obtain⟨k4,k5,k6,k7,k8⟩:=HT5.out w' hSw;go_simp;try with_reducible rfl);refine We.tk 9 53 rfl hR.bl ?_;refine We.tk 10 54 rfl hR.bl ?_;refine We.tk 11 55 rfl hR.bl ?_;refine We.two (i:=0) (j:=7) (by kernel_rfl) ?_ ?_
  ·skip
   refine Wy.m 44 rfl fun K hK=>?_;go_simp;replace hR:=hR.lit 76 5 0 #[] rfl (by decide);refine hK.out _ _ (.inr hR.bl) ?_;clear hK K;try simp only[sA,List.set]
   generalize (w5.alloc (.cells #[] 76))=x1 at hR ⊢;refine We.two (i:=4) (j:=7) (by kernel_rfl) ?_ ?_
   ·skip
    refine Wy.m 48 rfl fun K hK=>?_;refine Wb rfl (.tmp 44) (.tmp 47) 60 76 rfl _ 5 56 Tryz.underlying60 Tryz.infoInst rfl (by decide) (by decide) (.slice (some ⟨w5.heap.size,0,none⟩) 0 0) 0 [] (by rfl) hR.head _ q us1 (by rfl) HUL1.out (HNX1.out _ (HB5.out.trans (hR.bl.mono HB5.out.size))) HON1.out (by omega) ?_;intro v2 x2 ho2 hg2 hat2;simp only[Nat.zero_add,List.nil_append]at ho2;replace hR:=hR.grow hg2 ho2 hat2;obtain⟨A2,c2,rfl⟩:=Wc ho2;clear ho2 hg2 hat2;refine hK.out _ _ (.inr hR.bl) ?_;clear hK K;try simp only[Act.put,sA,List.set]
    refine We.om 7 51 rfl fun K hK=>?_;go_simp;replace hR:=hR.lit 76 5 1 #[.int .i64 op,.int .i64 ra,.int .i64 rb,.int .u64 rn,.slice Al nl cl] rfl (by decide);refine hK.out _ _ (.inr hR.bl) ?_;clear hK K;try simp only[sA,List.set]
    generalize (x2.alloc (.cells #[.int .i64 op,.int .i64 ra,.int .i64 rb,.int .u64 rn,.slice Al nl cl] 76))=x3 at hR ⊢;refine We.om 8 52 rfl fun K hK=>?_;replace hR:=hR.swap;refine Wb rfl (.tmp 48) (.tmp 51) 60 76 rfl _ 5 56 Tryz.underlying60 Tryz.infoInst rfl (by decide) (by decide) (.slice A2 q c2) q us1 (by rfl) hR.head (.slice (some ⟨x2.heap.size,0,none⟩) 1 1) 1 [.int .i64 op,.int .i64 ra,.int .i64 rb,.int .u64 rn,.slice Al nl cl] (by rfl) (by rfl) (Wu hR.tail.head) HON5.out (by omega) ?_;intro v4 x4 ho4 hg4 hat4;replace hR:=hR.grow hg4 ho4 hat4;obtain⟨A4,c4,rfl⟩:=Wc ho4;clear ho4 hg4 hat4;refine hK.out _ _ (.inr hR.bl) ?_;clear hK K;try simp only[Act.put,sA,List.set]
    refine We.om 12 56 rfl fun K hK=>?_;refine Wb rfl (.tmp 52) (.tmp 55) 60 76 rfl _ 5 56 Tryz.underlying60 Tryz.infoInst rfl (by decide) (by decide) (.slice A4 (q+1) c4) (q+1) (us1++[.int .i64 op,.int .i64 ra,.int .i64 rb,.int .u64 rn,.slice Al nl cl]) (by rfl) hR.head _ (n - q) us2 (by rfl) HUL2.out (HNX2.out _ (HB5.out.trans (hR.bl.mono HB5.out.size))) HON2.out (by omega) ?_;intro v5 x5 ho5 hg5 hat5;replace hR:=hR.grow hg5 ho5 hat5;obtain⟨A5,c5,rfl⟩:=Wc ho5;clear ho5 hg5 hat5;exact ZE
   ·skip
    refine Wy.m 51 rfl fun K hK=>?_;go_simp;replace hR:=hR.lit 76 5 1 #[.int .i64 op,.int .i64 ra,.int .i64 rb,.int .u64 rn,.slice Al nl cl] rfl (by decide);refine hK.out _ _ (.inr hR.bl) ?_;clear hK K;try simp only[sA,List.set]
    generalize (x1.alloc (.cells #[.int .i64 op,.int .i64 ra,.int .i64 rb,.int .u64 rn,.slice Al nl cl] 76))=x6 at hR ⊢;refine We.om 4 48 rfl fun K hK=>?_;replace hR:=hR.swap;refine Wb rfl (.tmp 44) (.tmp 47) 60 76 rfl _ 5 56 Tryz.underlying60 Tryz.infoInst rfl (by decide) (by decide) (.slice (some ⟨w5.heap.size,0,none⟩) 0 0) 0 [] (by rfl) hR.head _ q us1 (by rfl) HUL1.out (HNX1.out _ (HB5.out.trans (hR.bl.mono HB5.out.size))) HON1.out (by omega) ?_;intro v7 x7 ho7 hg7 hat7;simp only[Nat.zero_add,List.nil_append]at ho7;replace hR:=hR.grow hg7 ho7 hat7;obtain⟨A7,c7,rfl⟩:=Wc ho7;clear ho7 hg7 hat7;refine hK.out _ _ (.inr hR.bl) ?_;clear hK K;try simp only[Act.put,sA,List.set]
    refine We.om 8 52 rfl fun K hK=>?_;refine Wb rfl (.tmp 48) (.tmp 51) 60 76 rfl _ 5 56 Tryz.underlying60 Tryz.infoInst rfl (by decide) (by decide) (.slice A7 q c7) q us1 (by rfl) hR.head (.slice (some ⟨x1.heap.size,0,none⟩) 1 1) 1 [.int .i64 op,.int .i64 ra,.int .i64 rb,.int .u64 rn,.slice Al nl cl] (by rfl) (by rfl) (Wu hR.tail.head) HON5.out (by omega) ?_;intro v8 x8 ho8 hg8 hat8;replace hR:=hR.grow hg8 ho8 hat8;obtain⟨A8,c8,rfl⟩:=Wc ho8;clear ho8 hg8 hat8;refine hK.out _ _ (.inr hR.bl) ?_;clear hK K;try simp only[Act.put,sA,List.set]
    refine We.om 12 56 rfl fun K hK=>?_;refine Wb rfl (.tmp 52) (.tmp 55) 60 76 rfl _ 5 56 Tryz.underlying60 Tryz.infoInst rfl (by decide) (by decide) (.slice A8 (q+1) c8) (q+1) (us1++[.int .i64 op,.int .i64 ra,.int .i64 rb,.int .u64 rn,.slice Al nl cl]) (by rfl) hR.head _ (n - q) us2 (by rfl) HUL2.out (HNX2.out _ (HB5.out.trans (hR.bl.mono HB5.out.size))) HON2.out (by omega) ?_;intro v9 x9 ho9 hg9 hat9;replace hR:=hR.grow hg9 ho9 hat9;obtain⟨A9,c9,rfl⟩:=Wc ho9;clear ho9 hg9 hat9;exact ZE
  ·skip
   refine Wy.m 51 rfl fun K hK=>?_;go_simp;replace hR:=hR.lit 76 5 1 #[.int .i64 op,.int .i64 ra,.int .i64 rb,.int .u64 rn,.slice Al nl cl] rfl (by decide);refine hK.out _ _ (.inr hR.bl) ?_;clear hK K;try simp only[sA,List.set]
   generalize (w5.alloc (.cells #[.int .i64 op,.int .i64 ra,.int .i64 rb,.int .u64 rn,.slice Al nl cl] 76))=x10 at hR ⊢;refine We.om 0 44 rfl fun K hK=>?_;go_simp;replace hR:=hR.lit 76 5 0 #[] rfl (by decide);refine hK.out _ _ (.inr hR.bl) ?_;clear hK K;try simp only[sA,List.set]
   generalize (x10.alloc (.cells #[] 76))=x11 at hR ⊢;refine We.om 4 48 rfl fun K hK=>?_;refine Wb rfl (.tmp 44) (.tmp 47) 60 76 rfl _ 5 56 Tryz.underlying60 Tryz.infoInst rfl (by decide) (by decide) (.slice (some ⟨x10.heap.size,0,none⟩) 0 0) 0 [] (by rfl) hR.head _ q us1 (by rfl) HUL1.out (HNX1.out _ (HB5.out.trans (hR.bl.mono HB5.out.size))) HON1.out (by omega) ?_;intro v12 x12 ho12 hg12 hat12;simp only[Nat.zero_add,List.nil_append]at ho12;replace hR:=hR.grow hg12 ho12 hat12;obtain⟨A12,c12,rfl⟩:=Wc ho12;clear ho12 hg12 hat12;refine hK.out _ _ (.inr hR.bl) ?_;clear hK K;try simp only[Act.put,sA,List.set]
   refine We.om 8 52 rfl fun K hK=>?_;refine Wb rfl (.tmp 48) (.tmp 51) 60 76 rfl _ 5 56 Tryz.underlying60 Tryz.infoInst rfl (by decide) (by decide) (.slice A12 q c12) q us1 (by rfl) hR.head (.slice (some ⟨w5.heap.size,0,none⟩) 1 1) 1 [.int .i64 op,.int .i64 ra,.int .i64 rb,.int .u64 rn,.slice Al nl cl] (by rfl) (by rfl) (Wu hR.tail.head) HON5.out (by omega) ?_;intro v13 x13 ho13 hg13 hat13;replace hR:=hR.grow hg13 ho13 hat13;obtain⟨A13,c13,rfl⟩:=Wc ho13;clear ho13 hg13 hat13;refine hK.out _ _ (.inr hR.bl) ?_;clear hK K;try simp only[Act.put,sA,List.set]
   refine We.om 12 56 rfl fun K hK=>?_;refine Wb rfl (.tmp 52) (.tmp 55) 60 76 rfl _ 5 56 Tryz.underlying60 Tryz.infoInst rfl (by decide) (by decide) (.slice A13 (q+1) c13) (q+1) (us1++[.int .i64 op,.int .i64 ra,.int .i64 rb,.int .u64 rn,.slice Al nl cl]) (by rfl) hR.head _ (n - q) us2 (by rfl) HUL2.out (HNX2.out _ (HB5.out.trans (hR.bl.mono HB5.out.size))) HON2.out (by omega) ?_;intro v14 x14 ho14 hg14 hat14;replace hR:=hR.grow hg14 ho14 hat14;obtain⟨A14,c14,rfl⟩:=Wc ho14;clear ho14 hg14 hat14;exact ZE
 ·have hbt:=wL _ _ t0;have hbg:=wL _ _ K1;have HT5:=hD (fun wz (hb:Below w3.drew.heap.size w3.drew wz)=>And.intro ((hb.cell (p:=⟨w.heap.size,1,none⟩) hbt).trans t1) ((hb.cell (p:=⟨g3,q * 5+1,none⟩) hbg).trans K1));have hM5:=HM3.out.below (Wj (bR _ _) 1);have f15:w3.drew.frozen? ⟨g3,q * 5+1,none⟩=false:=f1;have K15:w3.drew.cell? ⟨g3,q * 5+1,none⟩=some (.int .i64 x.a):=K1;have HM5:=hD hM5;clear t0 t1 t2 t3 t4 t5 t6 t7 t8 K0 K1 K2 K3 K4 f0 f1 f2 f3 f4 hbt hbg HM3 hM5
  go_upto_region 12 with (fail)
  refine We.start (X:=15) (S:=fun w'=>Below w3.drew.heap.size w3.drew w') (by kernel_rfl) ?_;have hR:=Rows.nil (bR w3.drew.heap.size w3.drew);change Hid (Made K w w3.drew _ _ _) at HM5;generalize w3.drew=w5 at hR HT5 HM5 f15 K15 ⊢;show We _ _ _ _ _ _ 16 #[false,false,false,false,false,false,false,false,false,false,false,false,false,false,false,false] _ _;refine We.tk 0 59 rfl hR.bl ?_;refine We.tk 1 60 rfl hR.bl ?_;refine We.tk 2 61 rfl hR.bl ?_;refine We.tk 3 62 rfl hR.bl ?_;refine We.tk 4 63 rfl hR.bl ?_;refine We.tk 5 64 rfl hR.bl ?_;refine We.tk 6 65 rfl hR.bl ?_ (hy:=by intro w' hSw;obtain⟨k1,k2⟩:=HT5.out w' hSw;go_simp;try with_reducible rfl);refine We.tk 7 66 rfl hR.bl ?_;refine We.tk 8 67 rfl hR.bl ?_;refine We.tk 9 68 rfl hR.bl ?_ (hy:=by intro w' hSw;obtain⟨k1,k2⟩:=HT5.out w' hSw;go_simp;try with_reducible rfl);refine We.tk 10 69 rfl hR.bl ?_;refine We.tk 11 70 rfl hR.bl ?_;refine We.tk 12 71 rfl hR.bl ?_;refine We.om 13 72 rfl fun K hK=>?_;go_simp;refine hK.out _ _ (.inr hR.bl) ?_;clear hK K;try simp only[sA,List.set]
  refine We.tk 14 73 rfl hR.bl ?_;refine We.on 15 rfl fun K hK=>?_;go_simp;refine hK.out _ _ (.inl rfl) ?_;clear hK K;refine We.done (by kernel_rfl) ?_ _;have HP:=hD ((HM5.out.set q 1 hq (by omega) _ _ (set_a _ _ (IntKind.i64.wrap (IntKind.i64.wrap (x.a+1) - IntKind.i64.wrap (2 * Go.bits .and .i64 pos 1))))).post (n:=n) HKL.out (by omega));go_wp2;go_ret;exact HP.out
 ·have HP:=hD ((HM3.out.set q 0 hq (by omega) _ _ (set_op _ _ op)).post (n:=n) HKL.out (by omega));rw[Nat.add_zero]at HP;go_wp2;go_ret;exact HP.out
 ·have HP:=hD ((HM3.out.set q 3 hq (by omega) _ _ (set_n _ _ tn HW.out.1)).post (n:=n) HKL.out (by omega));go_wp2;go_ret;exact HP.out
 ·have H0:=HM3.out.set q 0 hq (by omega) _ _ (set_op _ _ op);have H1:=H0.set q 1 hq (by omega) _ _ (set_a _ _ ra);have H2:=H1.set q 2 hq (by omega) _ _ (set_b _ _ rb);have H3:=H2.set q 3 hq (by omega) _ _ (set_n _ _ rn HW.out.2.1);have H4:=H3.set q 4 hq (by omega) (.slice Al nl cl) (fun x=>{ x with l:=rl }) (set_l HL.out HW.out.2.2);have HP:=hD (H4.post (n:=n) HKL.out (by omega));rw[Nat.add_zero]at HP;go_wp2;go_ret;exact HP.out
end
section
open Go.RowKit
set_option maxRecDepth 100000
theorem and_word (m:Int):0≤Go.bits .and .u64 m 4294967295∧Go.bits .and .u64 m 4294967295≤4294967295:=by
 have h:BitVec.ofInt 64 m &&& BitVec.ofInt 64 4294967295=BitVec.ofInt 64 (m % 4294967296):=by
  apply BitVec.eq_of_toNat_eq
  rw[BitVec.toNat_and,BitVec.toNat_ofInt,BitVec.toNat_ofInt,BitVec.toNat_ofInt];have e:((4294967295:Int) % ((2 ^ 64:Nat):Int)).toNat=2 ^ 32 - 1:=by decide
  rw[e,Nat.and_two_pow_sub_one_eq_mod];omega
 have e:Go.bits .and .u64 m 4294967295=m % 4294967296:=by
  show IntKind.u64.wrap ((BitVec.ofInt 64 m &&& BitVec.ofInt 64 4294967295).toNat:Int)=_;rw[h,BitVec.toNat_ofInt,IntKind.wrap_u64];omega
 omega
theorem lit12 (r:Nat) (hr:r<12):∃ v:Int,#[Value.int .u64 18446744073709551615,.int .u64 9223372036854775808,.int .u64 2147483647,.int .u64 2147483648,.int .u64 9218868437227405312,.int .u64 9221120237041090560,.int .u64 18442240474082181120,.int .u64 4609434218613702656,.int .u64 4746794007246405632,.int .u64 13970166044103278592,.int .u64 9223372036854775808,.int .u64 4890909195324358656][r]?=some (.int .u64 v)∧0≤v∧v≤18446744073709551615:=by
 match r with
 | 0|1|2|3|4|5|6|7|8|9|10|11=>exact⟨_,rfl,by decide,by decide⟩
theorem constant_any {F:Fx} {w:World} {x:St} (h:WD F w x) (t:Int) (hm:Vs x 890000) :
 Calls Tryz.prog 55 #[.pointer (some ⟨F.G,0,none⟩),.int .i64 t] w (GPost F w x (.tuple #[]) (fun x'=>Num x x' 1 1)):=by
 have c0:=h.c0;have H:=hD h;clear h;go_enter Tryz.func55,Tryz.ntmps55;go_wp2_with fail
 go_at_call 9;refine(WA H.out 40 (by omega) (by omega)).mono ?_;rintro e w1 ⟨r1,hr1,rfl,x1,hg1,hs1,hn1⟩;replace c0:=hg1.c0;have H1:=hD hg1;clear hg1
 go_upto_if 17 with (go_at_call 9;refine(WA H1.out 4 (by omega) (by omega)).mono ?_;rintro e w2 ⟨r2,hr2,rfl,x2,hg2,hs2,hn2⟩)
 replace c0:=hg2.c0;have H2:=hD hg2;have HS:=hD (hs1.trans hs2);have HN:=hD (hn1.trans hn2);have hal:=fun o=>(hg2.alloc o).1.c0;clear hg2 hs2 hn2 hs1 hn1
 go_cut [4] from 18 to 25 (fun v wx=>∃ (v':Int) (x':St),v=.int .u64 v'∧0≤v'∧v'≤18446744073709551615∧Hid (WD F wx x')∧Hid (Wv F w x wx x')∧Hid (Num x x' 0 0))
 case first =>
  by_cases h20:r2=0
  ·subst h20;go_wp2_with ((go_at_call 9;refine(WA (x:=x2) (H2.out.alloc _).1 12 (by omega) (by omega)).mono ?_;rintro e w3 ⟨r3,hr3,rfl,x3,hg3,hs3,hn3⟩;obtain⟨v,hv,hv0,hv1⟩:=lit12 r3 hr3;have hcv:=(H2.out.new_cell _ _ hs3 r3).trans hv;have H3:=hD hg3;have HS3:=hD (HS.out.trans ((H2.out.alloc _).2.trans hs3));have HN3:=hD (HN.out.trans hn3);clear hg3 hs3 hn3 hv))
   go_meet
   exact⟨v,x3,rfl,hv0,hv1,H3,HS3,HN3⟩
  ·have hd:((r2:Int)==0)=false:=by simp;omega
   go_wp2
   go_meet
   exact⟨r1,x2,rfl,by omega,by omega,H2,HS,HN⟩
 case rest =>
  obtain⟨v,x3,rfl,hv0,hv1,H3,HS3,HN3⟩:=hcut;clear H1 H2 HS HN hal c0;have c0:=H3.out.c0
  go_upto_if 27 with fail
  go_cut [4,5] from 28 to 36 (fun v o wx=>∃ (v' o':Int),v=.int .u64 v'∧o=.int .i64 o'∧wx=wc∧Hid (plain o'∧okB o' 0 0 v' []=true))
  case first =>
   by_cases ht:t=127
   ·have hd:(t==127)=true:=by simpa using ht
    go_wp2
    go_meet
    refine⟨_,_,rfl,rfl,rfl,plain_of (by decide),ok_i 0 0 0 4294967295 (by decide +kernel) (by decide +kernel) (by omega) (by omega) (by omega) (by omega) (and_word _).1 (and_word _).2⟩
   ·have hd:(t==127)=false:=by simpa using ht
    by_cases ht2:t=124
    ·have hd2:(t==124)=true:=by simpa using ht2
     go_wp2
     all_goals
      go_meet
      refine⟨_,_,rfl,rfl,rfl,plain_of (by decide),ok_i 0 0 0 18446744073709551615 (by decide +kernel) (by decide +kernel) (by omega) (by omega) (by omega) (by omega) ?_ ?_⟩
      all_goals first|exact hv0|exact hv1|(rename_i hq40;omega)
    ·have hd2:(t==124)=false:=by simpa using ht2
     go_wp2
     go_meet
     refine⟨_,_,rfl,rfl,rfl,plain_of (by decide),ok_i 0 0 0 18446744073709551615 (by decide +kernel) (by decide +kernel) (by omega) (by omega) (by omega) (by omega) hv0 hv1⟩
  case rest =>
   obtain⟨v4,o5,rfl,rfl,rfl,HPL⟩:=hcut;have hm3:=hm.num HN3.out;go_wp2_with fail
   go_at_call 14;refine(WU H3.out _ _ _ _ (hm3.le (by omega)) HPL.out.1 HPL.out.2).mono ?_;rintro e w4 ⟨rfl,x4,hg4,hs4,hn4⟩;have hm4:=(hm3.num hn4).s;have H4:=hD hg4;have HS4:=hD (HS3.out.trans hs4);have HN4:=hD (HN3.out.trans hn4);clear hg4 hs4 hn4 H3 HS3 HN3 c0;have c12:=H4.out.c12;have c12b:=(H4.out.pushf (.cells #[.int .i64 t] 3)).1;go_wp2_with (at_builtin;refine Wl rfl (.tmp 46) (.tmp 48) 22 3 rfl _ 1 8 Tryz.underlying22 Tryz.infoInt rfl (by decide) (by decide) x4.sv x4.s.length (x4.s.map (Value.int .i64)) (by rfl) (H4.out.so.alloc _) _ 1 [.int .i64 t] (by rfl) (by rfl) (WS w4 _ _ 1 1) (WP [t]) (by omega) ?_;intro v' w' hown hgr hat;obtain⟨e12,f12⟩:=(H4.out.pushf _).2 w' hgr;obtain⟨A',c',rfl⟩:=Wc hown)
   have hgs:=H4.out.pushS _ hgr t _ hown hat;clear hgr hown hat e12 f12 c12 c12b;have HGS:=hD hgs;clear hgs;refine bodyPost_end (results_none rfl _ _ _) rfl ⟨rfl,_,HGS.out.1,HS4.out.trans HGS.out.2,?_⟩;obtain⟨n1,n2,n3,n4⟩:=HN4.out;exact⟨by show(x4.s++[t]).length=_;rw[List.length_append,n1];rfl,n2,n3,n4⟩
end
end Go.Proofs.YtepgopnnaeoolaaGreatDoor
