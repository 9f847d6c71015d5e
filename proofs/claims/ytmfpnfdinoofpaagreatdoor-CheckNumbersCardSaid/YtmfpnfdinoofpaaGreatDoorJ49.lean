/- A part of the proof. -/
import Derived.Test.YtmfpnfdinoofpaaGreatDoorJ39
import Derived.Test.YtmfpnfdinoofpaaGreatDoorJ47
import Derived.Test.YtmfpnfdinoofpaaGreatDoorJ48
namespace Go.Proofs.YtmfpnfdinoofpaaGreatDoor
section
open Go.RowKit
def smallA (i:Vl):Prop := -9223372036854775808≤i.a∧i.a≤9223372036854775807
theorem Ui {n:Int} {m:Nat} (h:Wi n m=true):∃ k:Nat,n=(k:Int)∧k<m:=by
 unfold Wi at h;rw[Bool.and_eq_true]at h;have h1:=of_decide_eq_true h.1;have h2:=of_decide_eq_true h.2;exact⟨n.toNat,by omega,by omega⟩
theorem exists_all {F:Wx} {w:World} {x:Ws} (hF:F.prg) (h:Wk F w x) (hs:Vq F.m) (i:Vl) (hi:smallA i) (Al:Option Addr) (nl cl:Nat) (hl:Wf (Wq F w x) w (.slice Al nl cl) i.l) :
 Calls Tryz.prog 83 #[.pointer (some ⟨F.G,0,none⟩),.agg #[.int .i64 i.op,.int .i64 i.a,.int .i64 i.b,.int .u64 i.n,.slice Al nl cl]] w (Wh (Wo F.env x.pl i) w):=by
 obtain⟨op,a,b,n,l⟩:=i;by_cases hop:restE op
 ·exact exists_rest hF h op a b n l hop Al nl cl
 ·have hm:op=2∨op=3∨op=4∨op=12∨op=13∨op=14∨op=16∨op=18∨op=32∨op=33∨op=34∨op=35∨op=36∨op=63∨op=64∨op=64523∨op=64520∨op=64522∨op=64521:=by unfold restE at hop;omega
  rcases hm with rfl|rfl|rfl|rfl|rfl|rfl|rfl|rfl|rfl|rfl|rfl|rfl|rfl|rfl|rfl|rfl|rfl|rfl|rfl
  ·exact exists_2 hF h hs a b n l Al nl cl
  ·exact exists_3 hF h hs a b n l Al nl cl
  ·exact exists_4 hF h hs a b n l Al nl cl
  ·exact exists_12 hF h a b n l Al nl cl
  ·exact exists_13 hF h a b n l Al nl cl
  ·exact exists_14 hF h a b n l Al nl cl hl
  ·exact exists_16 hF h hs a b n hi l Al nl cl
  ·exact exists_18 hF h hs a b n hi l Al nl cl
  ·exact exists_32 hF h a b n l Al nl cl
  ·exact exists_33 hF h a b n l Al nl cl
  ·exact exists_34 hF h a b n l Al nl cl
  ·exact exists_35 hF h a b n l Al nl cl
  ·exact exists_36 hF h a b n l Al nl cl
  ·exact exists_63 hF h a b n l Al nl cl
  ·exact exists_64 hF h a b n l Al nl cl
  ·exact exists_64523 hF h a b n l Al nl cl
  ·exact exists_64520 hF h a b n l Al nl cl
  ·exact exists_64522 hF h a b n l Al nl cl
  ·exact exists_64521 hF h a b n l Al nl cl
theorem effect_all {F:Wx} {w:World} {x:Ws} (hF:F.prg) (h:Wk F w x) (hs:Vq F.m) (hlb:∀ k,(Ww x.pl k).length≤8) (i:Vl) (hi:smallA i) (hex:Wo F.env x.pl i=true) (Al:Option Addr) (nl cl:Nat) :
 Calls Tryz.prog 130 #[.pointer (some ⟨F.G,0,none⟩),.agg #[.int .i64 i.op,.int .i64 i.a,.int .i64 i.b,.int .u64 i.n,.slice Al nl cl]] w (EffPost F w x (Vi F.env x.pl i)):=by
 obtain⟨op,a,b,n,l⟩:=i;by_cases hop:restF op
 ·rw[restF_is _ _ ⟨op,a,b,n,l⟩ hop];exact(effect_rest _ w op a b n hop Al nl cl).mono fun e w' hp=>hp.eff h
 ·have hm:op=13∨op=16∨op=32∨op=33∨op=34∨op=35∨op=63∨op=64∨op=64520∨op=64522∨op=64523:=by unfold restF at hop;omega
  rcases hm with rfl|rfl|rfl|rfl|rfl|rfl|rfl|rfl|rfl|rfl|rfl
  ·obtain⟨k,rfl,hk⟩:=Ui (show Wi a x.pl.f.length=true from hex);rw[Ws.pl_f,List.length_map]at hk;exact effect_13 hF h k hk (Nat.le_trans (hlb k) (by decide)) (k:Int) b n rfl Al nl cl
  ·exact(effect_16 hF h hs a b n hi Al nl cl).mono fun e w' hp=>hp.eff h
  ·obtain⟨k,rfl,hk⟩:=Ui (show Wi a F.lo.length=true from hex);exact(effect_32 hF h k hk (k:Int) b n rfl Al nl cl).mono fun e w' hp=>hp.eff h
  ·obtain⟨k,rfl,hk⟩:=Ui (show Wi a F.lo.length=true from hex);exact(effect_33 hF h k hk (k:Int) b n rfl Al nl cl).mono fun e w' hp=>hp.eff h
  ·obtain⟨k,rfl,hk⟩:=Ui (show Wi a F.lo.length=true from hex);exact(effect_34 hF h k hk (k:Int) b n rfl Al nl cl).mono fun e w' hp=>hp.eff h
  ·obtain⟨k,rfl,hk⟩:=Ui (show Wi a F.m.globs.length=true from hex);exact(effect_35 hF h k hk b n Al nl cl).mono fun e w' hp=>hp.eff h
  ·exact(effect_63 _ w a b n Al nl cl).mono fun e w' hp=>hp.eff h
  ·exact(effect_64 _ w a b n Al nl cl).mono fun e w' hp=>hp.eff h
  ·exact(effect_64520 _ w a b n Al nl cl).mono fun e w' hp=>hp.eff h
  ·exact(effect_64522 _ w a b n Al nl cl).mono fun e w' hp=>hp.eff h
  ·exact(effect_64523 _ w a b n Al nl cl).mono fun e w' hp=>hp.eff h
theorem steps_all:StepsOk smallA:=by
 intro F w x n i Al nl cl hF hg hs he hi hn hgood hints;obtain⟨op,a,b,c,l⟩:=i;refine step_rel hF hg op a b c l Al nl cl (fun _ w1 g1 s1=>exists_all hF g1 hs ⟨op,a,b,c,l⟩ hgood Al nl cl (s1.ints hints)) fun hin hex w1 g1 s1=>?_;have h0:0<x.pl.f.length:=inPlaceC_pos hin;obtain⟨t1,t2,t3⟩:=hi.top h0;rw[Ws.pl_top]at t1 t2 t3;have h1:0<x.f.length:=by have:=h0;rw[Ws.pl_f,List.length_map]at this;exact this
 have h2:x.s.length≤900000:=by have:=hi.sl;rw[Ws.pl_s]at this;omega
 have h3:x.top.h≤x.s.length:=t1;have h4:x.top.rs.length≤100000:=Nat.le_trans t3 (by decide);have h5:x.top.ps.length≤100000:=Nat.le_trans t2 (by decide);have h6:x.f.length≤900000:=by have:=hi.fl;rw[Ws.pl_f,List.length_map]at this;omega
 have hlb:∀ k,(Ww x.pl k).length≤8:=fun k=>labelC_len hi k;have hbl:=he.block a;have hsg:=he.sig a;have hgood' : -9223372036854775808≤a∧a≤9223372036854775807:=hgood;by_cases hog:restG op
 ·have hef:=he.eff hi ⟨op,a,b,c,l⟩;exact follow_eff hF g1 h1 h2 h3 op a b c l hog Al nl cl ⟨by omega,by omega⟩ fun w2 g2=>effect_all hF g2 hs hlb ⟨op,a,b,c,l⟩ hgood hex Al nl cl
 ·have hm:op=2∨op=3∨op=4∨op=5∨op=11∨op=0∨op=12∨op=14∨op=15∨op=18∨op=26∨op=27∨op=36:=by unfold restG at hog;omega
  rcases hm with rfl|rfl|rfl|rfl|rfl|rfl|rfl|rfl|rfl|rfl|rfl|rfl|rfl
  ·exact follow_2 hF g1 h1 h2 h3 h6 hs a b c ⟨Nat.le_trans hbl.1 (by decide),Nat.le_trans hbl.2 (by decide)⟩ l Al nl cl
  ·exact follow_3 hF g1 h1 h2 h3 h6 hs a b c ⟨Nat.le_trans hbl.1 (by decide),Nat.le_trans hbl.2 (by decide)⟩ l Al nl cl
  ·exact follow_4 hF g1 h1 h2 h3 h6 hs a b c ⟨Nat.le_trans hbl.1 (by decide),Nat.le_trans hbl.2 (by decide)⟩ l Al nl cl
  ·exact follow_5 hF g1 h1 h2 h4 h5 h6 h3 a b c l Al nl cl
  ·exact follow_11 hF g1 h1 h2 h3 h4 a b c l Al nl cl
  ·exact follow_0 hF g1 h1 h2 h3 a b c l Al nl cl
  ·obtain⟨k,rfl,hk⟩:=Ui (show Wi a x.pl.f.length=true from hex);rw[Ws.pl_f,List.length_map]at hk;exact follow_12 hF g1 h1 h2 h3 k hk (k:Int) rfl (Nat.le_trans (hlb k) (by decide)) b c l Al nl cl
  ·have hex':(l.all (fun n=>Wi n x.pl.f.length) && decide (0<l.length))=true:=hex;rw[Bool.and_eq_true]at hex';refine follow_14 hF g1 h1 h2 h3 a b c l Al nl cl (s1.ints hints) (of_decide_eq_true hex'.2) (fun j hj=>?_) fun k=>Nat.le_trans (hlb k) (by decide);obtain⟨k,hk1,hk2⟩:=Ui (List.all_eq_true.1 hex'.1 _ (WA l j 0 hj));rw[Ws.pl_f,List.length_map]at hk2;exact⟨k,hk1,hk2⟩
  ·exact follow_15 hF g1 h1 h2 h3 (Nat.le_trans he.ro (by decide)) a b c l Al nl cl
  ·exact follow_18 hF g1 h1 h2 h3 h6 hs a b c hgood' ⟨Nat.le_trans hsg.1 (by decide),Nat.le_trans hsg.2 (by decide)⟩ l Al nl cl
  ·exact follow_26 hF g1 h1 h2 a b c l Al nl cl
  ·exact follow_27 hF g1 h1 h2 h3 a b c l Al nl cl
  ·obtain⟨k,rfl,hk⟩:=Ui (show Wi a F.m.globs.length=true from hex);exact follow_36 hF g1 h1 h2 h3 h6 k hk (k:Int) b c rfl l Al nl cl
end
section
open Go.RowKit
theorem Zce {P:Prop}(h:P:=by
 refine⟨?_,fun e=>?_⟩
 ·rcases hb with e|e|e
  ·omega
  ·exact l3 b e
  ·exact l4 b e
 ·rcases hb with e1|e1|e1
  ·exact(h.ep b e).2.1 e1
  ·exact(h.ep b e).2.2.1 e1
  ·exact(h.ep b e).2.2.2 e1):P:=h
theorem Tryz.infoRow:(Tryz.prog.info? 126).map (fun i=>(i.zero,i.size,i.bytes))=some (some (.agg #[.slice none 0 0,.bool false]),2,32):=by kernel_rfl
theorem Wk.apart {F:Wx} {w w':World} {x:Ws} (h:Wk F w x) {g:Nat} (hg:w.heap.size≤g) (hg':g<w'.heap.size) (hk:We (fun k=>k<w.heap.size∧F.ex≠some k) w w'):Wk { F with ex:=some g } w' x∧We (Wq F w x) w w'∧(∀ k,Wq F w x k→Wq { F with ex:=some g } w' x k):=by
 obtain⟨l1,l3,l4⟩:=h.lts;have hK:We (Wq F w x) w w':=hk.mono fun k hk=>⟨hk.1,fun e=>hk.2 (.inr (.inr (.inr e)))⟩;have hM:∀ k,Wq F w x k→Wq { F with ex:=some g } w' x k:=fun k hk'=>⟨Ve hk'.1 hk.size,by
  rintro(e|e|e|e)
  ·exact hk'.2 (.inl e)
  ·exact hk'.2 (.inr (.inl e))
  ·exact hk'.2 (.inr (.inr (.inl e)))
  ·have e:g=k:=Option.some.inj e;have:=hk'.1;omega⟩
 have hne:∀ b,b=F.G∨x.sv.ownBlock=some b∨x.fv.ownBlock=some b→b<w.heap.size∧F.ex≠some b:=fun b hb=>by
  exact Zce
 refine⟨⟨(hk.block F.G (hne _ (.inl rfl))).trans h.hg,VE h.so hk fun b hb=>hne b (.inr (.inl hb)),h.sp,VE h.fo hk fun b hb=>hne b (.inr (.inr hb)),h.fp,fun b e=>?_,⟨h.reads.mod.keep hK hM,h.reads.loc.keep hK hM,h.reads.own.keep hK hM,fun a ha=>⟨(h.reads.fr a ha).1.keep hK hM,(h.reads.fr a ha).2.keep hK hM⟩⟩⟩,hK,hM⟩;have e:g=b:=Option.some.inj e;subst e;exact⟨hg',fun e=>by have e:g=F.G:=e;omega,fun e=>by have:=l3 _ e;omega,fun e=>by have:=l4 _ e;omega⟩
theorem Wk.aside {F:Wx} {w w':World} {x:Ws} (h:Wk F w x) (hk:We (fun k=>k<w.heap.size∧F.ex≠some k) w w'):Wk F w' x∧We (Wq F w x) w w'∧(∀ k,Wq F w x k→Wq F w' x k):=by
 obtain⟨l1,l3,l4⟩:=h.lts;have hK:We (Wq F w x) w w':=hk.mono fun k hk=>⟨hk.1,fun e=>hk.2 (.inr (.inr (.inr e)))⟩;have hM:∀ k,Wq F w x k→Wq F w' x k:=fun k hk'=>⟨Ve hk'.1 hk.size,hk'.2⟩;have hne:∀ b,b=F.G∨x.sv.ownBlock=some b∨x.fv.ownBlock=some b→b<w.heap.size∧F.ex≠some b:=fun b hb=>by
  exact Zce
 exact⟨⟨(hk.block F.G (hne _ (.inl rfl))).trans h.hg,VE h.so hk fun b hb=>hne b (.inr (.inl hb)),h.sp,VE h.fo hk fun b hb=>hne b (.inr (.inr hb)),h.fp,fun b e=>⟨Ve (h.ep b e).1 hk.size,(h.ep b e).2⟩,h.reads.keep hK hM⟩,hK,hM⟩
def rowCell (K:Nat→Prop) (w:World) (x:List Int×Bool):Nat→Value→Prop
 | 0,u=>Wf K w u x.1
 | _,u=>u=.bool x.2
theorem rowCell.keep {K K':Nat→Prop} {w w':World} {x:List Int×Bool} {i:Nat} {u:Value} (h:rowCell K w x i u) (hk:We K w w') (hm:∀ k,K k→K' k):rowCell K' w' x i u:=by
 match i,h with
 | 0,h=>exact Wf.keep h hk hm
 | _+1,h=>exact h
def row0:List Int×Bool:=([],false)
def RowsK (K:Nat→Prop) (w:World) (v:Value) (R:List (List Int×Bool)):Prop:=Wd K w v R.length 2 fun j i u=>rowCell K w (R.getD j row0) i u
def drowsC (e:U5):List Vl→Pl→List (List Int×Bool)
 | [],_=>[]
 | x :: l,p=>(p.s,(WT p.f).dead) :: drowsC e l (VB e p x).2
theorem drowsC_at {e:U5} {l:List Vl} {k:Nat} {p:Pl} (h:k<l.length):drowsC e (l.drop k) p=(p.s,(WT p.f).dead) :: drowsC e (l.drop (k+1)) (VB e p (l.getD k Un)).2:=by
 rw[drop_here l k Un h,drowsC]
structure RowsIn (K:Nat→Prop) (w:World) (k:Nat) (xs:List Value) (R:List (List Int×Bool)):Prop where
 len:R.length=k
 cl:xs.length=k * 2
 at_:∀ j i,j<k→i<2→∃ u,xs[j * 2+i]?=some u∧rowCell K w (R.getD j row0) i u
theorem RowsIn.keep {K K':Nat→Prop} {w w':World} {k:Nat} {xs:List Value} {R:List (List Int×Bool)} (h:RowsIn K w k xs R) (hk:We K w w') (hm:∀ k,K k→K' k):RowsIn K' w' k xs R :=
 ⟨h.len,h.cl,fun j i hj hi=>by obtain⟨u,h1,h2⟩:=h.at_ j i hj hi;exact⟨u,h1,h2.keep hk hm⟩⟩
theorem RowsIn.nil (K:Nat→Prop) (w:World):RowsIn K w 0 [] []:=⟨rfl,rfl,fun j i hj=>by omega⟩
theorem RowsIn.push {K:Nat→Prop} {w:World} {k:Nat} {xs:List Value} {R:List (List Int×Bool)} (h:RowsIn K w k xs R) (x:List Int×Bool) (u:Value) (hu:Wf K w u x.1):RowsIn K w (k+1) (xs++[u,.bool x.2]) (R++[x]):=by
 have hl:=h.len;have hc:=h.cl;refine⟨by rw[List.length_append,hl];rfl,by rw[List.length_append,hc];simp;omega,fun j i hj hi=>?_⟩;by_cases hjk:j<k
 ·obtain⟨a,h1,h2⟩:=h.at_ j i hjk hi;refine⟨a,by rw[List.getElem?_append_left (by omega)];exact h1,?_⟩;rw[List.getD_eq_getElem?_getD,List.getElem?_append_left (by omega),← List.getD_eq_getElem?_getD];exact h2
 ·obtain rfl:k=j:=by omega
  have e:(R++[x]).getD k row0=x:=by rw[List.getD_eq_getElem?_getD,List.getElem?_append_right (by omega),hl];simp
  rw[e,List.getElem?_append_right (by omega),hc,show k * 2+i - k * 2=i by omega];rcases(show i=0∨i=1 by omega) with rfl|rfl
  ·exact⟨u,rfl,hu⟩
  ·exact⟨.bool x.2,rfl,rfl⟩
def Wx.e (F:Wx) (g:Option Nat):Wx:={ F with ex:=g }
theorem Wk.unex {F:Wx} {w:World} {x:Ws} (h:Wk F w x):Wk (F.e none) w x∧∀ k,Wq F w x k→Wq (F.e none) w x k:=by
 have hM:∀ k,Wq F w x k→Wq (F.e none) w x k:=fun k hk=>⟨hk.1,by
  rintro(e|e|e|e)
  ·exact hk.2 (.inl e)
  ·exact hk.2 (.inr (.inl e))
  ·exact hk.2 (.inr (.inr (.inl e)))
  ·cases e⟩
 have hr:=h.reads.keep (We.refl _ _) hM;exact⟨⟨h.hg,h.so,h.sp,h.fo,h.fp,fun g e=>(by cases e),⟨hr.mod,hr.loc,hr.own,hr.fr⟩⟩,hM⟩
theorem Wk.rowed {F:Wx} {w w':World} {x:Ws} {v v':Value} (h:Wk (F.e v.ownBlock) w x) (hg:w.grownBy w' v.ownBlock) (hat:v'.ownBlock=v.ownBlock∨v'.ownBlock=some w.heap.size) (hlt:∀ g,v'.ownBlock=some g→g<w'.heap.size) :
 Wk (F.e v'.ownBlock) w' x∧We (Wq (F.e v.ownBlock) w x) w w'∧(∀ k,Wq (F.e v.ownBlock) w x k→Wq (F.e v'.ownBlock) w' x k):=by
 have hk:We (fun k=>k<w.heap.size∧(F.e v.ownBlock).ex≠some k) w w':=.grown hg (fun k hk=>hk.1) fun k e hk=>hk.2 e;rcases hat with e|e
 ·rw[e];exact h.aside hk
 ·rw[e];exact h.apart (nR _) (hlt _ e) hk
def DFuncPost (r:Int×Int) (R:List (List Int×Bool)) (w:World) (e:Ending) (w':World):Prop:=∃ v,e=.returned (.tuple #[.int .i64 r.1,.int .i64 r.2,v])∧RowsK (fun k=>k<w'.heap.size) w' v (if r.2=0 then R else [])∧Below w.heap.size w w'
theorem RowsK.nil (K:Nat→Prop) (w:World):RowsK K w (.slice none 0 0) []:=⟨none,0,rfl,nR _,nZ _,fun _=>rfl,fun h=>by simp at h⟩
theorem RowsIn.rowsK {K:Nat→Prop} {w:World} {k:Nat} {v:Value} {xs:List Value} {R:List (List Int×Bool)} (h:RowsIn K w k xs R) (hK:∀ b,K b→b<w.heap.size) (ho:w.ownsRow 0 126 2 v k xs):RowsK (fun b=>b<w.heap.size) w v R:=by
 unfold RowsK;rw[h.len];exact owns_cellsK ho _ (fun g hg=>(ho.lt g hg).2) fun j i hj hi=>by
  obtain⟨u,h1,h2⟩:=h.at_ j i hj hi;exact⟨u,h1,h2.keep (We.refl _ _) hK⟩
structure DLoop (F:Wx) (B:Nat) (wB:World) (code:List Vl) (p0:Pl) (e:U5) (k:Nat) (rv:Value) (xs:List Value) (x:Ws) (w:World):Prop where
 wk:Wk (F.e rv.ownBlock) w x
 own:w.ownsRow 0 126 2 rv k xs
 kp:We (fun b=>b<B) wB w
 fr:∀ b,b<B→Wq (F.e rv.ownBlock) w x b
 rs:∃ R,RowsIn (Wq (F.e rv.ownBlock) w x) w k xs R∧drowsC e code p0=R++drowsC e (code.drop k) x.pl
 wc:dwalkC e code 0 p0=dwalkC e (code.drop k) k x.pl
 rc:k<code.length→DReach code k x.pl
end
section
open Go.RowKit
theorem fields_bound (op:Int) : -4≤(Wp op).1∧(Wp op).2.1≤255:=by
 have H:∀ (c:Prop) [Decidable c] (a b:Int×Int×Int×Int×Int×Int),(-4≤a.1∧a.2.1≤255)→(-4≤b.1∧b.2.1≤255)→(-4≤(if c then a else b).1∧(if c then a else b).2.1≤255):=fun c _ a b ha hb=>by
  by_cases h:c
  ·rw[if_pos h];exact ha
  ·rw[if_neg h];exact hb
 unfold Wp
 repeat' (first|exact⟨by decide,by decide⟩|refine H _ _ _ ?_ ?_)
theorem right_small {m:Vt} (h:WU m=0):∀ f ∈ m.funs,∀ i ∈ f.code,smallA i:=fun f hf i hi=>by
 have h1:=(right_parts h).2;unfold UG at h1;simp only[Bool.and_eq_true]at h1;have h2:=List.all_eq_true.1 h1.1.1.1.1.1.2 f hf;unfold fncB codeB at h2;simp only[Bool.and_eq_true]at h2;have h3:=List.all_eq_true.1 h2.2.2 i hi;unfold WX insB inB at h3;simp only[Bool.and_eq_true,decide_eq_true_eq]at h3;have h4:=fields_bound i.op;have h5:=h3.1.1.1.1.2;exact⟨by omega,by omega⟩
theorem module_all (w:World) (ht:Tab w) (v:Mv) (m:Vt) (h:W7 (fun k=>k<w.heap.size) w v m) (hw:Few m) (prof:Int) :
 Calls Tryz.prog 19 #[.agg v.cells,.int .i64 prof] w (ModlPost (UW m prof) w):=module_ok steps_all w ht v m h hw prof right_small
end
section
open Go.RowKit
set_option maxHeartbeats 4000000
set_option maxRecDepth 100000
theorem dfunc_ok (w:World) (v:Mv) (m:Vt) (h:W7 (fun k=>k<w.heap.size) w v m) (hs:Vq m) (hr:WU m=0) (f:Nat) (hf:f<m.funs.length) (t:List Int×List Int) (ht:WB m ((m.imps.length:Int)+(f:Int))=some t) (hm:UO (m.funs.getD f WW)=0) (prof:Int) :
 Calls Tryz.prog 22 #[.agg v.cells,.int .i64 (f:Int),.int .i64 prof] w (DFuncPost (VJ m (f:Int) prof) (drowsC (UI m f prof) (m.funs.getD f WW).code (WY ⟨[],[]⟩ 0 [] (UI m f prof).ro)) w):=by
 rw[dfuncC_ok hf prof];obtain⟨hEO,hEZ,hIV,hcl⟩:=dfunc_env prof hr hf;have HEO:=hD hEO;have HEZ:=hD hEZ;have HSH:=hD hs;have hm:(VY ((m.funs.getD f WW).code.map Vl.op)).2=0:=hm;have hpos:1≤(m.funs.getD f WW).code.length:=by
  obtain⟨_,_,sl,hsl,hop⟩:=match_run hm;have h1:=(match_run hm).1;rw[List.length_map]at h1;omega
 have HBG:=hD (fun wz (hb:Below w.heap.size w wz)=>dbeg_any wz v m (h.keep (We.below hb fun _ hk=>hk) fun _ hk=>Ve hk hb.size) hs f hf t ht prof);have q2:=h.funs;obtain⟨A0,c0,A1,c1,A2,c2,A3,c3,A4,c4,A5,c5,A6,c6,A7,c7,rfl⟩:=Wr h;simp only[Mv.cells]at HBG ⊢;simp only at q2;clear h hEO hEZ hs hr ht;obtain⟨g,o,c',he,hq1,hq2⟩:=Wd.some_ q2 (by omega);simp only[vI]at he;obtain⟨rfl,-,rfl⟩:=he;obtain⟨u2,k2,h2⟩:=Wd.at_ q2 f 2 hf (by decide);have h2:Uc (fun k=>k<w.heap.size) w u2 (m.funs.getD f WW).code:=h2;generalize (m.funs.getD f WW).code=code at h2 hcl hIV hm hpos ⊢;obtain⟨e0,he0⟩:∃ e0,e0=UI m f prof:=⟨_,rfl⟩;have HE0:=hD he0;rw[← he0];rw[← he0]at HEO HEZ;obtain⟨p0,hp0⟩:∃ p0,p0=WY ⟨[],[]⟩ 0 [] e0.ro:=⟨_,rfl⟩;have HP0:=hD hp0;rw[← hp0];clear he0 hp0;obtain⟨Pc,cc,rfl,_,_⟩:=Wd.form h2;obtain⟨⟨n0,hn0⟩,⟨n1,hn1⟩,⟨n2,hn2⟩,⟨n3,hn3⟩,⟨n4,hn4⟩,⟨n5,hn5⟩,⟨n6,hn6⟩,⟨n7,hn7⟩⟩:=len8 m;rw[hn0,hn1,hn2,hn3,hn4,hn5,hn6,hn7]at HBG ⊢;rw[hn2]at hf hq1;unfold maxLen at hq2;obtain⟨nc,hnc⟩:∃ n,code.length=n:=⟨_,rfl⟩;have HNC:=hD hnc;have HC2:=hD h2;have HIV:=hD hIV;have HMT:=hD hm;rw[hnc]at k2 hcl HC2 hpos;have hf0:decide ((f:Int)<(0:Int))=false:=by simp
 have hf1:decide ((n2:Int)≤(f:Int))=false:=by simp;omega
 have hf3:decide (n2≤f)=false:=by simp;omega
 have hf2:decide (f<n2)=true:=by simp;omega
 obtain⟨W,hW,hbw,HB8⟩:=Vv w (.slice A0 n0 c0) (.slice A1 n1 c1) (.slice (some ⟨g,o,none⟩) n2 c2) (.slice A3 n3 c3) (.slice A4 n4 c4) (.slice A5 n5 c5) (.slice A6 n6 c6) (.slice A7 n7 c7);have HBW:=hD hbw;have HB8:=hD HB8;have HK2:Hid (∀ wz,Below W.heap.size W wz→wz.cell? ⟨g,o+f * 3+2,none⟩=some (.slice Pc nc cc)):=hD fun wz hz=>((Wa hbw hz).cell (wL w _ k2)).trans k2;have HW:=hD hW;obtain⟨b0,b1,b2,b3,b4,b5,b6,b7⟩:=HB8.out W (bR _ _);clear hbw hW hn0 hn1 hn2 hn3 hn4 hn5 hn6 hn7 k2 h2 q2 hnc hIV hm;go_enter Tryz.func22,Tryz.ntmps22
 go_upto_region 1 with (fail)
 rw[← HW.out]
 go_upto_region 4 with (first|(go_at_call 49;refine(HBG.out W HBW.out).mono ?_;rintro e w1 ⟨F,x1,hF,hFv,hFm,hFe,rfl,hg1,hp1,hfr1,hb1⟩))
 clear b0 b1 b2 b3 b4 b5 b6 b7 HBG;obtain⟨b0,b1,b2,b3,b4,b5,b6,b7⟩:=HB8.out w1 hb1;have k2:=HK2.out w1 hb1;have HFE:Hid (F.env=e0):=hD (by rw[hFe,Int.toNat_natCast,HE0.out]);have HF:=hD hF;have HFM:=hD hFm;have HL0:Hid (DLoop F W.heap.size W code p0 e0 0 (.slice none 0 0) [] x1 w1):=hD (by
  have hx:x1.pl=p0:=by rw[hp1,HP0.out];show WY ⟨[],[]⟩ 0 [] F.env.ro=_;rw[HFE.out]
  obtain⟨u1,u2⟩:=hg1.unex;exact⟨u1,World.ownsRow_nil _ _ _ _,We.below hb1 fun _ h=>h,fun b hb=>u2 b (hfr1 b hb),⟨[],RowsIn.nil _ _,by rw[hx];rfl⟩,by rw[hx];rfl,fun _=>by rw[hx,HP0.out];exact DReach.first HEO.out.ro HEZ.out.ro⟩)
 clear hb1 hp1 hF hFv hFm hFe hg1 hfr1 HB8 HK2;go_wp2_with fail
 clear b0 b1 b2 b3 b4 b5 b6 b7 k2;go_loopw [10,34] (fun rv i wr=>∃ (k:Nat) (xs:List Value) (x:Ws) (A:Option Addr) (c:Nat),k≤nc∧i=.int .i64 (k:Int)∧rv=.slice A k c∧Hid (DLoop F W.heap.size W code p0 e0 k (.slice A k c) xs x wr)) (fun _ i _=>nc - (intOf i).toNat)
 case atStart=>exact⟨0,[],x1,none,0,nZ _,rfl,rfl,HL0⟩
 case round =>
  obtain⟨w0,rfl⟩:∃ w0,w0=wr:=⟨_,rfl⟩;obtain⟨k,xs,x,A,c,hk,rfl,rfl,HD⟩:=hrel;by_cases hlt:k<nc
  ·have hd:decide ((k:Int)<(nc:Int))=true:=by simp;omega
   have hd2:decide (k<nc)=true:=by simp;omega
   have hlc:k<code.length:=by rw[HNC.out];exact hlt
   have hAT:Uc (Wq (F.e (Value.slice A k c).ownBlock) w0 x) w0 (.slice Pc nc cc) code:=Uc.keep HC2.out ((We.below HBW.out fun _ hk=>hk).trans (HD.out.kp.mono fun b hb=>Ve hb HBW.out.size)) fun b hb=>HD.out.fr b (Ve hb HBW.out.size);obtain⟨g1,o1,c1',he1,_,_⟩:=Wd.some_ hAT (by omega);simp only[vI]at he1;obtain⟨rfl,-,rfl⟩:=he1;obtain⟨u0,k0,h0⟩:=Wd.at_ hAT k 0 hlc (by decide);obtain⟨u1,k1,h1⟩:=Wd.at_ hAT k 1 hlc (by decide);obtain⟨u2,k2,h2⟩:=Wd.at_ hAT k 2 hlc (by decide);obtain⟨u3,k3,h3⟩:=Wd.at_ hAT k 3 hlc (by decide);obtain⟨u4,k4,h4⟩:=Wd.at_ hAT k 4 hlc (by decide);have hwc:=HD.out.wc.trans (dwalkC_at hlc);have hrc:=HD.out.rc hlc;obtain⟨R,hR,hRR⟩:=HD.out.rs;rw[drowsC_at hlc]at hRR;have hvi:=HIV.out _ (WA code k Un hlc);have hstp:=fun (hz:(VB e0 x.pl (code.getD k Un)).1=0) (h1:k+1<code.length)=>hrc.step HEO.out HEZ.out HIV.out HMT.out h1 hz;generalize code.getD k Un=i at h0 h1 h2 h3 h4 hwc hRR hvi hstp;obtain⟨op,a,b,n,l⟩:=i;obtain rfl:u0=.int .i64 op:=h0;obtain rfl:u1=.int .i64 a:=h1;obtain rfl:u2=.int .i64 b:=h2;obtain⟨rfl,_⟩:u3=.int .u64 n∧wordZ n:=h3;obtain⟨h4,_⟩:Wf (Wq (F.e (Value.slice A k c).ownBlock) w0 x) w0 u4 l∧fitN l.length:=h4;obtain⟨P4,q4,rfl,_,_⟩:=h4.form;rw[Nat.add_zero]at k0;have hpos0:=hrc.pos;have hinv:=hrc.inv;have hx0:0<x.f.length:=by have:=hpos0;rw[Ws.pl_f,List.length_map]at this;exact this
   have hxs:x.s.length≤900000:=by have:=hinv.sl;rw[Ws.pl_s]at this;omega
   have HST:=hD (fun (w6:World) (g':Option Nat) (hw:Wk (F.e g') w6 x) (hl:Wf (Wq (F.e g') w6 x) w6 (.slice P4 l.length q4) l)=>(by
    have h:=dstep_any (F:=F.e g') HF.out hw (DWalk.of hpos0 hinv (by omega) (HFM.out ▸ HSH.out) (show EnvOk F.env from HFE.out ▸ HEO.out)) op a b n l P4 l.length q4 rfl hl hvi;rw[show(F.e g').env=e0 from HFE.out]at h;exact h:Calls Tryz.prog 51 #[.pointer (some ⟨F.G,0,none⟩),.agg #[.int .i64 op,.int .i64 a,.int .i64 b,.int .u64 n,.slice P4 l.length q4]] w6 (StepPost (F.e g') w6 x (VB e0 x.pl ⟨op,a,b,n,l⟩))))
   obtain⟨W6,hW6⟩:∃ W6,W6=w0.alloc (.cells #[.int .i64 op,.int .i64 a,.int .i64 b,.int .u64 n,.slice P4 l.length q4] 25):=⟨_,rfl⟩;have hg6:=HD.out.wk.alloc (.cells #[.int .i64 op,.int .i64 a,.int .i64 b,.int .u64 n,.slice P4 l.length q4] 25);have hb06:Below w0.heap.size w0 W6:=hW6 ▸ (bR _ _).alloc (nR _) _;rw[← hW6]at hg6;have y:∀ j:Nat,W6.cell? ⟨w0.heap.size,j,none⟩=(#[.int .i64 op,.int .i64 a,.int .i64 b,.int .u64 n,.slice P4 l.length q4]:Array Value)[j]?:=fun j=>by rw[hW6,wN]
   have HY:=hD y;have hyb:w0.heap.size<W6.heap.size:=by rw[hW6,Wj];omega
   obtain⟨gt,ct,hfv,f1,f2,_,_,_,_,_,_,t4⟩:=hg6.1.tcell hx0;obtain⟨As,cs,hsv,s1,s2⟩:=hg6.1.sform;have d11:W6.cell? ⟨F.G,11,none⟩=some x.sv:=hg6.1.d11 HF.out;have d12:W6.cell? ⟨F.G,12,none⟩=some x.fv:=hg6.1.d12 HF.out;have HNS:Hid (∀ w',Below W6.heap.size W6 w'→UZ w' x.sv x.s.length (x.s.map (Value.int .i64))):=hD fun w' hb=>owns_news (W8 hg6.1.so hb);have HSL:Hid ((x.s.map (Value.int .i64)).length=x.s.length * 1):=hD (by rw[List.length_map,Nat.mul_one]);have HOS:=hD (UR x.s);have HOR:=hD (W8 HD.out.own hb06);rw[hfv]at d12;rw[hsv]at d11 HNS;have HPC:Hid (∀ wz,Below W6.heap.size W6 wz→wz.cell? ⟨F.G,11,none⟩=some (.slice As x.s.length cs)∧wz.cell? ⟨F.G,12,none⟩=some (.slice (some ⟨gt,0,none⟩) x.f.length ct)∧wz.cell? ⟨gt,(x.f.length - 1) * 5+4,none⟩=some (.bool x.top.dead)):=hD fun wz hz =>
    ⟨(hz.cell (wL W6 _ d11)).trans d11,(hz.cell (wL W6 _ d12)).trans d12,(hz.cell (wL W6 _ t4)).trans t4⟩
   have HG6:=hD hg6;have HW6:=hD hW6;have HWC:=hD hwc;have HRI:=hD hR;have HRR:=hD hRR;have HSTP:=hD hstp;have HH4:=hD h4;have HTD:Hid ((WT x.pl.f).dead=x.top.dead):=hD (by rw[Ws.pl_f,← Ws.top_fr];rfl);have HXS:=hD hxs;obtain⟨ns,hns⟩:∃ ns,x.s.length=ns:=⟨_,rfl⟩;have HNSE:=hD hns;obtain⟨fl,hfl⟩:∃ fl,x.f.length=fl:=⟨_,rfl⟩;obtain⟨dd,hdd⟩:∃ dd,x.top.dead=dd:=⟨_,rfl⟩;rw[hns]at HPC HNS HSL;rw[hfl]at HPC hx0 f1;rw[hdd]at HPC HTD;obtain⟨p11,_,_⟩:=HPC.out _ (Wb (bR _ _) (.cells #[] 3));have hns9:ns≤900000:=by omega
   obtain⟨⟨r1,r2⟩,hr⟩:∃ r,VB e0 x.pl ⟨op,a,b,n,l⟩=r:=⟨_,rfl⟩;rw[hr]at HST HWC HRR HSTP;clear hr;clear hW6 hAT h4 hvi hwc hg6 y hrc hR hRR hstp hpos0 hinv hxs hb06 d11 d12 hsv hfv t4 s1 s2 hns hfl hdd
   go_upto_region 8 with (fail)
   rw[← HW6.out]
   go_upto_region 9 with (first
    | (at_builtin;refine WE rfl (.tmp 40) (.tmp 44) 23 3 rfl _ 1 8 Tryz.underlying23 Tryz.infoInt rfl (by decide) (by decide) (.slice (some ⟨W6.heap.size,0,none⟩) 0 0) 0 [] (by rfl) (World.ownsRow_made W6 #[] 0 (nZ _) (nZ _) rfl) _ ns (x.s.map (Value.int .i64)) (by rfl) HSL.out (HNS.out _ (Wb (bR _ _) _)) HOS.out (by omega) ?_;intro v3 w3 ho3 hg3 hat3;simp only[Nat.zero_add,List.nil_append]at ho3;have HB3:=hD ((Wb (bR _ _) (.cells #[] 3)).grown hg3 (by rw[Wj];omega) (fun g hg=>by have hg:some W6.heap.size=some g:=hg;simp only[Option.some.injEq]at hg;omega));have HOW3:=hD ho3;have HNW3:Hid (∀ g,v3.ownBlock=some g→W6.heap.size≤g):=hD (fun g hg=>by rcases hat3 with h|h;(have h:=h.symm.trans hg;have h:some W6.heap.size=some g:=h;simp only[Option.some.injEq]at h;omega);(have h:=h.symm.trans hg;simp only[Option.some.injEq,Wj]at h;omega));obtain⟨A3,c3,rfl⟩:=Wy ho3;clear ho3 hg3 hat3)
    | (go_at_call 50;refine(dtop_at _ F.G gt fl ct (HPC.out _ HB3.out).2.1 hx0 f1 f2).mono ?_;rintro e w4 ⟨rfl,m4,rfl⟩;have t4:=(HPC.out (w3.drewN m4) (Wt HB3.out m4)).2.2)
    | (at_builtin;refine WE rfl (.tmp 39) (.tmp 52) 73 126 rfl _ 2 32 Tryz.underlying73 Tryz.infoRow rfl (by decide) (by decide) (.slice A k c) k xs (by rfl) (W8 HOR.out (Wb (Wt HB3.out m4) _)) _ 1 [.slice A3 ns c3,.bool dd] (by rfl) rfl (Ua _ #[.slice A3 ns c3,.bool dd] _ 1 1) (by simp[Value.oneCell']) (by omega) ?_;intro v6 w6 ho6 hg6 hat6;have HO6:=hD ho6;have HGR6:=hD hg6;have HAT6:=hD hat6;obtain⟨A6,c6,rfl⟩:=Wy ho6;clear ho6 hg6 hat6))
   obtain⟨w5,hw5⟩:∃ w5,w5=(w3.drewN m4).alloc (.cells #[.slice A3 ns c3,.bool dd] 126):=⟨_,rfl⟩;have hb5:Below W6.heap.size W6 w5:=hw5 ▸ Wb (Wt HB3.out m4) _;have hb35:Below w3.heap.size w3 w5:=hw5 ▸ Wb (Wt (bR _ _) m4) _;rw[← hw5]at HGR6 HAT6;clear hw5 t4 p11;obtain⟨g5,s5⟩:=HG6.out.1.below hb5;obtain⟨g7,kk7,mm7⟩:=g5.rowed HGR6.out HAT6.out fun g hg=>(HO6.out.lt g hg).2;have hs05:=HG6.out.2.trans s5;have hv3:Wf (Wq (F.e (Value.slice A k c).ownBlock) w5 x) w5 (.slice A3 ns c3) x.s:=(owns_new HOW3.out HNSE.out.symm rfl (by have:=HXS.out;omega) HNW3.out).keep (We.below hb35 fun _ hk=>hk.2) fun b hb=>⟨Ve hb.2 hb35.size,HG6.out.1.new_free hb.1⟩;have hR7:=((HRI.out.keep hs05.keeps hs05.mono).push (x.s,dd) _ hv3).keep kk7 mm7;have h47:=(HH4.out.keep hs05.keeps hs05.mono).keep kk7 mm7;have hsp:=HST.out w6 _ g7 h47;have hyk:∀ j:Nat,w6.cell? ⟨w0.heap.size,j,none⟩=(#[.int .i64 op,.int .i64 a,.int .i64 b,.int .u64 n,.slice P4 l.length q4]:Array Value)[j]?:=fun j =>
    ((We.grown (K:=fun b=>b=w0.heap.size) HGR6.out (fun b e=>e ▸ Ve hyb hb5.size) (fun b e hk=>by have:=(HD.out.own.lt b e).2;omega)).cell (p:=⟨w0.heap.size,j,none⟩) rfl).trans ((hb5.cell (p:=⟨w0.heap.size,j,none⟩) hyb).trans (HY.out j))
   have y0:=hyk 0;have y1:=hyk 1;have y2:=hyk 2;have y3:=hyk 3;have y4:=hyk 4;simp only[List.getElem?_toArray,List.getElem?_cons_zero,List.getElem?_cons_succ]at y0 y1 y2 y3 y4;have HKP:Hid (We (fun b=>b<W.heap.size) W w6):=hD ((HD.out.kp.trans (hs05.keeps.mono HD.out.fr)).trans (kk7.mono fun b hb=>hs05.mono b (HD.out.fr b hb)));have HFR:Hid (∀ b,b<W.heap.size→Wq (F.e (Value.slice A6 (k+1) c6).ownBlock) w6 x b):=hD fun b hb=>mm7 b (hs05.mono b (HD.out.fr b hb));have HR7:=hD hR7;have HSP:=hD hsp;clear hb5 hb35 g5 s5 g7 kk7 mm7 hs05 hv3 hR7 h47 hsp hyk HST HG6 HRI HH4 HGR6 HAT6 HOW3 HNW3 HB3;by_cases hr0:r1=0
   ·subst hr0;have HWC2:=hD (HWC.out.trans (if_pos rfl));have HSTP2:=hD (HSTP.out rfl);clear HWC HSTP;go_wp2_with (go_at_call 51;refine(HSP.out).mono ?_;rintro e w8 ⟨x3,g8,s8,rfl,hp8⟩;have HG8:=hD g8;have HS8:=hD s8;have HP8:=hD (hp8 rfl);clear g8 s8 hp8)
    go_roundw
    case rel =>
     refine⟨k+1,_,x3,A6,c6,by omega,by go_num,rfl,hD ⟨HG8.out,VE HO6.out HS8.out.keepx fun g hg=>.inr hg,HKP.out.trans (HS8.out.keeps.mono HFR.out),fun b hb=>HS8.out.mono b (HFR.out b hb),⟨_,HR7.out.keep HS8.out.keeps HS8.out.mono,?_⟩,?_,fun hk=>?_⟩⟩
     ·rw[HRR.out,HP8.out,HTD.out,List.append_assoc];rfl
     ·rw[HP8.out];exact HWC2.out
     ·rw[HP8.out];exact HSTP2.out hk
    case measure=>simp[intOf];omega
   ·have hr2:(r1 != 0)=true:=by simpa using hr0
    go_wp2_with (go_at_call 51;refine(HSP.out).mono ?_;rintro e w8 ⟨x3,g8,s8,rfl,hp8⟩;have HS8:=hD s8;clear g8 s8 hp8)
    go_ret3
    rw[HWC.out,if_neg hr0];refine⟨_,rfl,?_,HBW.out.trans (((HKP.out.trans (HS8.out.keeps.mono HFR.out)).to_below fun b hb=>hb).mono HBW.out.size)⟩;show RowsK _ _ _ (if r1=0 then _ else []);rw[if_neg hr0];exact RowsK.nil _ _
  ·have hd:decide ((k:Int)<(nc:Int))=false:=by simp;omega
   have hd2:decide (k<nc)=false:=by simp;omega
   obtain rfl:nc=k:=by omega
   obtain⟨R,hR,hRR⟩:=HD.out.rs;have hwc:=HD.out.wc;have hdr:code.drop nc=[]:=by rw[← HNC.out];exact List.drop_eq_nil_of_le (nR _)
   rw[hdr]at hRR hwc;have HRR:=hD hRR;have HR:=hD hR;have HWC:=hD hwc;clear hRR hwc hR hdr;go_wp2
   go_ret3
   rw[HWC.out,HRR.out];refine⟨_,rfl,?_,HBW.out.trans ((HD.out.kp.to_below fun b hb=>hb).mono HBW.out.size)⟩;show RowsK _ _ _ (if (0:Int)=0 then R++[] else []);rw[if_pos rfl,List.append_nil];exact HR.out.rowsK (fun b hb=>hb.1) HD.out.own
end
end Go.Proofs.YtmfpnfdinoofpaaGreatDoor
