/- A part of the proof. -/
import Derived.Test.YtepgopnnaeoolaaGreatDoorJ47
import Derived.Test.YtepgopnnaeoolaaGreatDoorJ49
namespace Go.Proofs.YtepgopnnaeoolaaGreatDoor
section
theorem ZbS {P:Prop}(h:P:=by
 unfold Wn;rw[if_neg (by omega),if_neg (by omega),if_neg (by omega),if_neg (by omega),if_neg (by omega),if_pos hg];rfl):P:=h
theorem firstC_mem {α:Type} {g:α→Int} {l:List α} (h:VN g l=0):∀ a ∈ l,g a=0:=by
 induction l with
 | nil=>intro a ha;cases ha
 | cons b l ih =>
  intro a ha;by_cases hb:g b=0
  ·rw[VN,if_pos hb]at h;rcases List.mem_cons.1 ha with h1|h1
   ·rw[h1];exact hb
   ·exact ih h a h1
  ·rw[VN,if_neg hb]at h;exact absurd h hb
theorem firstC_of {α:Type} {g:α→Int} {l:List α} (h:∀ a ∈ l,g a=0):VN g l=0:=by
 induction l with
 | nil=>rfl
 | cons b l ih=>rw[VN,if_pos (h b (by simp))];exact ih fun a ha=>h a (by simp[ha])
theorem stepC_ok {e:Env} {p:Pl} {x:VV} (h:(VZ e p x).1=0):Vt p x.op=true∧(e.prof=1→richI x=false)∧Wn e p x=true∧∃ q,Wr e p x=some q∧VZ e p x=(0,q):=by
 unfold VZ at h ⊢;by_cases h1:Vt p x.op=false
 ·rw[if_pos h1]at h;cases h
 rw[if_neg h1]at h ⊢;by_cases h2:e.prof=1∧richI x=true
 ·rw[if_pos h2]at h;cases h
 rw[if_neg h2]at h ⊢;by_cases h3:Wn e p x=false
 ·rw[if_pos h3]at h;cases h
 rw[if_neg h3]at h ⊢;refine⟨by simpa using h1,fun hp=>?_,by simpa using h3,?_⟩
 ·cases hr:richI x with
  | false=>rfl
  | true=>exact absurd ⟨hp,hr⟩ h2
 ·cases h4:Wr e p x with
  | none=>rw[h4]at h;cases h
  | some q=>exact⟨q,rfl,rfl⟩
theorem stepC_mk {e:Env} {p q:Pl} {x:VV} (h1:Vt p x.op=true) (h2:e.prof=1→richI x=false) (h3:Wn e p x=true) (h4:Wr e p x=some q):VZ e p x=(0,q):=by
 unfold VZ;rw[if_neg (by rw[h1];decide),if_neg (fun h=>by rw[h2 h.1]at h;cases h.2),if_neg (by rw[h3];decide),h4]
theorem walkC_same {e e':Env} (H:∀ p x,(VZ e p x).1=0→VZ e' p x=VZ e p x):∀ (l:List VV) (k:Nat) (p:Pl),(walkC e l k p).2=0→walkC e' l k p=walkC e l k p:=by
 intro l;induction l with
 | nil=>intro k p _;rfl
 | cons x l ih =>
  intro k p h;rw[walkC]at h ⊢;rw[walkC];by_cases h1:(VZ e p x).1=0
  ·rw[if_pos h1]at h ⊢;rw[H p x h1,if_pos h1];exact ih _ _ h
  ·rw[if_neg h1]at h;exact absurd h h1
theorem funcC_plain {m:W8} {f:Int} (h:(Um m f 1).2=0):(Um m f 2).2=0:=by
 unfold Um at h ⊢;by_cases h1:Wm f m.funs.length=false
 ·rw[if_pos h1]at h;cases h
 ·rw[if_neg h1]at h ⊢;by_cases h2:(WT m ((m.imps.length:Int)+f)).isSome=false
  ·rw[if_pos h2]at h;cases h
  ·rw[if_neg h2]at h ⊢;have hs:=walkC_same (e:=UD m f.toNat 1) (e':=UD m f.toNat 2) (fun p x hx=>by
    obtain⟨a1,_,a3,q,a4,a5⟩:=stepC_ok hx;rw[a5];exact stepC_mk a1 (fun h=>by cases h) a3 a4) _ _ _ h
   have h':=congrArg Prod.snd hs;rw[h]at h';exact h'
theorem moduleC_ok {m:W8} {p:Int} (h:Vl m p=0):(p=1∨p=2)∧Vf m=0∧VN matC m.funs=0∧(UG m && m.exps.all (expIn m) && m.datas.all (datIn m.mems.length))=true∧(p=1→plainC m=true)∧funcsC m p=0:=by
 unfold Vl at h;by_cases h1:p≠1∧p≠2
 ·rw[if_pos h1]at h;cases h
 rw[if_neg h1]at h;by_cases h2:Vf m≠0
 ·rw[if_pos h2]at h;exact absurd h h2
 rw[if_neg h2]at h;by_cases h3:VN matC m.funs≠0
 ·rw[if_pos h3]at h;exact absurd h h3
 rw[if_neg h3]at h;cases h4:(UG m && m.exps.all (expIn m) && m.datas.all (datIn m.mems.length)) with
 | false=>rw[if_pos h4]at h;cases h
 | true =>
  rw[if_neg (by rw[h4];decide)]at h;by_cases h5:p=1∧plainC m=false
  ·rw[if_pos h5]at h;cases h
  ·rw[if_neg h5]at h;refine⟨by omega,by omega,by omega,rfl,fun hp=>?_,h⟩;cases hpl:plainC m with
   | true=>rfl
   | false=>exact absurd ⟨hp,hpl⟩ h5
theorem moduleC_mk {m:W8} {p:Int} (h1:p=1∨p=2) (h2:Vf m=0) (h3:VN matC m.funs=0) (h4:(UG m && m.exps.all (expIn m) && m.datas.all (datIn m.mems.length))=true) (h5:p=1→plainC m=true) (h6:funcsC m p=0):Vl m p=0:=by
 unfold Vl;rw[if_neg (by omega),if_neg (by rw[h2];decide),if_neg (by rw[h3];decide),if_neg (by rw[h4];decide),if_neg (fun h=>by rw[h5 h.1]at h;cases h.2)];exact h6
theorem plain_rich {m:W8} (h:Vl m 1=0):Vl m 2=0:=by
 obtain⟨_,h2,h3,h4,_,h6⟩:=moduleC_ok h;refine moduleC_mk (.inr rfl) h2 h3 h4 (fun h=>by cases h) ?_;unfold funcsC at h6 ⊢;exact firstC_of fun k hk=>funcC_plain (firstC_mem h6 k hk)
def UE (m:W8):W8:={ m with exps:=[],globs:=m.globs++[(124,false,0)],cus:=[(⟨#[109,111,114,101]⟩,[])] }
theorem getD_more {α:Type} (l:List α) (a d:α) (k:Nat) (h:k<l.length):(l++[a]).getD k d=l.getD k d:=by
 rw[List.getD_eq_getElem?_getD,List.getD_eq_getElem?_getD,List.getElem?_append_left h]
theorem withinB_of {n:Int} {m:Nat} (h:Wm n m=true):0≤n∧n<(m:Int):=by
 unfold Wm at h;rw[Bool.and_eq_true]at h;exact⟨of_decide_eq_true h.1,of_decide_eq_true h.2⟩
theorem exists_more {m:W8} {f:Nat} {p:Pl} {x:VV} (h:Wn (UD m f 2) p x=true):Wn (UD (UE m) f 2) p x=true:=by
 by_cases hg:x.op=35∨x.op=36
 ·have e:∀ mm:W8,Wn (UD mm f 2) p x=Wm x.a mm.globs.length:=fun mm=>by
   exact ZbS
  rw[e]at h ⊢;have h1:=withinB_of h;unfold Wm UE;rw[decide_eq_true h1.1,decide_eq_true (by rw[List.length_append];simp;omega)];rfl
 ·unfold Wn at h ⊢;simp only[if_neg hg]at h ⊢;exact h
theorem follow_more {m:W8} {f:Nat} {p:Pl} {x:VV} (h:Wn (UD m f 2) p x=true):Wr (UD (UE m) f 2) p x=Wr (UD m f 2) p x:=by
 have hgl:x.op=35∨x.op=36→(m.globs++[((124:Int),false,(0:Int))]).getD x.a.toNat UK=m.globs.getD x.a.toNat UK:=fun hg=>by
  have e:Wn (UD m f 2) p x=Wm x.a m.globs.length:=by
   exact ZbS
  rw[e]at h;have h1:=withinB_of h;exact getD_more _ _ _ _ (by omega)
 by_cases h36:x.op=36
 ·have e:∀ mm:W8,Wr (UD mm f 2) p x=if (mm.globs.getD x.a.toNat UK).2.1 then VH p [(mm.globs.getD x.a.toNat UK).1] else none:=fun mm=>by
   unfold Wr;rw[if_neg (by omega),if_neg (by omega),if_neg (by omega),if_neg (by omega),if_neg (by omega),if_neg (by omega),if_neg (by omega),if_neg (by omega),if_neg (by omega),if_neg (by omega),if_pos h36];rfl
  rw[e,e];rw[show(UE m).globs=m.globs++[((124:Int),false,(0:Int))] from rfl,hgl (.inr h36)]
 ·have heff:Vx (UD (UE m) f 2) p x=Vx (UD m f 2) p x:=by
   by_cases h35:x.op=35
   ·unfold Vx;rw[if_neg (by omega),if_neg (by omega),if_neg (by omega),if_neg (by omega),if_neg (by omega),if_pos h35,if_neg (by omega),if_neg (by omega),if_neg (by omega),if_neg (by omega),if_neg (by omega),if_pos h35];show([],[((m.globs++[((124:Int),false,(0:Int))]).getD x.a.toNat UK).1])=_;rw[hgl (.inl h35)];rfl
   ·unfold Vx;simp only[if_neg h35];rfl
  unfold Wr;simp only[if_neg h36,heff];rfl
theorem funcC_more {m:W8} {f:Int} (h:(Um m f 2).2=0):(Um (UE m) f 2).2=0:=by
 unfold Um at h ⊢;by_cases h1:Wm f m.funs.length=false
 ·rw[if_pos h1]at h;cases h
 ·rw[if_neg h1]at h;rw[show(UE m).funs=m.funs from rfl,show(UE m).imps=m.imps from rfl,if_neg h1,show WT (UE m) ((m.imps.length:Int)+f)=WT m ((m.imps.length:Int)+f) from rfl];by_cases h2:(WT m ((m.imps.length:Int)+f)).isSome=false
  ·rw[if_pos h2]at h;cases h
  ·rw[if_neg h2]at h ⊢;have hs:=walkC_same (e:=UD m f.toNat 2) (e':=UD (UE m) f.toNat 2) (fun p x hx=>by
    obtain⟨a1,_,a3,q,a4,a5⟩:=stepC_ok hx;rw[a5];exact stepC_mk a1 (fun h=>by cases h) (exists_more a3) ((follow_more a3).trans a4)) _ _ _ h
   have h':=congrArg Prod.snd hs;rw[h]at h';exact h'
theorem more_ok {m:W8} (h:Vl m 2=0) (hg:m.globs.length+1≤256):Vl (UE m) 2=0:=by
 obtain⟨_,h2,h3,h4,_,h6⟩:=moduleC_ok h;refine moduleC_mk (.inr rfl) ?_ h3 ?_ (fun h=>by cases h) ?_
 ·have hf:fitsB m=true∧partsB m=true:=by
   unfold Vf at h2;cases h1:fitsB m with
   | false=>rw[h1]at h2;cases h2
   | true =>
    cases h5:partsB m with
    | false=>rw[h1,h5]at h2;cases h2
    | true=>exact⟨rfl,rfl⟩
  have f1:fitsB (UE m)=true:=by
   have:=hf.1;unfold fitsB UE at *;simp only[Bool.and_eq_true,decide_eq_true_eq,List.length_append,List.length_nil,List.length_cons]at this ⊢;omega
  have f2:partsB (UE m)=true:=by
   have:=hf.2;unfold partsB UE at *;simp only[Bool.and_eq_true]at this ⊢;obtain⟨⟨⟨⟨⟨⟨⟨b1,b2⟩,b3⟩,b4⟩,b5⟩,b6⟩,b7⟩,b8⟩:=this;refine⟨⟨⟨⟨⟨⟨⟨b1,b2⟩,b3⟩,b4⟩,?_⟩,by decide⟩,b7⟩,by decide +kernel⟩;rw[List.all_append,b5]
   decide
  unfold Vf;rw[f1,f2];rfl
 ·rw[Bool.and_eq_true,Bool.and_eq_true]at h4;show(UG m && true && m.datas.all (datIn m.mems.length))=true;rw[h4.1.1,h4.2];rfl
 ·unfold funcsC at h6 ⊢;exact firstC_of fun k hk=>funcC_more (firstC_mem h6 k hk)
end
section
open Go.RowKit
theorem fields_bound (op:Int) : -4≤(Wp op).1∧(Wp op).2.1≤255:=by
 have H:∀ (c:Prop) [Decidable c] (a b:Int×Int×Int×Int×Int×Int),(-4≤a.1∧a.2.1≤255)→(-4≤b.1∧b.2.1≤255)→(-4≤(if c then a else b).1∧(if c then a else b).2.1≤255):=fun c _ a b ha hb=>by
  by_cases h:c
  ·rw[if_pos h];exact ha
  ·rw[if_neg h];exact hb
 unfold Wp
 repeat' (first|exact⟨by decide,by decide⟩|refine H _ _ _ ?_ ?_)
theorem right_small {m:W8} (h:Vf m=0):∀ f ∈ m.funs,∀ i ∈ f.code,smallA i:=fun f hf i hi=>by
 have h1:=(Uy h).2;unfold partsB at h1;simp only[Bool.and_eq_true]at h1;have h2:=List.all_eq_true.1 h1.1.1.1.1.1.2 f hf;unfold fncB codeB at h2;simp only[Bool.and_eq_true]at h2;have h3:=List.all_eq_true.1 h2.2.2 i hi;unfold instB insB inB at h3;simp only[Bool.and_eq_true,decide_eq_true_eq]at h3;have h4:=fields_bound i.op;have h5:=h3.1.1.1.1.2;exact⟨by omega,by omega⟩
theorem module_all (w:World) (ht:Tab w) (v:Mv) (m:W8) (h:WQ (fun k=>k<w.heap.size) w v m) (hw:Few m) (prof:Int) :
 Calls Tryz.prog 6 #[.agg v.cells,.int .i64 prof] w (ModlPost (Vl m prof) w):=module_ok steps_all w ht v m h hw prof right_small
end
section
def insL (a:Int):VV:=⟨a,0,0,0,[]⟩
def mDead (a o:Int):W8:=⟨[([],[])],[],[⟨0,[],[insL a,insL o,insL 26,insL 11]⟩],[],[],[],[],[]⟩
theorem dead_known:Um (mDead 65 106) 0 2=(1,14)∧Vl (mDead 0 106) 1=0∧Vl (mDead 0 106) 3=1∧Vl ⟨[],[],[],[],[],[],[],[]⟩ 1=0:=by decide +kernel
end
section
open Go.RowKit
def simpleI (i:VV):Prop:=(restE i.op∧restF i.op∧restG i.op)∨i.op=0∨i.op=11∨i.op=26
theorem simple_restE {i:VV} (h:simpleI i):restE i.op:=by
 rcases h with h|h|h|h
 ·exact h.1
 ·rw[h];unfold restE;decide
 ·rw[h];unfold restE;decide
 ·rw[h];unfold restE;decide
theorem steps_simple:StepsOk simpleI:=by
 intro F w x n i Al nl cl hF hg hs he hi hn hgood hints;obtain⟨op,a,b,c,l⟩:=i;have hop:=simple_restE hgood;refine step_of hF hg op a b c l Al nl cl (fun _ w1 g1=>exists_rest hF g1 op a b c l hop Al nl cl) fun hin _ w1 g1=>?_;have h0:0<x.pl.f.length:=inPlaceC_pos hin;obtain⟨t1,t2,t3⟩:=hi.top h0;rw[Ws.pl_top]at t1 t2 t3;have h1:0<x.f.length:=by have:=h0;rw[Ws.pl_f,List.length_map]at this;exact this
 have h2:x.s.length≤900000:=by have:=hi.sl;rw[Ws.pl_s]at this;omega
 have h3:x.top.h≤x.s.length:=t1;have h4:x.top.rs.length≤100000:=Nat.le_trans t3 (by decide);rcases hgood with h|h|h|h
 ·exact follow_rest hF g1 h1 h2 h3 op a b c l h.2.1 h.2.2 Al nl cl
 ·obtain rfl:op=0:=h;exact follow_0 hF g1 h1 h2 h3 a b c l Al nl cl
 ·obtain rfl:op=11:=h;exact follow_11 hF g1 h1 h2 h3 h4 a b c l Al nl cl
 ·obtain rfl:op=26:=h;exact follow_26 hF g1 h1 h2 a b c l Al nl cl
end
section
open Go.RowKit
def m00:W8:=⟨[],[],[],[],[],[],[],[]⟩
def v00:Mv:=⟨.slice none 0 0,.slice none 0 0,.slice none 0 0,.slice none 0 0,.slice none 0 0,.slice none 0 0,.slice none 0 0,.slice none 0 0⟩
theorem WY (K:Nat→Prop) (w:World) (size:Nat) (f:Nat→Nat→Value→Prop):Wd K w (.slice none 0 0) 0 size f:=⟨none,0,rfl,nR _,nZ _,fun _=>rfl,fun h=>absurd h (Nat.lt_irrefl _)⟩
theorem at00 (K:Nat→Prop) (w:World):WQ K w v00 m00:=⟨WY _ _ _ _,WY _ _ _ _,WY _ _ _ _,WY _ _ _ _,WY _ _ _ _,WY _ _ _ _,WY _ _ _ _,WY _ _ _ _⟩
def Two6 (w:World) (g:Nat):Prop:=w.cell? ⟨g,0,none⟩=some (.string ⟨#[97]⟩)∧w.cell? ⟨g,1,none⟩=some (.int .i64 0)∧w.cell? ⟨g,2,none⟩=some (.int .i64 0)∧w.cell? ⟨g,3,none⟩=some (.string ⟨#[97]⟩)∧w.cell? ⟨g,4,none⟩=some (.int .i64 0)∧w.cell? ⟨g,5,none⟩=some (.int .i64 0)
theorem Two6.below {w w':World} {g:Nat} (h:Two6 w g) (hb:Below w.heap.size w w'):Two6 w' g:=by
 have hg:=wL _ _ h.1;have hc:∀ i,w'.cell? ⟨g,i,none⟩=w.cell? ⟨g,i,none⟩:=fun i=>hb.cell (p:=⟨g,i,none⟩) hg;unfold Two6;simp only[hc];exact h
theorem Two6.new (w:World):Two6 (w.alloc (.cells #[.string ⟨#[97]⟩,.int .i64 0,.int .i64 0,.string ⟨#[97]⟩,.int .i64 0,.int .i64 0] 59)) w.heap.size:=by
 have h:=fun i=>wN w #[.string ⟨#[97]⟩,.int .i64 0,.int .i64 0,.string ⟨#[97]⟩,.int .i64 0,.int .i64 0] 59 i;exact⟨h 0,h 1,h 2,h 3,h 4,h 5⟩
end
section
open Go.RowKit
def cArr (a o:Int):Array Value:=#[.int .i64 a,.int .i64 0,.int .i64 0,.int .u64 0,.slice none 0 0,.int .i64 o,.int .i64 0,.int .i64 0,.int .u64 0,.slice none 0 0,.int .i64 26,.int .i64 0,.int .i64 0,.int .u64 0,.slice none 0 0,.int .i64 11,.int .i64 0,.int .i64 0,.int .u64 0,.slice none 0 0]
structure Dm (w:World) (gt gc gf:Nat) (a o:Int):Prop where
 t:w.heap[gt]?=some (.cells #[.slice none 0 0,.slice none 0 0] 66 (0,0))
 c:w.heap[gc]?=some (.cells (cArr a o) 76 (0,0))
 f:w.heap[gf]?=some (.cells #[.int .i64 0,.slice none 0 0,.slice (some ⟨gc,0,none⟩) 4 4] 62 (0,0))
def vDead (gt gf:Nat):Mv:=⟨.slice (some ⟨gt,0,none⟩) 1 1,.slice none 0 0,.slice (some ⟨gf,0,none⟩) 1 1,.slice none 0 0,.slice none 0 0,.slice none 0 0,.slice none 0 0,.slice none 0 0⟩
theorem VJ {w:World} {g:Nat} {o:Obj} (h:w.heap[g]?=some o):g<w.heap.size:=(Array.getElem?_eq_some_iff.1 h).1
theorem Dm.below {w w':World} {gt gc gf:Nat} {a o:Int} (h:Dm w gt gc gf a o) (hb:Below w.heap.size w w'):Dm w' gt gc gf a o :=
 ⟨(hb.block _ (VJ h.t)).trans h.t,(hb.block _ (VJ h.c)).trans h.c,(hb.block _ (VJ h.f)).trans h.f⟩
theorem Dm.new (w:World) (a o:Int):Dm (((w.alloc (.cells #[.slice none 0 0,.slice none 0 0] 66)).alloc (.cells (cArr a o) 76)).alloc (.cells #[.int .i64 0,.slice none 0 0,.slice (some ⟨w.heap.size+1,0,none⟩) 4 4] 62)) w.heap.size (w.heap.size+1) (w.heap.size+2) a o:=by
 have h1:=VO w (.cells #[.slice none 0 0,.slice none 0 0] 66);have b1:=Wi (bR (w.alloc (.cells #[.slice none 0 0,.slice none 0 0] 66)).heap.size (w.alloc (.cells #[.slice none 0 0,.slice none 0 0] 66))) (.cells (cArr a o) 76);have h2:=VO (w.alloc (.cells #[.slice none 0 0,.slice none 0 0] 66)) (.cells (cArr a o) 76);have b2:=Wi (bR ((w.alloc (.cells #[.slice none 0 0,.slice none 0 0] 66)).alloc (.cells (cArr a o) 76)).heap.size ((w.alloc (.cells #[.slice none 0 0,.slice none 0 0] 66)).alloc (.cells (cArr a o) 76))) (.cells #[.int .i64 0,.slice none 0 0,.slice (some ⟨w.heap.size+1,0,none⟩) 4 4] 62);have h3:=VO ((w.alloc (.cells #[.slice none 0 0,.slice none 0 0] 66)).alloc (.cells (cArr a o) 76)) (.cells #[.int .i64 0,.slice none 0 0,.slice (some ⟨w.heap.size+1,0,none⟩) 4 4] 62);rw[Wq]at h2;rw[Wq,Wq]at h3;exact⟨(b2.block _ (VJ ((b1.block _ (VJ h1)).trans h1))).trans ((b1.block _ (VJ h1)).trans h1),(b2.block _ (VJ h2)).trans h2,h3⟩
theorem Dm.at_ {w:World} {gt gc gf:Nat} {a o:Int} (h:Dm w gt gc gf a o):WQ (fun k=>k<w.heap.size) w (vDead gt gf) (mDead a o):=by
 have ht:=fun j=>WG h.t j;have hc:=fun j=>WG h.c j;have hf:=fun j=>WG h.f j;refine⟨?_,WY _ _ _ _,?_,WY _ _ _ _,WY _ _ _ _,WY _ _ _ _,WY _ _ _ _,WY _ _ _ _⟩
 ·refine⟨_,1,rfl,nR _,by unfold maxLen;omega,(fun h=>by cases h),fun _=>⟨gt,0,rfl,VJ h.t,fun j i hj hi=>?_⟩⟩;have hj2:j<1:=hj;rcases(show j=0∧(i=0∨i=1) by omega) with ⟨rfl,rfl|rfl⟩
  ·exact⟨_,ht 0,Wg.nil _ _⟩
  ·exact⟨_,ht 1,Wg.nil _ _⟩
 ·refine⟨_,1,rfl,nR _,by unfold maxLen;omega,(fun h=>by cases h),fun _=>⟨gf,0,rfl,VJ h.f,fun j i hj hi=>?_⟩⟩;have hj2:j<1:=hj;rcases(show j=0∧(i=0∨i=1∨i=2) by omega) with ⟨rfl,rfl|rfl|rfl⟩
  ·exact⟨_,hf 0,rfl⟩
  ·exact⟨_,hf 1,Wg.nil _ _⟩
  ·refine⟨_,hf 2,?_⟩;refine⟨_,4,rfl,nR _,by unfold maxLen;omega,(fun h=>by cases h),fun _=>⟨gc,0,rfl,VJ h.c,fun j i hj hi=>?_⟩⟩;have hj4:j<4:=hj;have wz:VK 0:=⟨by omega,by omega⟩;have fz:fitN 0:=by unfold fitN;omega
   rcases(show(j=0∨j=1∨j=2∨j=3)∧(i=0∨i=1∨i=2∨i=3∨i=4) by omega) with ⟨rfl|rfl|rfl|rfl,rfl|rfl|rfl|rfl|rfl⟩
   ·exact⟨_,hc 0,rfl⟩
   ·exact⟨_,hc 1,rfl⟩
   ·exact⟨_,hc 2,rfl⟩
   ·exact⟨_,hc 3,rfl,wz⟩
   ·exact⟨_,hc 4,Wg.nil _ _,fz⟩
   ·exact⟨_,hc 5,rfl⟩
   ·exact⟨_,hc 6,rfl⟩
   ·exact⟨_,hc 7,rfl⟩
   ·exact⟨_,hc 8,rfl,wz⟩
   ·exact⟨_,hc 9,Wg.nil _ _,fz⟩
   ·exact⟨_,hc 10,rfl⟩
   ·exact⟨_,hc 11,rfl⟩
   ·exact⟨_,hc 12,rfl⟩
   ·exact⟨_,hc 13,rfl,wz⟩
   ·exact⟨_,hc 14,Wg.nil _ _,fz⟩
   ·exact⟨_,hc 15,rfl⟩
   ·exact⟨_,hc 16,rfl⟩
   ·exact⟨_,hc 17,rfl⟩
   ·exact⟨_,hc 18,rfl,wz⟩
   ·exact⟨_,hc 19,Wg.nil _ _,fz⟩
theorem simple_nums {o:Int} (h:37≤o∧o≤255∧o≠63∧o≠64):simpleI (insL o):=by
 refine .inl ⟨?_,?_,?_⟩
 ·show restE o;unfold restE;omega
 ·show restF o;unfold restF;omega
 ·show restG o;unfold restG;omega
theorem simple_dead {a o:Int} (ha:a=0∨a=1∨a=65) (ho:69≤o∧o≤196):∀ f ∈ (mDead a o).funs,∀ i ∈ f.code,simpleI i:=by
 intro f hf i hi;have hf:f ∈ [(⟨0,[],[insL a,insL o,insL 26,insL 11]⟩:Fnc)]:=hf;rw[List.mem_singleton]at hf;subst hf;have hi:i ∈ [insL a,insL o,insL 26,insL 11]:=hi;simp only[List.mem_cons,List.not_mem_nil,or_false]at hi;rcases hi with rfl|rfl|rfl|rfl
 ·rcases ha with rfl|rfl|rfl
  ·exact .inr (.inl rfl)
  ·refine .inl ⟨?_,?_,?_⟩
   ·show restE 1;unfold restE;omega
   ·show restF 1;unfold restF;omega
   ·show restG 1;unfold restG;omega
  ·exact simple_nums (by omega)
 ·exact simple_nums (by omega)
 ·exact .inr (.inr (.inr rfl))
 ·exact .inr (.inr (.inl rfl))
theorem few_dead (a o:Int):Few (mDead a o):=by unfold Few mDead;simp
theorem short_dead (a o:Int):VI (mDead a o):=by
 unfold VI mDead;refine⟨by simp,by simp,by simp,fun t ht=>?_,fun f hf=>?_⟩
 ·rw[List.mem_singleton]at ht;subst ht;exact⟨by simp,by simp⟩
 ·rw[List.mem_singleton]at hf;subst hf;simp
theorem types_dead (a o:Int):∀ t ∈ (mDead a o).types,t.1.length≤8∧t.2.length≤8:=fun t ht=>by
 have ht:t ∈ [(([]:List Int),([]:List Int))]:=ht;rw[List.mem_singleton]at ht;subst ht;exact⟨by simp,by simp⟩
theorem func_dead {w:World} {gt gc gf:Nat} {a o:Int} (h:Dm w gt gc gf a o) (ha:a=0∨a=1∨a=65) (ho:69≤o∧o≤196) (prof:Int) (r:Int×Int) (hr:Um (mDead a o) 0 prof=r) :
 Calls Tryz.prog 23 #[.agg (vDead gt gf).cells,.int .i64 0,.int .i64 prof] w (FuncPost r w):=by
 have h1:=func_ok steps_simple w _ _ h.at_ (short_dead a o) (types_dead a o) 0 (by show 0<1;omega) ([],[]) rfl prof (by show 4≤65536;omega) (simple_dead ha ho _ (by show _ ∈ [_];exact List.mem_singleton.2 rfl));rw[← hr];exact h1
theorem module_dead {w:World} {gt gc gf:Nat} {a o:Int} (h:Dm w gt gc gf a o) (ht:Tab w) (ha:a=0∨a=1∨a=65) (ho:69≤o∧o≤196) (prof z:Int) (hr:Vl (mDead a o) prof=z) :
 Calls Tryz.prog 6 #[.agg (vDead gt gf).cells,.int .i64 prof] w (ModlPost z w):=by
 have h1:=module_ok steps_simple w ht _ _ h.at_ (few_dead a o) prof (fun _=>simple_dead ha ho);rw[← hr];exact h1
theorem module_none (w:World) (ht:Tab w):Calls Tryz.prog 6 #[.agg v00.cells,.int .i64 1] w (ModlPost 0 w):=by
 have h1:=module_ok steps_simple w ht v00 m00 (at00 _ _) (by unfold Few m00;simp) 1 (fun _ f hf=>by cases hf);rw[show Vl m00 1=0 from dead_known.2.2.2]at h1;exact h1
end
section
open Go.RowKit
set_option maxHeartbeats 4000000
set_option maxRecDepth 100000
theorem Dm.set0 {w:World} {gt gc gf:Nat} {a o:Int} (h:Dm w gt gc gf a o) (h1:gt≠gc) (h2:gf≠gc):Dm (((((w.setCell ⟨gc,0,none⟩ (.int .i64 0)).setCell ⟨gc,1,none⟩ (.int .i64 0)).setCell ⟨gc,2,none⟩ (.int .i64 0)).setCell ⟨gc,3,none⟩ (.int .u64 0)).setCell ⟨gc,4,none⟩ (.slice none 0 0)) gt gc gf 0 o:=by
 have hk:=keeps5 w gc (.int .i64 0) (.int .i64 0) (.int .i64 0) (.int .u64 0) (.slice none 0 0);refine⟨(hk.block gt h1).trans h.t,?_,(hk.block gf h2).trans h.f⟩;have s1:=Wh w gc 0 _ _ (.int .i64 0) h.c;have s2:=Wh _ gc 1 _ _ (.int .i64 0) s1;have s3:=Wh _ gc 2 _ _ (.int .i64 0) s2;have s4:=Wh _ gc 3 _ _ (.int .u64 0) s3;have s5:=Wh _ gc 4 _ _ (.slice none 0 0) s4;exact s5
theorem known10_any (w:World) (ht:Tab w):Calls Tryz.prog 7 #[] w (Wo true w):=by
 have ho:(69:Int)≤106∧(106:Int)≤196:=⟨by decide,by decide⟩;obtain⟨W3,hW3⟩:∃ W3,W3=((w.alloc (.cells #[.slice none 0 0,.slice none 0 0] 66)).alloc (.cells #[.int .i64 65,.int .i64 0,.int .i64 0,.int .u64 0,.slice none 0 0,.int .i64 106,.int .i64 0,.int .i64 0,.int .u64 0,.slice none 0 0,.int .i64 26,.int .i64 0,.int .i64 0,.int .u64 0,.slice none 0 0,.int .i64 11,.int .i64 0,.int .i64 0,.int .u64 0,.slice none 0 0] 76)).alloc (.cells #[.int .i64 0,.slice none 0 0,.slice (some ⟨w.heap.size+1,0,none⟩) 4 4] 62):=⟨_,rfl⟩;have hdm:Dm W3 w.heap.size (w.heap.size+1) (w.heap.size+2) 65 106:=by rw[hW3];exact Dm.new w 65 106
 have hzm:W3.heap.size=w.heap.size+3:=by rw[hW3];simp
 have hbm3:Below w.heap.size w W3:=by rw[hW3];exact Wi (Wi (Wi (bR _ _) _) _) _
 obtain⟨W,hW⟩:∃ W4,W4=W3.alloc (.cells #[.slice (some ⟨w.heap.size,0,none⟩) 1 1,.slice none 0 0,.slice (some ⟨w.heap.size+2,0,none⟩) 1 1,.slice none 0 0,.slice none 0 0,.slice none 0 0,.slice none 0 0,.slice none 0 0] 33):=⟨_,rfl⟩;have HXm:Hid (W=((((w.alloc (.cells #[.slice none 0 0,.slice none 0 0] 66)).alloc (.cells #[.int .i64 65,.int .i64 0,.int .i64 0,.int .u64 0,.slice none 0 0,.int .i64 106,.int .i64 0,.int .i64 0,.int .u64 0,.slice none 0 0,.int .i64 26,.int .i64 0,.int .i64 0,.int .u64 0,.slice none 0 0,.int .i64 11,.int .i64 0,.int .i64 0,.int .u64 0,.slice none 0 0] 76)).alloc (.cells #[.int .i64 0,.slice none 0 0,.slice (some ⟨w.heap.size+1,0,none⟩) 4 4] 62)).alloc (.cells #[.slice (some ⟨w.heap.size,0,none⟩) 1 1,.slice none 0 0,.slice (some ⟨w.heap.size+2,0,none⟩) 1 1,.slice none 0 0,.slice none 0 0,.slice none 0 0,.slice none 0 0,.slice none 0 0] 33))):=hD (by rw[hW,hW3]);have HBm:Hid (Below w.heap.size w W):=hD (by rw[hW];exact Wi hbm3 _);have HDm:Hid (∀ wz,Below W.heap.size W wz→Dm wz w.heap.size (w.heap.size+1) (w.heap.size+2) 65 106):=hD fun wz hz=>(hdm.below (by rw[hW];exact Wi (bR _ _) _)).below hz;have HQm:Hid (∀ wz,Below W.heap.size W wz→V4 wz (w.heap.size+3) (.slice (some ⟨w.heap.size,0,none⟩) 1 1) (.slice none 0 0) (.slice (some ⟨w.heap.size+2,0,none⟩) 1 1) (.slice none 0 0) (.slice none 0 0) (.slice none 0 0) (.slice none 0 0) (.slice none 0 0)):=hD fun wz hz=>by rw[← hzm];rw[hW]at hz;exact Vq W3 _ _ _ _ _ _ _ _ hz
 clear hW hdm hbm3 hzm hW3;have HF:=hD (fun wz (hb:Below W.heap.size W wz)=>func_dead (HDm.out wz hb) (.inr (.inr rfl)) ho 2 (1,14) dead_known.1);have HM0:=hD (fun wz (hb:Below w.heap.size w wz)=>module_none wz (ht.below hb));have HM1:=hD (fun wz gt gc gf (hb:Below w.heap.size w wz) (hd:Dm wz gt gc gf 0 106)=>module_dead hd (ht.below hb) (.inl rfl) ho 1 0 dead_known.2.1);have HM3:=hD (fun wz gt gc gf (hb:Below w.heap.size w wz) (hd:Dm wz gt gc gf 0 106)=>module_dead hd (ht.below hb) (.inl rfl) ho 3 1 dead_known.2.2.1);unfold v00 at HM0;unfold vDead at HF HM1 HM3;unfold FuncPost at HF;unfold ModlPost at HM0 HM1 HM3;simp only[Mv.cells]at HF HM0 HM1 HM3;clear ht ho;go_enter Tryz.func7,Tryz.ntmps7
 go_upto_region 2 with (fail)
 rw[← HXm.out];obtain⟨b0,b1,b2,b3,b4,b5,b6,b7⟩:=HQm.out W (bR _ _)
 go_upto_region 3 with (first|(go_at_call 23;refine(HF.out W (bR _ _)).mono ?_;rintro e w1 ⟨rfl,hb1⟩))
 clear b0 b1 b2 b3 b4 b5 b6 b7;obtain⟨b0,b1,b2,b3,b4,b5,b6,b7⟩:=HQm.out w1 hb1;have hd1:=HDm.out w1 hb1;have HQ1:=hD (HQm.out w1 hb1);have f2:=WG hd1.f 2;simp only[List.getElem?_toArray,List.getElem?_cons_zero,List.getElem?_cons_succ]at f2;have z0:=Vv hd1.c 0;have z1:=Vv hd1.c 1;have z2:=Vv hd1.c 2;have z3:=Vv hd1.c 3;have z4:=Vv hd1.c 4;have g0:=WG hd1.c 0;have g1:=WG hd1.c 1;have g2:=WG hd1.c 2;have g3:=WG hd1.c 3;have g4:=WG hd1.c 4;unfold cArr at g0 g1 g2 g3 g4;simp only[List.getElem?_toArray,List.getElem?_cons_zero,List.getElem?_cons_succ]at g0 g1 g2 g3 g4;obtain⟨W5,hW5⟩:∃ W5,W5=(((((w1.setCell ⟨w.heap.size+1,0,none⟩ (.int .i64 0)).setCell ⟨w.heap.size+1,1,none⟩ (.int .i64 0)).setCell ⟨w.heap.size+1,2,none⟩ (.int .i64 0)).setCell ⟨w.heap.size+1,3,none⟩ (.int .u64 0)).setCell ⟨w.heap.size+1,4,none⟩ (.slice none 0 0)):=⟨_,rfl⟩;have hd5:Dm W5 w.heap.size (w.heap.size+1) (w.heap.size+2) 0 106:=by rw[hW5];exact hd1.set0 (by omega) (by omega)
 have hk5:=keeps5 w1 (w.heap.size+1) (.int .i64 0) (.int .i64 0) (.int .i64 0) (.int .u64 0) (.slice none 0 0);rw[← hW5]at hk5;have hb5:Below w.heap.size w W5:=(HBm.out.trans (hb1.mono HBm.out.size)).trans (hk5.to_below fun k hk=>by omega);have hq5:V4 W5 (w.heap.size+3) (.slice (some ⟨w.heap.size,0,none⟩) 1 1) (.slice none 0 0) (.slice (some ⟨w.heap.size+2,0,none⟩) 1 1) (.slice none 0 0) (.slice none 0 0) (.slice none 0 0) (.slice none 0 0) (.slice none 0 0):=by
  have hc:∀ i,W5.cell? ⟨w.heap.size+3,i,none⟩=w1.cell? ⟨w.heap.size+3,i,none⟩:=fun i=>hk5.cell (p:=⟨w.heap.size+3,i,none⟩) (by show w.heap.size+3≠w.heap.size+1;omega);have h:=HQ1.out;unfold V4 at h ⊢;simp only[hc];exact h
 have HB5:=hD hb5;have HW5:=hD hW5;have HD5:=hD (fun wz (hb:Below W5.heap.size W5 wz)=>hd5.below hb);have HQ5:Hid (∀ wz,Below W5.heap.size W5 wz→V4 wz (w.heap.size+3) (.slice (some ⟨w.heap.size,0,none⟩) 1 1) (.slice none 0 0) (.slice (some ⟨w.heap.size+2,0,none⟩) 1 1) (.slice none 0 0) (.slice none 0 0) (.slice none 0 0) (.slice none 0 0) (.slice none 0 0)):=hD fun wz hz=>hq5.below (wL _ _ hq5.1) hz;clear hd1 hb1 hW5 hd5 hk5 hb5 hq5
 go_upto_region 4 with (fail)
 rw[← HW5.out];clear b0 b1 b2 b3 b4 b5 b6 b7 f2 z0 z1 z2 z3 z4 g0 g1 g2 g3 g4;go_wp2_with (first|(go_at_call 6;(with_reducible refine(HM0.out _ HB5.out).mono ?_);rintro e w6 ⟨rfl,hb6⟩;have HB6:=hD hb6;obtain⟨b0,b1,b2,b3,b4,b5,b6,b7⟩:=HQ5.out w6 hb6;clear hb6)|(go_at_call 6;(with_reducible refine(HM1.out _ _ _ _ (Wa HB5.out HB6.out) (HD5.out _ HB6.out)).mono ?_);rintro e w7 ⟨rfl,hb7⟩;have HB7:=hD (Wa HB6.out hb7);obtain⟨b0,b1,b2,b3,b4,b5,b6,b7⟩:=HQ5.out w7 HB7.out;clear hb7)|(go_at_call 6;(with_reducible refine(HM3.out _ _ _ _ (Wa HB5.out HB7.out) (HD5.out _ HB7.out)).mono ?_);rintro e w8 ⟨rfl,hb8⟩;have HB8:=hD (Wa HB7.out hb8);clear hb8))
 go_ret;exact⟨rfl,Wa HB5.out HB8.out⟩
end
end Go.Proofs.YtepgopnnaeoolaaGreatDoor
