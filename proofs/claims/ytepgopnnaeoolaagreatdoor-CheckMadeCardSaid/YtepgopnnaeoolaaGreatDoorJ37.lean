/- A part of the proof. -/
import Derived.Test.YtepgopnnaeoolaaGreatDoorJ36
import Derived.Laws.IdiomCopy
namespace Go.Proofs.YtepgopnnaeoolaaGreatDoor
section
open Go.RowKit
set_option maxHeartbeats 1000000
set_option maxRecDepth 100000
theorem Tryz.infoFrame:(Tryz.prog.info? 135).map (fun i=>(i.zero,i.size,i.bytes))=some (some (.agg #[.int .i64 0,.slice none 0 0,.slice none 0 0,.int .i64 0,.bool false]),5,72):=by kernel_rfl
theorem begin_any {F:Wx} {w:World} {x:Ws} (hF:F.prg) (h:Wk F w x) (op:Int) (pv rv:Value) (ps rs:List Int) (hp:Wg (WB F w x) w pv ps) (hr:Wg (WB F w x) w rv rs) (hb:x.s.length+ps.length≤1000000) (hf:x.f.length+1≤1000000) :
 Calls Tryz.prog 67 #[.pointer (some ⟨F.G,0,none⟩),.int .i64 op,.agg #[pv,rv]] w (WPost F w x (.tuple #[]) (fun x'=>x'.f=x.f++[⟨op,pv,rv,ps,rs,x.s.length,false⟩]∧x'.s=x.s++ps)):=by
 obtain⟨Ap,cp,rfl,_⟩:=hp.form;obtain⟨Ar,cr,rfl,_⟩:=hr.form;have hg1:=h.alloc (.cells #[.slice Ap ps.length cp,.slice Ar rs.length cr] 66);obtain⟨W,hW⟩:∃ W,W=w.alloc (.cells #[.slice Ap ps.length cp,.slice Ar rs.length cr] 66):=⟨_,rfl⟩;have hB:∀ j:Nat,W.cell? ⟨w.heap.size,j,none⟩=#[.slice Ap ps.length cp,.slice Ar rs.length cr][j]?:=fun j=>by rw[hW,wN]
 rw[← hW]at hg1;have b0:=hB 0;have b1:=hB 1;simp only[List.getElem?_toArray,List.getElem?_cons_zero,List.getElem?_cons_succ]at b0 b1;have HPW:=hD (hg1.2.ints hp);have HRW:=hD (hg1.2.ints hr);have a0:=hg1.1.p0 hF;have a1:=hg1.1.p1 hF;obtain⟨A,c,hsv,s1,s2⟩:=hg1.1.sform;obtain⟨Af,cf,hfv⟩:=Wc hg1.1.fo;rw[hsv]at a0;rw[hfv]at a1;have HLG:=hD hg1.1.lts.1;have HNG:Hid (x.fv.ownBlock≠some F.G):=hD fun e=>hg1.1.fp _ e rfl;have HLB:Hid (w.heap.size<W.heap.size):=hD (wL W _ b0);have HNB:Hid (x.fv.ownBlock≠some w.heap.size):=hD fun e=>by have:=(h.fo.lt _ e).2;omega
 have HE:Hid (∀ w',Wf (fun k=>k<W.heap.size∧x.fv.ownBlock≠some k) W w'→w'.cell? ⟨F.G,0,none⟩=some (.slice A x.s.length c)∧w'.cell? ⟨F.G,1,none⟩=some (.slice Af x.f.length cf)∧w'.cell? ⟨w.heap.size,0,none⟩=some (.slice Ap ps.length cp)∧w'.cell? ⟨w.heap.size,1,none⟩=some (.slice Ar rs.length cr)) :=
  hD fun w' hk=>⟨(hk.cell (p:=⟨F.G,0,none⟩) ⟨HLG.out,HNG.out⟩).trans a0,(hk.cell (p:=⟨F.G,1,none⟩) ⟨HLG.out,HNG.out⟩).trans a1,(hk.cell (p:=⟨w.heap.size,0,none⟩) ⟨HLB.out,HNB.out⟩).trans b0,(hk.cell (p:=⟨w.heap.size,1,none⟩) ⟨HLB.out,HNB.out⟩).trans b1⟩
 have HZ:Hid (∀ w',Wf (fun k=>k<W.heap.size∧x.fv.ownBlock≠some k) W w'→w'.frozen? ⟨F.G,1,none⟩=false) :=
  hD fun w' hk=>(World.frozen?_of_block (w:=W) (a:=⟨F.G,1,none⟩) (hk.block F.G ⟨HLG.out,HNG.out⟩)).trans (hg1.1.frozen 1)
 have HG1:=hD hg1;have HW:=hD hW;have HF:=hD hF;have HFV:=hD hfv;have HNP:=hD (h.new_free (nR _));have HB0:=hD b0;have HLS:=hD hg1.1.lts;have HLB2:=hD HLB.out;clear hg1 hB b0 b1 a0 a1 hsv hfv hp hr h hF hW HLG HLB HNB;obtain⟨n,hn⟩:∃ n,x.s.length=n:=⟨_,rfl⟩;obtain⟨k,hk⟩:∃ k,x.f.length=k:=⟨_,rfl⟩;have HN:=hD hn;have HK:=hD hk;rw[hn]at HE hb s1 ⊢;rw[hk]at HE HFV hf;clear hn hk;go_enter Tryz.func67,Tryz.ntmps67;go_wp2_with fail
 rw[← HW.out];refine We.start (S:=fun wz=>Wf (fun k=>k<W.heap.size∧x.fv.ownBlock≠some k) W wz) (X:=17) (by kernel_rfl) ?_;show We _ _ _ _ _ _ 18 #[false,false,false,false,false,false,false,false,false,false,false,false,false,false,false,false,false,false] _ _;have hS:Wf (fun k=>k<W.heap.size∧x.fv.ownBlock≠some k) W W.drew:=.below ((bR _ _).drew) fun _ h=>h.1;have hSB:Below W.heap.size W W.drew:=(bR _ _).drew;generalize W.drew=w1 at hS hSB ⊢;refine We.tk 0 6 rfl hS ?_;refine We.tk 1 7 rfl hS ?_;refine We.tk 2 8 rfl hS ?_;refine We.tk 3 9 rfl hS ?_;refine We.tk 4 10 rfl hS ?_ (hy:=by intro w' hSw;obtain⟨a0,a1,b0,b1⟩:=HE.out w' hSw;go_simp;try with_reducible rfl);refine We.tk 5 11 rfl hS ?_;refine We.tk 6 12 rfl hS ?_ (hy:=by intro w' hSw;obtain⟨a0,a1,b0,b1⟩:=HE.out w' hSw;go_simp;try with_reducible rfl);refine We.tk 7 13 rfl hS ?_;refine We.tk 8 14 rfl hS ?_;refine We.tk 9 15 rfl hS ?_;refine We.tk 10 16 rfl hS ?_ (hy:=by intro w' hSw;obtain⟨a0,a1,b0,b1⟩:=HE.out w' hSw;go_simp;try with_reducible rfl);refine We.tk 11 17 rfl hS ?_;refine We.tk 12 18 rfl hS ?_;refine We.om 13 19 rfl fun K hK=>?_;go_simp;have hS2:Wf (fun k=>k<W.heap.size∧x.fv.ownBlock≠some k) W (w1.alloc (.cells #[.int .i64 op,.slice Ap ps.length cp,.slice Ar rs.length cr,.int .i64 (n:Int),.bool false] 135)):=hS.trans (.below ((bR _ _).alloc (nR _) _) fun k hk=>WW hk.1 hSB.size);have hSB2:Below W.heap.size W (w1.alloc (.cells #[.int .i64 op,.slice Ap ps.length cp,.slice Ar rs.length cr,.int .i64 (n:Int),.bool false] 135)):=hSB.alloc hSB.size _;have hnews:=WS w1 #[.int .i64 op,.slice Ap ps.length cp,.slice Ar rs.length cr,.int .i64 (n:Int),.bool false] 135 1 1;refine hK.out _ _ (.inr hS2) ?_;clear hK K hS;try simp only[sA,List.set]
 have how:=(HG1.out.1.below hSB2).1.fo;rw[HF.out.2.2,HFV.out,HK.out]at how;have hws:W.heap.size≤(w1.alloc (.cells #[.int .i64 op,.slice Ap ps.length cp,.slice Ar rs.length cr,.int .i64 (n:Int),.bool false] 135)).heap.size:=hSB2.size;generalize w1.alloc (.cells #[.int .i64 op,.slice Ap ps.length cp,.slice Ar rs.length cr,.int .i64 (n:Int),.bool false] 135)=w2 at hS2 hSB2 hnews how hws ⊢;have hone:∀ u ∈ ([.int .i64 op,.slice Ap ps.length cp,.slice Ar rs.length cr,.int .i64 (n:Int),.bool false]:List Value),u.oneCell'=true:=by
  exact ZbY
 refine We.om 14 20 rfl fun K hK=>?_;refine Wb rfl (.tmp 10) (.tmp 19) 116 135 rfl _ 5 72 Tryz.underlying116 Tryz.infoFrame rfl (by decide) (by decide) (.slice Af k cf) k (V2 x.f) (by rfl) how _ 1 [.int .i64 op,.slice Ap ps.length cp,.slice Ar rs.length cr,.int .i64 (n:Int),.bool false] (by rfl) (by rfl) hnews hone (by omega) ?_;intro v' w3 hown hgr hat;obtain⟨A3,c3,rfl⟩:=Wc hown;have hS3:Wf (fun k=>k<W.heap.size∧x.fv.ownBlock≠some k) W w3:=hS2.trans (.grown hgr (fun k hk=>WW hk.1 hws) (fun j e hk=>hk.2 (by rw[HFV.out];exact e)));refine hK.out _ _ (.inr hS3) ?_;clear hK K hS2;try simp only[Act.put,sA,List.set]
 refine We.om 15 21 rfl fun K hK=>?_;go_simp;refine hK.out _ _ (.inr hS3) ?_;clear hK K;try simp only[sA,List.set]
 refine We.tk 16 22 rfl hS3 ?_;refine We.on 17 rfl fun K hK=>?_;obtain⟨a0,a1,b0,b1⟩:=HE.out w3 hS3;have f1:=HZ.out w3 hS3;go_simp;refine hK.out _ _ (.inl rfl) ?_;clear hK K;refine We.done (by kernel_rfl) ?_ _;have hst:=HG1.out.1.setF hS3 (.slice A3 (k+1) c3) (x.f++[⟨op,.slice Ap ps.length cp,.slice Ar rs.length cr,ps,rs,n,false⟩]) (by
  rw[HF.out.2.2,List.length_append,flatF_snoc,HK.out];exact hown) (by
  rcases hat with h1|h1
  ·exact .inl (h1.trans (by rw[HFV.out]))
  ·exact .inr fun g e=>by have:=h1.symm.trans e;simp only[Option.some.injEq]at this;omega) (fun a ha=>by
  rcases List.mem_append.1 ha with h1|h1
  ·exact .inl h1
  ·obtain rfl:=List.mem_singleton.1 h1;exact .inr ⟨HPW.out,HRW.out⟩)
 rw[show F.pfv=1 by unfold Wx.pfv;rw[HF.out.1];rfl]at hst;have HST:=hD hst;have c0:=(hst.2.keeps.cell (p:=⟨w.heap.size,0,none⟩) ⟨HLB2.out,HNP.out⟩).trans HB0.out;clear a0 a1 b0 b1 f1 hst hS3;generalize w3.setCell ⟨F.G,1,none⟩ (.slice A3 (k+1) c3)=w4 at HST c0 ⊢;have HGV:=hD (give_any HF.out HST.out.1 _ ps (HST.out.2.ints HPW.out) (by show x.s.length+_≤_;rw[HN.out];exact hb));go_wp2_with (go_at_call 86;refine HGV.out.mono ?_;rintro e w5 ⟨rfl,x5,g5,s5,r5⟩;have HG5:=hD g5;have HS5:=hD s5;have HR5:=hD r5;clear g5 s5 r5)
 refine bodyPost_end (results_none rfl _ _ _) rfl ⟨rfl,x5,HG5.out,(HG1.out.2.trans HST.out.2).trans HS5.out,HR5.out.1,HR5.out.2⟩
end
section
open Go.RowKit
set_option maxHeartbeats 8000000
set_option maxRecDepth 100000
theorem Z8 {P:Prop}(h:P:=by
 go_wp2;have hzz:=WG HZE.out;refine bodyPost_ret (v:=.tuple #[.agg #[.int .i64 0,.slice none 0 0,.slice none 0 0,.int .i64 0,.bool false],.bool false]) (by simp[results,Tryz.results112,go_sem,hzz]) rfl ⟨x4,HFN.out.1,HFN.out.2,by rw[HME.out];rfl,fun hx=>by rw[HME.out]at hx;cases hx⟩):P:=h
theorem wpAnyH_turn {P:Program} {ops:Array Oper} {Q:Exit→Act→World→Prop} {md:Region.Mode} {S S':World→Prop} (himp:∀ w,S' w→S w) :
 ∀ {fuel:Nat} {listed:Array Bool} {a:Act} {w:World},wpAnyH P md ops Q S' fuel listed a w→wpAnyH P md ops Q S fuel listed a w
 | 0,_,_,_,h=>h
 | _+1,_,_,_,h=>⟨h.1,fun i hi=>wpOp_mono (fun _ _ h'=>⟨himp _ h'.1,wpAnyH_turn himp h'.2⟩) (h.2 i hi)⟩
theorem flatF_take (l:List Fv) (n:Nat):V2 (l.take n)=(V2 l).take (n * 5):=by
 induction l generalizing n with
 | nil=>simp[V2]
 | cons a l ih =>
  cases n with
  | zero=>simp[V2]
  | succ n =>
   show a.cells++V2 (l.take n)=(a.cells++V2 l).take _;have hl:a.cells.length=5:=rfl;rw[ih,List.take_append,List.take_of_length_le (l:=a.cells) (by omega),show(n+1) * 5 - a.cells.length=n * 5 by omega]
theorem VO (w:World) (o:Obj):(w.alloc o).heap[w.heap.size]?=some o:=by
 unfold World.alloc;exact Array.getElem?_push_size
theorem Wq (w:World) (o:Obj):(w.alloc o).heap.size=w.heap.size+1:=by simp
theorem Wk.outside {F:Wx} {w0 w w':World} {x0 x:Ws} (h:Wk F w x) (h0:Wk F w0 x0) (hst:WE F w0 x0 w x) (hfr:∀ a ∈ x.f,a ∈ x0.f) {R:Nat} (hk:Wf (fun b=>b≠R) w w') (hR:w0.heap.size≤R) (hp:¬ wpriv F x R):Wk F w' x∧WE F w0 x0 w' x:=by
 have hK:Wf (WB F w0 x0) w0 w':=hst.keeps.trans (hk.mono fun k hk e=>by have:=hk.1;omega);have hM:∀ k,WB F w0 x0 k→WB F w' x k:=fun k hk'=>⟨WW (hst.mono k hk').1 hk.size,(hst.mono k hk').2⟩;refine⟨⟨(hk.block F.G fun e=>hp (.inl e.symm)).trans h.hg,Wt h.so hk fun g hg e=>hp (.inr (.inl (e ▸ hg))),h.sp,Wt h.fo hk fun g hg e=>hp (.inr (.inr (e ▸ hg))),h.fp,?_⟩,hK,hM⟩;have hr:=h0.reads.keep hK hM;exact⟨hr.mod,hr.loc,hr.own,fun a ha=>hr.fr a (hfr a ha)⟩
theorem keeps5 (w:World) (R:Nat) (a b c d e:Value):Wf (fun k=>k≠R) w (((((w.setCell ⟨R,0,none⟩ a).setCell ⟨R,1,none⟩ b).setCell ⟨R,2,none⟩ c).setCell ⟨R,3,none⟩ d).setCell ⟨R,4,none⟩ e) :=
 ((((Wf.setCell w (fun h=>h rfl) a).trans (.setCell _ (fun h=>h rfl) b)).trans (.setCell _ (fun h=>h rfl) c)).trans (.setCell _ (fun h=>h rfl) d)).trans (.setCell _ (fun h=>h rfl) e)
theorem fill5_at {w:World} {P:Nat} {z0 z1 z2 z3 z4:Value} {T:TypeId} (h:w.heap[P]?=some (.cells #[z0,z1,z2,z3,z4] T (0,0))) (a b c d e:Value):(((((w.setCell ⟨P,0,none⟩ a).setCell ⟨P,1,none⟩ b).setCell ⟨P,2,none⟩ c).setCell ⟨P,3,none⟩ d).setCell ⟨P,4,none⟩ e).heap[P]?=some (.cells #[a,b,c,d,e] T (0,0)):=by
 have h0:=Wh w P 0 _ T a h;have h1:=Wh _ P 1 _ T b h0;have h2:=Wh _ P 2 _ T c h1;have h3:=Wh _ P 3 _ T d h2;exact Wh _ P 4 _ T e h3
theorem Vv {w:World} {B:Nat} {cs:Array Value} {T:TypeId} (h:w.heap[B]?=some (.cells cs T (0,0))) (j:Nat):w.frozen? ⟨B,j,none⟩=false:=by simp[World.frozen?,h]
theorem WG {w:World} {B:Nat} {cs:Array Value} {T:TypeId} (h:w.heap[B]?=some (.cells cs T (0,0))) (j:Nat):w.cell? ⟨B,j,none⟩=cs[j]?:=by simp[World.cell?,h]
def Ws.mayEnd (x:Ws):Bool:=Vn x.top.h x.top.dead x.s x.top.rs && decide ((x.s.take (max (x.s.length - x.top.rs.length) x.top.h)).length≤x.top.h)
def FinPost (F:Wx) (w:World) (x:Ws) (e:Ending) (w':World):Prop :=
 ∃ x',Wk F w' x'∧WE F w x w' x'∧e=.returned (if x.mayEnd then .tuple #[.agg x.top.cells.toArray,.bool true] else .tuple #[.agg #[.int .i64 0,.slice none 0 0,.slice none 0 0,.int .i64 0,.bool false],.bool false]) ∧
  (x.mayEnd=true→x'.f=x.f.take (x.f.length - 1)∧x'.s=x.s.take (max (x.s.length - x.top.rs.length) x.top.h))
theorem finish_any {F:Wx} {w:World} {x:Ws} (hF:F.prg) (h:Wk F w x) (h0:0<x.f.length) (hs:x.s.length≤1000000) (hrl:x.top.rs.length≤1000000) (hh:x.top.h≤x.s.length) :
 Calls Tryz.prog 112 #[.pointer (some ⟨F.G,0,none⟩)] w (FinPost F w x):=by
 have hg1:=h.alloc (.cells #[.int .i64 0,.slice none 0 0,.slice none 0 0,.int .i64 0,.bool false] 135);obtain⟨W,hW⟩:∃ W,W=w.alloc (.cells #[.int .i64 0,.slice none 0 0,.slice none 0 0,.int .i64 0,.bool false] 135):=⟨_,rfl⟩;rw[← hW]at hg1;obtain⟨g,A,c,cf,hc,hsv,hfv⟩:=hg1.1.cel hF h0;obtain⟨g',cf',he,_,_,_,_,t0,t1,t2,t3,t4⟩:=hg1.1.tcell h0;rw[hfv]at he;simp only[vI,Option.some.injEq,Addr.mk.injEq]at he;obtain⟨⟨rfl,-⟩,-,rfl⟩:=he;have hmem:x.top ∈ x.f:=by
  exact Z9
 have hrv:=(hg1.1.reads.fr _ hmem).2;have hpv:=(hg1.1.reads.fr _ hmem).1;obtain⟨Ar,cr,er,_⟩:=hrv.form;obtain⟨Ap,cp,ep,_⟩:=hpv.form;rw[er]at t2;rw[ep]at t1;have HC:=hD hc;have HSV:=hD hsv;have HFV:=hD hfv;have HG1:=hD hg1;have HG0:=hD h;have HW:=hD hW;have HF:=hD hF;have HRV:=hD hrv;have HER:=hD er;have HEP:=hD ep;have HNP:=hD (h.new_free (nR _));have HWS:Hid (W.heap.size=w.heap.size+1):=hD (by rw[hW];exact Wq _ _);have HZB:Hid (W.heap[w.heap.size]?=some (.cells #[.int .i64 0,.slice none 0 0,.slice none 0 0,.int .i64 0,.bool false] 135 (0,0))):=hD (by rw[hW];exact VO _ _);have HH:=hD (⟨h0,hh,hs⟩:0<x.f.length∧x.top.h≤x.s.length∧x.s.length≤1000000);clear hc hsv hfv hg1 hW hrv hpv er ep h hF hmem h0 hh hs;go_enter Tryz.func112,Tryz.ntmps112
 go_upto_region 2 with (first|(go_at_call 87;rw[← HW.out];refine(top_at _ F.G g x.f.length cf HC.out.p1 HC.out.k0 HC.out.k1 HC.out.k2).mono ?_;rintro e w2 ⟨rfl,m2,hw2⟩;have HB2:=hD (show Below W.heap.size W w2 from hw2 ▸ Wj (bR _ _) m2);clear hw2;have u0:=(HB2.out.cell (wL W _ t0)).trans t0;have u1:=(HB2.out.cell (wL W _ t1)).trans t1;have u2:=(HB2.out.cell (wL W _ t2)).trans t2;have u3:=(HB2.out.cell (wL W _ t3)).trans t3;have u4:=(HB2.out.cell (wL W _ t4)).trans t4;clear t0 t1 t2 t3 t4))
 obtain⟨W3,hW3⟩:∃ W3,W3=w2.alloc (.cells #[.int .i64 x.top.op,.slice Ap x.top.ps.length cp,.slice Ar x.top.rs.length cr,.int .i64 (x.top.h:Int),.bool x.top.dead] 135):=⟨_,rfl⟩;rw[← hW3];have hb3:Below W.heap.size W W3:=hW3 ▸ HB2.out.alloc HB2.out.size _;have hws3:W3.heap.size=w2.heap.size+1:=by rw[hW3,Wq]
 have hg3:=HG1.out.1.below hb3;have hf3:∀ j:Nat,W3.cell? ⟨w2.heap.size,j,none⟩=(#[.int .i64 x.top.op,.slice Ap x.top.ps.length cp,.slice Ar x.top.rs.length cr,.int .i64 (x.top.h:Int),.bool x.top.dead]:Array Value)[j]?:=fun j=>by rw[hW3,wN]
 have hnf:=HG1.out.1.new_free HB2.out.size;have h2s:=HB2.out.size;have HFF:Hid (∀ wz xz,WE F W3 x wz xz→(∀ j:Nat,wz.cell? ⟨w2.heap.size,j,none⟩=(#[.int .i64 x.top.op,.slice Ap x.top.ps.length cp,.slice Ar x.top.rs.length cr,.int .i64 (x.top.h:Int),.bool x.top.dead]:Array Value)[j]?)∧wz.heap[w.heap.size]?=some (.cells #[.int .i64 0,.slice none 0 0,.slice none 0 0,.int .i64 0,.bool false] 135 (0,0))∧¬ wpriv F xz w.heap.size):=hD fun wz xz hst=>by
  have hfw:w.heap.size<W.heap.size:=by rw[HWS.out];omega
  have hk1:=hst.keeps.block w2.heap.size ⟨by omega,hnf⟩;have hfr:WB F W3 x w.heap.size:=⟨by have:=hb3.size;omega,HNP.out⟩;exact⟨fun j=>(World.cell?_of_block (w:=W3) (a:=⟨w2.heap.size,j,none⟩) hk1).trans (hf3 j),((hst.keeps.block w.heap.size hfr).trans (hb3.block w.heap.size hfw)).trans HZB.out,(hst.mono _ hfr).2⟩
 have b2:=hf3 2;simp only[List.getElem?_toArray,List.getElem?_cons_zero,List.getElem?_cons_succ]at b2;have HTK:=hD (Un HF.out (hg3.1.below ((bR _ _).drew)).1 HH.out.1 HH.out.2.2 _ x.top.rs ((hg3.1.below ((bR _ _).drew)).2.ints (hg3.2.ints HRV.out)) hrl HH.out.2.1);rw[HER.out]at HTK;have HG3:=hD hg3;generalize w2.heap.size=f at *;have HTP:Hid (FinPost F w x=fun e w'=>∃ x',Wk F w' x'∧WE F w x w' x'∧e=.returned (if x.mayEnd then .tuple #[.agg #[.int .i64 x.top.op,.slice Ap x.top.ps.length cp,.slice Ar x.top.rs.length cr,.int .i64 (x.top.h:Int),.bool x.top.dead],.bool true] else .tuple #[.agg #[.int .i64 0,.slice none 0 0,.slice none 0 0,.int .i64 0,.bool false],.bool false]) ∧
  (x.mayEnd=true→x'.f=x.f.take (x.f.length - 1)∧x'.s=x.s.take (max (x.s.length - x.top.rs.length) x.top.h))):=hD (by unfold FinPost Fv.cells;rw[HER.out,HEP.out])
 rw[HTP.out];clear hg3 hf3 hnf h2s hb3 hW3 u0 u1 u2 u3 u4 HTP HC;cases hR:Vn x.top.h x.top.dead x.s x.top.rs with
 | false =>
  have hme:x.mayEnd=false:=by unfold Ws.mayEnd;rw[hR];rfl
  rw[hR]at HTK;have HME:=hD hme;clear hR hme;refine wp_region_held_drew (S:=fun _=>True) (by kernel_rfl) trivial (fun hS=>?_);show wpAnyH _ _ _ _ _ 16 #[false,false,false,false,false,false,false,false,false,false,false,false,false,false,false,false] _ _;refine mT 0 9 rfl hS ?_;refine mT 1 10 rfl hS ?_;refine mT 2 11 rfl hS ?_;refine mR 3 12 rfl fun K hK=>?_;go_simp;refine hK.out _ _ trivial (fun _=>?_);clear hK K;try simp only[sA,List.set]
  refine mR 4 13 rfl fun K hK=>?_;go_simp;go_at_call 102;refine HTK.out.mono ?_;rintro e w4 ⟨rfl,x4,g4,s4,hxf,hxs⟩;go_wp2_with fail
  refine hK.out _ _ trivial (fun _=>?_);clear hK K;try simp only[sA,List.set]
  refine wpAnyH_turn (S':=fun wz=>Below w4.heap.size w4 wz) (fun _ _=>trivial) ?_;replace hS:Below w4.heap.size w4 w4:=bR _ _;refine mT 5 14 rfl hS ?_;refine mT 6 15 rfl hS ?_;refine mN 7 16 rfl hS ?_;refine mN 8 17 rfl hS ?_;refine mN 9 18 rfl hS ?_;refine mN 10 19 rfl hS ?_;refine mN 11 20 rfl hS ?_;refine mN 12 21 rfl hS ?_;refine mN 13 22 rfl hS ?_;refine mN 14 23 rfl hS ?_;refine mT 15 24 rfl hS ?_;refine wpAnyH_done (by kernel_rfl) ?_ _;have hst4:=(HG3.out.1.below ((bR W3.heap.size W3).drew)).2.trans s4;obtain⟨_,hz,hnp⟩:=HFF.out w4 x4 hst4;have hfin:=g4.outside HG0.out ((HG1.out.2.trans HG3.out.2).trans hst4) (fun a ha=>hxf ▸ ha) (keeps5 w4 w.heap.size (.int .i64 0) (.slice none 0 0) (.slice none 0 0) (.int .i64 0) (.bool false)) (nR _) hnp;have HFN:=hD hfin;have HZE:=hD (fill5_at hz (.int .i64 0) (.slice none 0 0) (.slice none 0 0) (.int .i64 0) (.bool false));have z0:=WG hz 0;have f0:=Vv hz 0;have z1:=WG hz 1;have f1:=Vv hz 1;have z2:=WG hz 2;have f2:=Vv hz 2;have z3:=WG hz 3;have f3:=Vv hz 3;have z4:=WG hz 4;have f4:=Vv hz 4;simp only[List.getElem?_toArray,List.getElem?_cons_zero,List.getElem?_cons_succ]at z0 z1 z2 z3 z4;clear hz hnp hfin hst4 g4 s4 hxf hxs;exact Z8
 | true =>
  rw[hR]at HTK;by_cases hle:(x.s.take (max (x.s.length - x.top.rs.length) x.top.h)).length≤x.top.h
  ·have hme:x.mayEnd=true:=by unfold Ws.mayEnd;rw[hR,decide_eq_true hle];rfl
   have HME:=hD hme;clear hR hme;refine wp_region_held_drew (S:=fun _=>True) (by kernel_rfl) trivial (fun hS=>?_);show wpAnyH _ _ _ _ _ 16 #[false,false,false,false,false,false,false,false,false,false,false,false,false,false,false,false] _ _;refine mT 0 9 rfl hS ?_;refine mT 1 10 rfl hS ?_;refine mT 2 11 rfl hS ?_;refine mR 3 12 rfl fun K hK=>?_;go_simp;refine hK.out _ _ trivial (fun _=>?_);clear hK K;try simp only[sA,List.set]
   refine mR 4 13 rfl fun K hK=>?_;go_simp;go_at_call 102;refine HTK.out.mono ?_;rintro e w4 ⟨rfl,x4,g4,s4,hxf,hxs⟩;go_wp2_with fail
   refine hK.out _ _ trivial (fun _=>?_);clear hK K;try simp only[sA,List.set]
   refine wpAnyH_turn (S':=fun wz=>Below w4.heap.size w4 wz) (fun _ _=>trivial) ?_;replace hS:Below w4.heap.size w4 w4:=bR _ _;have hst4:=(HG3.out.1.below ((bR W3.heap.size W3).drew)).2.trans s4;obtain⟨hff,hz,hnp⟩:=HFF.out w4 x4 hst4;have b3:=hff 3;simp only[List.getElem?_toArray,List.getElem?_cons_zero,List.getElem?_cons_succ]at b3;have hs4:=hxs trivial;obtain⟨gg,A4,c4,cf4,hc4,hsv4,hfv4⟩:=g4.cel HF.out (by rw[hxf];exact HH.out.1);have HC4:=hD hc4;have HSV4:=hD hsv4;have HFV4:=hD hfv4;have HB3:=hD (fun wz (hb:Below w4.heap.size w4 wz)=>(hb.cell (wL w4 _ b3)).trans b3);have hdl:decide (x.top.h<x4.s.length)=false:=by rw[hs4];exact decide_eq_false (by omega)
   have HXS:=hD hs4;have HXF:=hD hxf;clear hff hc4 hsv4 hfv4 b3 hs4 hxf hxs;refine mT 5 14 rfl hS ?_;refine mT 6 15 rfl hS ?_;refine mT 7 16 rfl hS ?_;refine mT 8 17 rfl hS ?_;refine mT 9 18 rfl hS ?_;refine mT 10 19 rfl hS ?_ (hy:=by intro wS hSw;have p0:=(HC4.out.below hSw).p0;go_simp;try with_reducible rfl);refine mT 11 20 rfl hS ?_;refine mT 12 21 rfl hS ?_;refine mT 13 22 rfl hS ?_ (hy:=by intro wS hSw;have b3:=HB3.out _ hSw;go_simp;try with_reducible rfl);refine mT 14 23 rfl hS ?_;refine mT 15 24 rfl hS ?_;refine wpAnyH_done (by kernel_rfl) ?_ _;have HK:=hD (show x4.f.length=x.f.length by rw[HXF.out]);have hk1:0<x.f.length:=HH.out.1;have HG4:=hD g4;have HST4:=hD hst4;clear hz hnp hst4 g4 s4;have hkc:x.f.length≤cf4∧cf4≤maxLen:=⟨by rw[← HK.out];exact HC4.out.k1,HC4.out.k2⟩;unfold maxLen at hkc;have e1:IntKind.i64.wrap ((x4.f.length:Int) - 1)=((x.f.length - 1:Nat):Int):=by rw[HK.out,show((x.f.length:Int) - 1)=((x.f.length - 1:Nat):Int) by omega];exact IntWalk.i64_in _ (by omega)
   have hkd:x.f.length - 1≤cf4:=by omega
   go_upto_region 4 with (fail)
   refine We.start (S:=fun wz=>Below w4.heap.size w4 wz) (X:=14) (by kernel_rfl) ?_;show We _ _ _ _ _ _ 15 #[false,false,false,false,false,false,false,false,false,false,false,false,false,false,false] _ _;replace hS:Below w4.heap.size w4 w4.drew:=(bR _ _).drew;generalize w4.drew=w5 at hS ⊢;refine We.tk 0 26 rfl hS ?_;refine We.tk 1 27 rfl hS ?_;refine We.tk 2 28 rfl hS ?_;refine We.tk 3 29 rfl hS ?_;refine We.tk 4 30 rfl hS ?_ (hy:=by intro w' hSw;have p1:=(HC4.out.below hSw).p1;go_simp;try with_reducible rfl);refine We.tk 5 31 rfl hS ?_;refine We.tk 6 32 rfl hS ?_;refine We.tk 7 33 rfl hS ?_;refine We.tk 8 34 rfl hS ?_ (hy:=by intro w' hSw;have p1:=(HC4.out.below hSw).p1;go_simp;try with_reducible rfl);refine We.tk 9 35 rfl hS ?_;refine We.tk 10 36 rfl hS ?_;refine We.tk 11 37 rfl hS ?_;refine We.om 12 38 rfl fun K hK=>?_;go_simp;refine hK.out _ _ (.inr hS) ?_;clear hK K;try simp only[sA,List.set]
   refine We.tk 13 39 rfl hS ?_;refine We.on 14 rfl fun K hK=>?_;have hg5:=HG4.out.below hS;have p1:=hg5.1.p1 HF.out;have fx:=hg5.1.frozen 1;rw[HFV4.out]at p1;go_simp;refine hK.out _ _ (.inl rfl) ?_;clear hK K;refine We.done (by kernel_rfl) ?_ _;have how:w5.ownsRow 0 F.ft 5 (.slice (some ⟨gg,0,none⟩) (x.f.length - 1) cf4) (x4.f.take (x.f.length - 1)).length (V2 (x4.f.take (x.f.length - 1))):=by
    have ho:=hg5.1.fo;rw[HFV4.out]at ho;have h2:=owns_cut ho (m:=x.f.length - 1) (by rw[HK.out];omega);rw[List.length_take,HK.out,Nat.min_eq_left (by omega),flatF_take];exact h2
   have hst:=hg5.1.setF (W:=w5) (w:=w5) (.refl _ _) (.slice (some ⟨gg,0,none⟩) (x.f.length - 1) cf4) (x4.f.take (x.f.length - 1)) how (.inl (by rw[HFV4.out];rfl)) (fun a ha=>.inl (List.mem_of_mem_take ha));rw[show F.pfv=1 by unfold Wx.pfv;rw[HF.out.1];rfl]at hst;have hst6:=HST4.out.trans (hg5.2.trans hst.2);obtain⟨hff,hz,hnp⟩:=HFF.out _ _ hst6;have c0:=hff 0;have c1:=hff 1;have c2:=hff 2;have c3:=hff 3;have c4:=hff 4;simp only[List.getElem?_toArray,List.getElem?_cons_zero,List.getElem?_cons_succ]at c0 c1 c2 c3 c4;have hfin:=hst.1.outside HG0.out ((HG1.out.2.trans HG3.out.2).trans hst6) (fun a ha=>HXF.out ▸ List.mem_of_mem_take ha) (keeps5 _ w.heap.size (.int .i64 x.top.op) (.slice Ap x.top.ps.length cp) (.slice Ar x.top.rs.length cr) (.int .i64 (x.top.h:Int)) (.bool x.top.dead)) (nR _) hnp;have HFN:=hD hfin;have HZE:=hD (fill5_at hz (.int .i64 x.top.op) (.slice Ap x.top.ps.length cp) (.slice Ar x.top.rs.length cr) (.int .i64 (x.top.h:Int)) (.bool x.top.dead));have z0:=WG hz 0;have f0:=Vv hz 0;have z1:=WG hz 1;have f1:=Vv hz 1;have z2:=WG hz 2;have f2:=Vv hz 2;have z3:=WG hz 3;have f3:=Vv hz 3;have z4:=WG hz 4;have f4:=Vv hz 4;simp only[List.getElem?_toArray,List.getElem?_cons_zero,List.getElem?_cons_succ]at z0 z1 z2 z3 z4;clear hz hnp hfin hst6 hst hg5 p1 fx how hff hS;generalize w5.setCell ⟨F.G,1,none⟩ (.slice (some ⟨gg,0,none⟩) (x.f.length - 1) cf4)=w6 at *;go_wp2;have hzz:=WG HZE.out;refine bodyPost_ret (v:=.tuple #[.agg #[.int .i64 x.top.op,.slice Ap x.top.ps.length cp,.slice Ar x.top.rs.length cr,.int .i64 (x.top.h:Int),.bool x.top.dead],.bool true]) (by simp[results,Tryz.results112,go_sem,hzz]) rfl ?_;refine⟨_,HFN.out.1,HFN.out.2,?_,?_⟩
   ·rw[HME.out,if_pos rfl];unfold Fv.cells;rw[HER.out,HEP.out]
   ·exact fun _=>⟨by show x4.f.take _=_;rw[HXF.out],HXS.out⟩
  ·have hme:x.mayEnd=false:=by unfold Ws.mayEnd;rw[hR,decide_eq_false hle];rfl
   have HME:=hD hme;clear hR hme;refine wp_region_held_drew (S:=fun _=>True) (by kernel_rfl) trivial (fun hS=>?_);show wpAnyH _ _ _ _ _ 16 #[false,false,false,false,false,false,false,false,false,false,false,false,false,false,false,false] _ _;refine mT 0 9 rfl hS ?_;refine mT 1 10 rfl hS ?_;refine mT 2 11 rfl hS ?_;refine mR 3 12 rfl fun K hK=>?_;go_simp;refine hK.out _ _ trivial (fun _=>?_);clear hK K;try simp only[sA,List.set]
   refine mR 4 13 rfl fun K hK=>?_;go_simp;go_at_call 102;refine HTK.out.mono ?_;rintro e w4 ⟨rfl,x4,g4,s4,hxf,hxs⟩;go_wp2_with fail
   refine hK.out _ _ trivial (fun _=>?_);clear hK K;try simp only[sA,List.set]
   refine wpAnyH_turn (S':=fun wz=>Below w4.heap.size w4 wz) (fun _ _=>trivial) ?_;replace hS:Below w4.heap.size w4 w4:=bR _ _;have hst4:=(HG3.out.1.below ((bR W3.heap.size W3).drew)).2.trans s4;obtain⟨hff,hz,hnp⟩:=HFF.out w4 x4 hst4;have b3:=hff 3;simp only[List.getElem?_toArray,List.getElem?_cons_zero,List.getElem?_cons_succ]at b3;have hs4:=hxs trivial;obtain⟨gg,A4,c4,cf4,hc4,hsv4,hfv4⟩:=g4.cel HF.out (by rw[hxf];exact HH.out.1);have HC4:=hD hc4;have HSV4:=hD hsv4;have HFV4:=hD hfv4;have HB3:=hD (fun wz (hb:Below w4.heap.size w4 wz)=>(hb.cell (wL w4 _ b3)).trans b3);have hdl:decide (x.top.h<x4.s.length)=true:=by rw[hs4];exact decide_eq_true (by omega)
   have HXS:=hD hs4;have HXF:=hD hxf;clear hff hc4 hsv4 hfv4 b3 hs4 hxf hxs;refine mT 5 14 rfl hS ?_;refine mT 6 15 rfl hS ?_;refine mT 7 16 rfl hS ?_;refine mT 8 17 rfl hS ?_;refine mT 9 18 rfl hS ?_;refine mT 10 19 rfl hS ?_ (hy:=by intro wS hSw;have p0:=(HC4.out.below hSw).p0;go_simp;try with_reducible rfl);refine mT 11 20 rfl hS ?_;refine mT 12 21 rfl hS ?_;refine mT 13 22 rfl hS ?_ (hy:=by intro wS hSw;have b3:=HB3.out _ hSw;go_simp;try with_reducible rfl);refine mT 14 23 rfl hS ?_;refine mT 15 24 rfl hS ?_;refine wpAnyH_done (by kernel_rfl) ?_ _;have hfin:=g4.outside HG0.out ((HG1.out.2.trans HG3.out.2).trans hst4) (fun a ha=>HXF.out ▸ ha) (keeps5 w4 w.heap.size (.int .i64 0) (.slice none 0 0) (.slice none 0 0) (.int .i64 0) (.bool false)) (nR _) hnp;have HFN:=hD hfin;have HZE:=hD (fill5_at hz (.int .i64 0) (.slice none 0 0) (.slice none 0 0) (.int .i64 0) (.bool false));have z0:=WG hz 0;have f0:=Vv hz 0;have z1:=WG hz 1;have f1:=Vv hz 1;have z2:=WG hz 2;have f2:=Vv hz 2;have z3:=WG hz 3;have f3:=Vv hz 3;have z4:=WG hz 4;have f4:=Vv hz 4;simp only[List.getElem?_toArray,List.getElem?_cons_zero,List.getElem?_cons_succ]at z0 z1 z2 z3 z4;clear hz hnp hfin hst4 g4 s4;exact Z8
end
section
open Go.RowKit
set_option maxHeartbeats 1000000
set_option maxRecDepth 100000
theorem quad_built (a b c d:Int) (w:World):(Instr.build 169 #[(0,.int .i64 a),(1,.int .i64 b),(2,.int .i64 c),(3,.int .i64 d)]).run Tryz.prog w=.ok (.agg #[.int .i64 a,.int .i64 b,.int .i64 c,.int .i64 d]) w:=run_build w _ _ _ (by kernel_rfl)
def rowsB:Array Value:=(shapeL.flatMap fun p=>[Value.int .i64 p.1,Value.int .i64 (p.2.1:Int),Value.int .i64 p.2.2.1,Value.int .i64 p.2.2.2]).toArray
theorem rows_at:∀ k:Fin 23,rowsB[k.val * 4]?=some (.int .i64 (shapeL.getD k.val (0,0,0,0)).1)∧rowsB[k.val * 4+1]?=some (.int .i64 ((shapeL.getD k.val (0,0,0,0)).2.1:Int))∧rowsB[k.val * 4+2]?=some (.int .i64 (shapeL.getD k.val (0,0,0,0)).2.2.1)∧rowsB[k.val * 4+3]?=some (.int .i64 (shapeL.getD k.val (0,0,0,0)).2.2.2)
 | ⟨0,_⟩=>⟨rfl,rfl,rfl,rfl⟩
 | ⟨1,_⟩=>⟨rfl,rfl,rfl,rfl⟩
 | ⟨2,_⟩=>⟨rfl,rfl,rfl,rfl⟩
 | ⟨3,_⟩=>⟨rfl,rfl,rfl,rfl⟩
 | ⟨4,_⟩=>⟨rfl,rfl,rfl,rfl⟩
 | ⟨5,_⟩=>⟨rfl,rfl,rfl,rfl⟩
 | ⟨6,_⟩=>⟨rfl,rfl,rfl,rfl⟩
 | ⟨7,_⟩=>⟨rfl,rfl,rfl,rfl⟩
 | ⟨8,_⟩=>⟨rfl,rfl,rfl,rfl⟩
 | ⟨9,_⟩=>⟨rfl,rfl,rfl,rfl⟩
 | ⟨10,_⟩=>⟨rfl,rfl,rfl,rfl⟩
 | ⟨11,_⟩=>⟨rfl,rfl,rfl,rfl⟩
 | ⟨12,_⟩=>⟨rfl,rfl,rfl,rfl⟩
 | ⟨13,_⟩=>⟨rfl,rfl,rfl,rfl⟩
 | ⟨14,_⟩=>⟨rfl,rfl,rfl,rfl⟩
 | ⟨15,_⟩=>⟨rfl,rfl,rfl,rfl⟩
 | ⟨16,_⟩=>⟨rfl,rfl,rfl,rfl⟩
 | ⟨17,_⟩=>⟨rfl,rfl,rfl,rfl⟩
 | ⟨18,_⟩=>⟨rfl,rfl,rfl,rfl⟩
 | ⟨19,_⟩=>⟨rfl,rfl,rfl,rfl⟩
 | ⟨20,_⟩=>⟨rfl,rfl,rfl,rfl⟩
 | ⟨21,_⟩=>⟨rfl,rfl,rfl,rfl⟩
 | ⟨22,_⟩=>⟨rfl,rfl,rfl,rfl⟩
 | ⟨_+23,h⟩=>absurd h (by omega)
theorem Tryz.info_row:(Tryz.prog.info? 169).map (fun i=>(i.zero,i.size))=some (some (.agg #[.int .i64 0,.int .i64 0,.int .i64 0,.int .i64 0]),4):=by kernel_rfl
theorem oshape_any (op:Int) (w:World) :
 Calls Tryz.prog 123 #[.int .i64 op] w fun e w'=>e=.returned (.tuple #[.int .i64 ((Uu op 23).1:Int),.int .i64 (Uu op 23).2.1,.int .i64 (Uu op 23).2.2])∧Below w.heap.size w w':=by
 have hq:=quad_built;go_enter Tryz.func123,Tryz.ntmps123;go_wp2_with (with_reducible refine wpList_buildSliceN rfl 170 169 23 _ rfl rowsB (.agg #[.int .i64 0,.int .i64 0,.int .i64 0,.int .i64 0]) 4 (by kernel_rfl) Tryz.info_row (by decide) (by decide) (by as_aux_lemma=>kernel_rfl) ?_)
 clear hq;go_loopw [2,3,4,32] (fun a b c i wr=>∃ k:Nat,k≤23∧i=.int .i64 (k:Int)∧a=.int .i64 ((Uu op k).1:Int)∧b=.int .i64 (Uu op k).2.1∧c=.int .i64 (Uu op k).2.2∧Below (w.heap.size+1) (w.alloc (.cells rowsB 169)) wr) (fun _ _ _ i _=>23 - (intOf i).toNat)
 case atStart=>exact⟨0,nZ _,rfl,rfl,rfl,rfl,bR _ _⟩
 case round =>
  obtain⟨k,hk,rfl,rfl,rfl,rfl,hb⟩:=hrel;by_cases hlt:k<23
  ·have hc:∀ j v,rowsB[j]?=some v→wr.cell? ⟨w.heap.size,j,none⟩=some v:=fun j v h=>(hb.cell (p:=⟨w.heap.size,j,none⟩) (by simp)).trans (by rw[wN];exact h);obtain⟨c0,c1,c2,c3⟩:=rows_at ⟨k,hlt⟩;replace c0:=hc _ _ c0;replace c1:=hc _ _ c1;replace c2:=hc _ _ c2;replace c3:=hc _ _ c3;have hsz:w.heap.size+1≤wr.heap.size:=by have:=hb.size;simpa using this
   clear hc;have hy:=shape_yes op k;have hn:=shape_no op k;obtain⟨f,n,a,b,hp⟩:∃ f n a b,shapeL.getD k (0,0,0,0)=(f,n,a,b):=⟨_,_,_,_,rfl⟩;rw[hp]at hy hn;simp only[hp]at c0 c1 c2 c3;clear hp;by_cases hle:f≤op
   ·have HY:=hD (hy hle);clear hy hn;go_wp2_with fail
    go_quiet (fail)
    go_wp2;go_roundw
    case rel=>exact⟨k+1,by omega,by go_num,by rw[HY.out],by rw[HY.out],by rw[HY.out],Wj (hb.alloc hsz _) _⟩
    case measure=>simp[intOf];omega
   ·have HN:=hD (hn hle);clear hy hn;go_wp2;go_roundw
    case rel=>exact⟨k+1,by omega,by go_num,by rw[HN.out],by rw[HN.out],by rw[HN.out],hb.alloc hsz _⟩
    case measure=>simp[intOf];omega
  ·obtain rfl:k=23:=by omega
   go_wp2
   go_ret3
   exact⟨rfl,((bR w.heap.size w).alloc (nR _) _).trans (hb.mono (Nat.le_succ _))⟩
end
section
open Go.RowKit
theorem mul64_few (n:Int) (h:n=1∨n=2) (w:World) :
 Calls Tryz.prog 128 #[.int .u64 1,.int .u64 n] w fun e w'=>e=.returned (.tuple #[.int .u64 0,.int .u64 n])∧w=w':=by
 rcases h with rfl|rfl
 all_goals
  go_enter Tryz.func128,Tryz.ntmps128;go_wp2
  go_ret2
  exact⟨rfl,rfl⟩
theorem mul_1 (w:World):Calls Tryz.prog 126 #[.int .u64 1,.int .u64 1] w fun e w'=>e=.returned (.tuple #[.int .u64 0,.int .u64 1])∧w=w':=by
 go_enter Tryz.func126,Tryz.ntmps126;go_wp2_with (go_at_call 128;refine(mul64_few 1 (.inl rfl) _).mono ?_;rintro e w' ⟨rfl,rfl⟩)
 go_ret2
 exact⟨rfl,rfl⟩
theorem mul_2 (w:World):Calls Tryz.prog 126 #[.int .u64 1,.int .u64 2] w fun e w'=>e=.returned (.tuple #[.int .u64 0,.int .u64 2])∧w=w':=by
 go_enter Tryz.func126,Tryz.ntmps126;go_wp2_with (go_at_call 128;refine(mul64_few 2 (.inr rfl) _).mono ?_;rintro e w' ⟨rfl,rfl⟩)
 go_ret2
 exact⟨rfl,rfl⟩
theorem made_1 (w:World):(Instr.makeSlice 22 (.int .i64 1) (.int .i64 1)).run Tryz.prog w=.ok (.slice (some ⟨w.heap.size,0,none⟩) 1 1) (w.alloc (.cells #[.int .i64 0] 3)):=by kernel_rfl
theorem made_2 (w:World):(Instr.makeSlice 22 (.int .i64 2) (.int .i64 2)).run Tryz.prog w=.ok (.slice (some ⟨w.heap.size,0,none⟩) 2 2) (w.alloc (.cells #[.int .i64 0,.int .i64 0] 3)):=by kernel_rfl
def TimesPost (x:Int) (n:Nat) (w:World) (e:Ending) (w':World):Prop:=∃ v:Value,e=.returned v∧UB w' v (List.replicate n x)∧(∀ a k c,v=.slice (some a) k c→w.heap.size≤a.block)∧Below w.heap.size w w'
theorem copied (b o dl dc:Nat) (a:Addr) (sc:Nat) (x:Int) (w:World) (hd:1≤dl) (hx:w.cell? a=some (.int .i64 x)) (hc:(w.cell? ⟨b,o,none⟩).isSome=true) (hf:w.frozen? ⟨b,o,none⟩=false) :
 (Builtin.copy_ #[22,22] 3 #[.slice (some ⟨b,o,none⟩) dl dc,.slice (some a) 1 sc]).run Tryz.prog w=.ok (.int .i64 1) (w.setCell ⟨b,o,none⟩ (.int .i64 x)):=by
 have h:=run_copy_cells (P:=Tryz.prog) w 22 22 3 3 b o dl dc a 1 sc [.int .i64 x] (by kernel_rfl) (by kernel_rfl) (by simp[Nat.min_eq_left hd])
  (by intro j v hj;match j,hj with|0,hj=>simp at hj;subst hj;simpa [Addr.add] using hx) (fun j hj=>by have e:j=0:=(by simpa using hj);subst e;exact hc) (fun j hj=>by have e:j=0:=(by simpa using hj);subst e;exact hf) (by simp[Value.oneCell'])
 exact h
theorem repeat_1 (x:Int) (g:Nat) (w:World) (hg:w.cell? ⟨g,0,none⟩=some (.int .i64 x)) (hs:g<w.heap.size) :
 Calls Tryz.prog 124 #[.slice (some ⟨g,0,none⟩) 1 1,.int .i64 1] w (TimesPost x 1 w):=by
 have hmk:=made_1;have hg':(w.alloc (.cells #[.int .i64 0] 3)).cell? ⟨g,0,none⟩=some (.int .i64 x):=by rw[World.cell?_alloc_lt _ _ _ hs];exact hg
 have hcp:=copied w.heap.size 0 1 1 ⟨g,0,none⟩ 1 x (w.alloc (.cells #[.int .i64 0] 3)) (nR _) hg' (by simp) (by simp[go_sem]);go_enter Tryz.func124,Tryz.ntmps124;go_wp2_with (go_at_call 126;refine(mul_1 _).mono ?_;rintro e w' ⟨rfl,rfl⟩)
 go_loop [8] (fun n=>n=.int .i64 1) (fun _=>0)
 case atStart=>rfl
 case round =>
  subst hrel;go_wp2;go_ret;exact⟨_,rfl,.inr ⟨w.heap.size,1,rfl,by simp,by simp,by simp,fun j hj=>new_cells w 3 [x] j hj⟩,fun a k c e=>by cases e;exact nR _,(bR _ _).alloc (nR _) _⟩
theorem repeat_2 (x:Int) (g:Nat) (w:World) (hg:w.cell? ⟨g,0,none⟩=some (.int .i64 x)) (hs:g<w.heap.size) :
 Calls Tryz.prog 124 #[.slice (some ⟨g,0,none⟩) 1 1,.int .i64 2] w (TimesPost x 2 w):=by
 have hmk:=made_2;have hg':(w.alloc (.cells #[.int .i64 0,.int .i64 0] 3)).cell? ⟨g,0,none⟩=some (.int .i64 x):=by rw[World.cell?_alloc_lt _ _ _ hs];exact hg
 have hcp:=copied w.heap.size 0 2 2 ⟨g,0,none⟩ 1 x (w.alloc (.cells #[.int .i64 0,.int .i64 0] 3)) (by omega) hg' (by simp) (by simp[go_sem]);have hcq:(Builtin.copy_ #[22,22] 3 #[.slice (some ⟨w.heap.size,1,none⟩) 1 1,.slice (some ⟨w.heap.size,0,none⟩) 1 2]).run Tryz.prog (w.alloc (.cells #[.int .i64 x,.int .i64 0] 3)).drew=.ok (.int .i64 1) (w.alloc (.cells #[.int .i64 x,.int .i64 x] 3)).drew:=by
  have h:=copied w.heap.size 1 1 1 ⟨w.heap.size,0,none⟩ 2 x (w.alloc (.cells #[.int .i64 x,.int .i64 0] 3)).drew (by omega) (by simp[go_sem]) (by simp[go_sem]) (by simp[go_sem]);rw[show ∀ (X:World) a v,X.drew.setCell a v=(X.setCell a v).drew from fun _ _ _=>rfl]at h;simpa [go_sem] using h
 go_enter Tryz.func124,Tryz.ntmps124;go_wp2_with (go_at_call 126;refine(mul_2 _).mono ?_;rintro e w' ⟨rfl,rfl⟩)
 go_loopw [8] (fun n wr=>(n=.int .i64 1∧wr=w.alloc (.cells #[.int .i64 x,.int .i64 0] 3))∨(n=.int .i64 2∧∃ m,wr=(w.alloc (.cells #[.int .i64 x,.int .i64 x] 3)).drewN m)) (fun n _=>2 - (intOf n).toNat)
 case atStart=>exact .inl ⟨rfl,rfl⟩
 case round =>
  rcases hrel with ⟨rfl,rfl⟩|⟨rfl,m,rfl⟩
  ·go_wp2_with fail
   go_region
   all_goals
    go_wp2;go_roundw
    case rel=>exact .inr ⟨rfl,1,rfl⟩
    case measure=>simp[intOf]
  ·go_wp2;go_ret;refine⟨_,rfl,.inr ⟨w.heap.size,2,rfl,by simp,by simp,by simp,fun j hj=>new_cells w 3 [x,x] j hj⟩,fun a k c e=>by cases e;exact nR _,Wj ((bR _ _).alloc (nR _) _) _⟩
end
end Go.Proofs.YtepgopnnaeoolaaGreatDoor
