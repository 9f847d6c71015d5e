/- A part of the proof. -/
import Derived.Test.YtepgopnnaeoolaaGreatDoorJ42
import Derived.Test.YtepgopnnaeoolaaGreatDoorJ44
namespace Go.Proofs.YtepgopnnaeoolaaGreatDoor
open Go.RowKit
set_option maxHeartbeats 4000000
set_option maxRecDepth 100000
theorem ZV {P:Prop}(h:P:=by
 rw[← hX,← hRR];have HBX:=hD hbx;clear hX hRR hbx HP HR HB1 b0 b1 b2 b3 b4 b5 b6 b7 k1;go_wp2_with fail
 go_quiet (fail)
 go_wp2
 go_ret2
 have hd:=Wj (bR X.heap.size X) nq;exact⟨_,_,rfl,HPX.out.keep (Wf.below hd fun _ hk=>hk.2) fun _ hk=>⟨hk.1,WW hk.2 hd.size⟩,HRX.out.keep (Wf.below hd fun _ hk=>hk.2) fun _ hk=>⟨hk.1,WW hk.2 hd.size⟩,Wa HB.out (Wa HBX.out hd)⟩):P:=h
theorem UA {w W1 w1:World} (hb:w.heap.size≤W1.heap.size) {v:Value} {l:List Int} (hi:Wg (fun k=>False∨(W1.heap.size≤k∧k<w1.heap.size)) w1 v l) (o:Obj):Wg (fun k=>w.heap.size≤k∧k<(w1.alloc o).heap.size) (w1.alloc o) v l :=
 hi.keep (Wf.below (Wi (bR _ _) o) fun k hk=>by rcases hk with hk|hk;exact hk.elim;exact hk.2) fun k hk=>by
  rw[Wq];rcases hk with hk|hk
  ·exact hk.elim
  ·omega
theorem VT {w W1 w1:World} {B:Nat} (hb:w.heap.size≤W1.heap.size) (hB:B<W1.heap.size) {v:Value} {l:List Int} (hi:Wg (fun k=>False∨(W1.heap.size≤k∧k<w1.heap.size)) w1 v l) (a b:Value):Wg (fun k=>w.heap.size≤k∧k<((w1.setCell ⟨B,0,none⟩ a).setCell ⟨B,1,none⟩ b).heap.size) ((w1.setCell ⟨B,0,none⟩ a).setCell ⟨B,1,none⟩ b) v l :=
 Ux hi (fun hk=>by rcases hk with hk|hk;exact hk.elim;omega) fun k hk=>by
  have e:((w1.setCell ⟨B,0,none⟩ a).setCell ⟨B,1,none⟩ b).heap.size=w1.heap.size:=by simp[World.setCell]
  rw[e];rcases hk with hk|hk
  ·exact hk.elim
  ·omega
theorem effect_16 {F:Wx} {w:World} {x:Ws} (hF:F.prg) (h:Wk F w x) (hs:VI F.m) (a b n:Int) (ha : -9223372036854775808≤a∧a≤9223372036854775807) (Al:Option Addr) (nl cl:Nat) :
 Calls Tryz.prog 103 #[.pointer (some ⟨F.G,0,none⟩),.agg #[.int .i64 16,.int .i64 a,.int .i64 b,.int .u64 n,.slice Al nl cl]] w (V1 ((WT F.m a).getD ([],[])) w):=by
 obtain⟨W,hW⟩:∃ W,W=w.alloc (.cells #[.int .i64 16,.int .i64 a,.int .i64 b,.int .u64 n,.slice Al nl cl] 76):=⟨_,rfl⟩;have hk:∀ j:Nat,W.cell? ⟨w.heap.size,j,none⟩=(#[.int .i64 16,.int .i64 a,.int .i64 b,.int .u64 n,.slice Al nl cl]:Array Value)[j]?:=fun j=>by rw[hW,wN]
 have k0:=hk 0;have k1:=hk 1;simp only[List.getElem?_toArray,List.getElem?_cons_zero,List.getElem?_cons_succ]at k0 k1;have hgs:=h.alloc (.cells #[.int .i64 16,.int .i64 a,.int .i64 b,.int .u64 n,.slice Al nl cl] 76);rw[← hW]at hgs;have hg:=hgs.1;have HGS:=hD hgs;have hb:Below w.heap.size w W:=hW ▸ (bR _ _).alloc (nR _) _;have HCA:=hD (fun wz (hz:Below W.heap.size W wz)=>sig_any wz F.v F.m ((hg.below hz).1.reads.mod.keep (.refl _ _) fun _ hk=>hk.1) hs a ha);obtain⟨A0,c0,A1,c1,A2,c2,A3,c3,A4,c4,A5,c5,A6,c6,A7,c7,hv⟩:=WC hg.reads.mod;have HX:Hid (∀ wz,Below W.heap.size W wz→wz.cell? ⟨w.heap.size,0,none⟩=some (.int .i64 16)∧wz.cell? ⟨w.heap.size,1,none⟩=some (.int .i64 a)):=hD fun wz hz=>⟨(hz.cell (p:=⟨w.heap.size,0,none⟩) (wL W _ k0)).trans k0,(hz.cell (p:=⟨w.heap.size,1,none⟩) (wL W _ k1)).trans k1⟩;have HY:Hid (∀ wz,Below W.heap.size W wz→∀ j,wz.cell? ⟨F.G,j,none⟩=(Vj F x)[j]?):=hD fun wz hz j=>(hg.below hz).1.cell j;unfold Vj at HY;rw[hF.1,hv]at HY;rw[hv]at HCA;simp only[Mv.cells,Bool.false_eq_true,if_false]at HCA HY;generalize F.m.types.length=n0 at *;generalize F.m.imps.length=n1 at *;generalize F.m.funs.length=n2 at *;generalize F.m.mems.length=n3 at *;generalize F.m.globs.length=n4 at *;generalize F.m.exps.length=n5 at *;generalize F.m.datas.length=n6 at *;generalize F.m.cus.length=n7 at *;have HW:=hD hW;have HB:=hD hb;have HBZ:=hD hb.size;have HF:=hD hF;have HS:Hid (∀ wz,Below W.heap.size W wz→wz.cell? ⟨F.G,2,none⟩=some (.slice A0 n0 c0)∧wz.cell? ⟨F.G,3,none⟩=some (.slice A1 n1 c1)∧wz.cell? ⟨F.G,4,none⟩=some (.slice A2 n2 c2)∧wz.cell? ⟨F.G,5,none⟩=some (.slice A3 n3 c3)∧wz.cell? ⟨F.G,6,none⟩=some (.slice A4 n4 c4)∧wz.cell? ⟨F.G,7,none⟩=some (.slice A5 n5 c5)∧wz.cell? ⟨F.G,8,none⟩=some (.slice A6 n6 c6)∧wz.cell? ⟨F.G,9,none⟩=some (.slice A7 n7 c7)∧wz.cell? ⟨w.heap.size,1,none⟩=some (.int .i64 a)):=hD fun wz hz=>⟨HY.out wz hz 2,HY.out wz hz 3,HY.out wz hz 4,HY.out wz hz 5,HY.out wz hz 6,HY.out wz hz 7,HY.out wz hz 8,HY.out wz hz 9,(HX.out wz hz).2⟩;generalize WT F.m a=t at HCA ⊢;clear h hg hgs hv hb hW hF hs HX HY HGS HF hk;go_enter Tryz.func103,Tryz.ntmps103
 go_upto_region 1 with (fail)
 rw[← HW.out]
 go_upto_region 6 with (fail)
 clear k0 k1;obtain⟨b0,b1,b2,b3,b4,b5,b6,b7,k1⟩:=HS.out W (bR W.heap.size W)
 go_region_held3 (fun wz=>wz.cell? ⟨F.G,2,none⟩=some (.slice A0 n0 c0)∧wz.cell? ⟨F.G,3,none⟩=some (.slice A1 n1 c1)∧wz.cell? ⟨F.G,4,none⟩=some (.slice A2 n2 c2)∧wz.cell? ⟨F.G,5,none⟩=some (.slice A3 n3 c3)∧wz.cell? ⟨F.G,6,none⟩=some (.slice A4 n4 c4)∧wz.cell? ⟨F.G,7,none⟩=some (.slice A5 n5 c5)∧wz.cell? ⟨F.G,8,none⟩=some (.slice A6 n6 c6)∧wz.cell? ⟨F.G,9,none⟩=some (.slice A7 n7 c7)∧wz.cell? ⟨w.heap.size,1,none⟩=some (.int .i64 a))
  (first|go_keep|exact⟨b0,b1,b2,b3,b4,b5,b6,b7,k1⟩|exact HS.out _ HB1.out|exact HS.out _ (Wi HB1.out _)|exact HS.out _ (Vm HB1.out (Below.size (bR W.heap.size W))))
  ((go_at_call 65;refine(HCA.out _ (by first|exact Wa (bR W.heap.size W) ((bR _ _).drew)|exact Wa (bR W.heap.size W) (Wi ((bR _ _).drew) _))).mono ?_;rintro e w1 ⟨p,r,rfl,hp,hr,hb1⟩;obtain⟨A8,e8,rfl,_,_⟩:=hp.form;obtain⟨A9,e9,rfl,_,_⟩:=hr.form;have HB1:Hid (Below W.heap.size W w1):=hD (by first|exact Wa (Wa (bR W.heap.size W) ((bR _ _).drew)) hb1|exact Wa (Wa (bR W.heap.size W) (Wi ((bR _ _).drew) _)) hb1);(first|(have hN:=VO (W).drew (.cells #[.slice none 0 0,.slice none 0 0] 66);have hZ:w1.heap[(W).heap.size]?=some (.cells #[.slice none 0 0,.slice none 0 0] 66 (0,0)):=(hb1.block (W).heap.size (Array.getElem?_eq_some_iff.1 hN).1).trans hN;clear hN;have z0:=WG hZ 0;have z1:=WG hZ 1;have f0:=Vv hZ 0;have f1:=Vv hZ 1;simp only[List.getElem?_toArray,List.getElem?_cons_zero,List.getElem?_cons_succ]at z0 z1;have HZ:=hD hZ;clear hZ)|skip);have HP:=hD hp;have HR:=hD hr;clear hp hr hb1))
 ·skip
  obtain⟨X,hX⟩:∃ X,X=w1.alloc (.cells #[.slice A8 (t.getD ([],[])).1.length e8,.slice A9 (t.getD ([],[])).2.length e9] 66):=⟨_,rfl⟩;obtain⟨RR,hRR⟩:∃ RR,RR=w1.heap.size:=⟨_,rfl⟩;have hw2:w.heap.size≤(W).heap.size:=Nat.le_trans HBZ.out (Below.size (bR W.heap.size W));have y0:X.cell? ⟨RR,0,none⟩=some (.slice A8 (t.getD ([],[])).1.length e8):=by rw[hX,hRR,wN];rfl
  have y1:X.cell? ⟨RR,1,none⟩=some (.slice A9 (t.getD ([],[])).2.length e9):=by rw[hX,hRR,wN];rfl
  have hbx:Below W.heap.size W X:=hX ▸ Wi HB1.out _;have HPX:Hid (Wg (fun k=>w.heap.size≤k∧k<X.heap.size) X (.slice A8 (t.getD ([],[])).1.length e8) (t.getD ([],[])).1):=hD (by rw[hX];exact UA (w:=w) (by exact hw2) HP.out _);have HRX:Hid (Wg (fun k=>w.heap.size≤k∧k<X.heap.size) X (.slice A9 (t.getD ([],[])).2.length e9) (t.getD ([],[])).2):=hD (by rw[hX];exact UA (w:=w) (by exact hw2) HR.out _);have hrw:W.heap.size≤RR:=by rw[hRR];exact HB1.out.size
  exact ZV
 ·skip
  obtain⟨X,hX⟩:∃ X,X=(w1.setCell ⟨(W).heap.size,0,none⟩ (.slice A8 (t.getD ([],[])).1.length e8)).setCell ⟨(W).heap.size,1,none⟩ (.slice A9 (t.getD ([],[])).2.length e9):=⟨_,rfl⟩;obtain⟨RR,hRR⟩:∃ RR,RR=(W).heap.size:=⟨_,rfl⟩;have hw2:w.heap.size≤(W).heap.size:=Nat.le_trans HBZ.out (Below.size (bR W.heap.size W));have s1:=Wh w1 (W).heap.size 0 _ _ (.slice A8 (t.getD ([],[])).1.length e8) HZ.out;have s2:=Wh _ (W).heap.size 1 _ _ (.slice A9 (t.getD ([],[])).2.length e9) s1;rw[← hX,← hRR]at s2;have y0:X.cell? ⟨RR,0,none⟩=some (.slice A8 (t.getD ([],[])).1.length e8):=WG s2 0;have y1:X.cell? ⟨RR,1,none⟩=some (.slice A9 (t.getD ([],[])).2.length e9):=WG s2 1;have hbx:Below W.heap.size W X:=hX ▸ Vm HB1.out (Below.size (bR W.heap.size W));have hsz:w.heap.size≤((W).alloc (.cells #[.slice none 0 0,.slice none 0 0] 66)).heap.size:=by rw[Wq];omega
  have HPX:Hid (Wg (fun k=>w.heap.size≤k∧k<X.heap.size) X (.slice A8 (t.getD ([],[])).1.length e8) (t.getD ([],[])).1):=hD (by rw[hX];exact VT (w:=w) (by exact hsz) (show(W).heap.size<((W).alloc (.cells #[.slice none 0 0,.slice none 0 0] 66)).heap.size by rw[Wq];omega) HP.out _ _);have HRX:Hid (Wg (fun k=>w.heap.size≤k∧k<X.heap.size) X (.slice A9 (t.getD ([],[])).2.length e9) (t.getD ([],[])).2):=hD (by rw[hX];exact VT (w:=w) (by exact hsz) (show(W).heap.size<((W).alloc (.cells #[.slice none 0 0,.slice none 0 0] 66)).heap.size by rw[Wq];omega) HR.out _ _);clear s1 s2 z0 z1 f0 f1;have hrw:W.heap.size≤RR:=by rw[hRR];exact Below.size (bR W.heap.size W)
  exact ZV
end Go.Proofs.YtepgopnnaeoolaaGreatDoor
