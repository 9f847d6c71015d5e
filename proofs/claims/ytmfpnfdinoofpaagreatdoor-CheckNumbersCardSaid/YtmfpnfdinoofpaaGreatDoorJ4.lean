/- A part of the proof. -/
import Derived.Test.YtmfpnfdinoofpaaGreatDoorJ3
import Derived.Deep.RegionLaw
import Derived.BigRegion
import Derived.Deep.RegionHeld3
import Derived.Deep.CutRange
namespace Go.Proofs.YtmfpnfdinoofpaaGreatDoor
section
open Go.RowKit
theorem all_yes {α:Type} {p:α→Bool} {l:List α} {d:α} (h:∀ j,j<l.length→p (l.getD j d)=true):l.all p=true:=by
 rw[List.all_eq_true];intro x hx;obtain⟨j,hj,rfl⟩:=List.mem_iff_getElem.1 hx;have:=h j hj
 rwa [List.getD_eq_getElem?_getD,List.getElem?_eq_getElem hj]at this
theorem VM {α:Type} {p:α→Bool} {l:List α} {d:α} {j:Nat} (hj:j<l.length) (h:p (l.getD j d)=false):l.all p=false:=by
 rw[Bool.eq_false_iff];intro ha;rw[List.all_eq_true]at ha;have:=ha _ (List.getElem_mem hj);rw[List.getD_eq_getElem?_getD,List.getElem?_eq_getElem hj]at h;simp only[Option.getD_some]at h;rw[this]at h;cases h
def W0 {α:Type} (p:α→Bool) (l:List α) (d:α) (k:Nat):Prop:=∀ j,j<k→p (l.getD j d)=true
theorem W0.zero {α:Type} (p:α→Bool) (l:List α) (d:α):W0 p l d 0:=fun _ h=>absurd h (Nat.not_lt_zero _)
theorem W0.succ {α:Type} {p:α→Bool} {l:List α} {d:α} {k:Nat} (h:W0 p l d k) (hk:p (l.getD k d)=true):W0 p l d (k+1):=fun j hj=>by
 rcases Nat.lt_or_ge j k with h1|h1
 ·exact h j h1
 ·rw[show j=k by omega];exact hk
theorem W0.done {α:Type} {p:α→Bool} {l:List α} {d:α} (h:W0 p l d l.length):l.all p=true:=all_yes h
def VF (t:Int):Bool:=decide (t=127∨t=126∨t=124)
def Vs (l:List Int) (most:Int):Bool:=decide ((l.length:Int)≤most) && l.all VF
def idxB (n:Int):Bool:=inB n 0 2147483647
def strB (s:ByteArray):Bool:=decide (s.size≤64) && decide (0≤cntI (VR s))
def WX (x:Vl):Bool:=insB x.op x.a x.b x.n x.l
def typB (t:List Int×List Int):Bool:=Vs t.1 8 && Vs t.2 8
def impB (i:ByteArray×ByteArray×Int):Bool:=strB i.1 && strB i.2.1 && idxB i.2.2
def codeB (c:List Vl):Bool:=decide (c.length≤65536) && c.all WX
def fncB (f:Fnc):Bool:=idxB f.ty && Vs f.loc 256 && codeB f.code
def memB (x:Int×Int):Bool:=decide (0≤x.1) && decide (x.1≤x.2) && decide (x.2≤512)
def Uj (g:Int×Bool×Int):Bool:=VF g.1 && !(decide (g.1=127) && decide (4294967295<g.2.2))
def exOneB (e:ByteArray×Int×Int):Bool:=strB e.1 && idxB e.2.2 && decide (e.2.1=0∨e.2.1=2∨e.2.1=3)
def exD:ByteArray×Int×Int:=(ByteArray.empty,0,0)
def exAtB (l:List (ByteArray×Int×Int)) (k:Nat):Bool:=exOneB (l.getD k exD) && (List.range k).all fun j=>decide (VR (l.getD j exD).1≠VR (l.getD k exD).1)
def exsB (l:List (ByteArray×Int×Int)):Bool:=(List.range l.length).all (exAtB l)
def datB (d:Dat):Bool:=(if d.act then inB d.mem 0 3 && inB d.pos 0 2147483647 else inB d.mem 0 0 && inB d.pos 0 0) && decide (d.bytes.length≤1048576)
def cusB (c:ByteArray×List Nat):Bool:=strB c.1 && decide (c.2.length≤1048576)
def fitsB (m:Vt):Bool :=
 decide (m.types.length≤64) && decide (m.imps.length+m.funs.length≤256) && decide (m.mems.length≤4) && decide (m.globs.length≤256) && decide (m.datas.length≤16) && decide (m.exps.length≤256) && decide (m.cus.length≤16)
def UG (m:Vt):Bool:=m.types.all typB && m.imps.all impB && m.funs.all fncB && m.mems.all memB && m.globs.all Uj && exsB m.exps && m.datas.all datB && m.cus.all cusB
def WU (m:Vt):Int:=if fitsB m then if UG m then 0 else 12 else 13
theorem range_yes {p:Nat→Bool} {n:Nat} (h:∀ j,j<n→p j=true):(List.range n).all p=true:=by
 rw[List.all_eq_true];intro x hx;exact h x (List.mem_range.1 hx)
theorem range_no {p:Nat→Bool} {n j:Nat} (hj:j<n) (h:p j=false):(List.range n).all p=false:=by
 rw[Bool.eq_false_iff];intro ha;rw[List.all_eq_true]at ha;rw[ha j (List.mem_range.2 hj)]at h;cases h
end
section
open Go.RowKit
set_option maxHeartbeats 1000000
set_option maxRecDepth 100000
theorem Zb4 {P:Prop}(h:P:=by
 go_enter Tryz.func77,Tryz.ntmps77;go_wp2;exact bodyPost_ret (v:=.tuple #[.agg #[.slice Ap np cp,.slice Ar nr cr],.bool true]) (by simp[results,Tryz.results77,go_sem]) rfl ⟨_,_,rfl,HP.out,HR.out,((bR _ _).alloc (nR _) _).alloc (by simp) _⟩):P:=h
theorem Zc1 {P:Prop}(h:P:=by
 have h:=wN ((w.alloc a).alloc b) cs t j;have e:((w.alloc a).alloc b).heap.size=w.heap.size+2:=by simp
 rw[e]at h;exact h):P:=h
def SigPost (K:Nat→Prop) (t:List Int×List Int) (w:World) (e:Ending) (w':World):Prop :=
 ∃ p r:Value,e=.returned (.tuple #[.agg #[p,r],.bool true])∧Wf K w p t.1∧Wf K w r t.2∧Below w.heap.size w w'
theorem UN.at_ {K:Nat→Prop} {w:World} {g o m c:Nat} {ts:List (List Int×List Int)} (h:UN K w (.slice (some ⟨g,o,none⟩) m c) ts) (j:Nat) (hj:j<ts.length) :
 ∃ p r,w.cell? ⟨g,o+j * 2,none⟩=some p∧w.cell? ⟨g,o+j * 2+1,none⟩=some r∧Wf K w p (ts.getD j ([],[])).1∧Wf K w r (ts.getD j ([],[])).2:=by
 obtain⟨p,h1,h2⟩:=Wd.at_ h j 0 hj (by omega);obtain⟨r,h3,h4⟩:=Wd.at_ h j 1 hj (by omega);exact⟨p,r,h1,h3,h2,h4⟩
theorem US {w:World} {p:Addr} {u:Value} (h:w.cell? p=some u) (a b:Obj):((w.alloc a).alloc b).cell? p=some u:=by
 have hp:=wL w p h;rw[World.cell?_alloc_lt _ _ _ (by simp;omega),World.cell?_alloc_lt _ _ _ hp,h]
theorem rsig_yes (K:Nat→Prop) (w:World) (m0 m1 m2 m3 m4 m5 m6 m7:Value) (ts:List (List Int×List Int)) (is fs:List Int) (h0:UN K w m0 ts) (h1:Ut K w m1 3 2 is) (h2:Ut K w m2 3 0 fs) (hn:ts.length+is.length+fs.length≤1000000)
 (f t:Nat) (hf:(f<is.length∧is.getD f 0=(t:Int))∨(is.length≤f∧f<is.length+fs.length∧fs.getD (f - is.length) 0=(t:Int))) (ht:t<ts.length) :
 Calls Tryz.prog 77 #[.agg #[m0,m1,m2,m3,m4,m5,m6,m7],.int .i64 (f:Int)] w (SigPost K (ts.getD t ([],[])) w):=by
 obtain⟨g0,o0,c0,rfl,_,_⟩:=Wd.some_ h0 (by omega);obtain⟨p,r,hp,hr,hip,hir⟩:=h0.at_ t ht;obtain⟨Ap,cp,rfl,_,_⟩:=hip.form;obtain⟨Ar,cr,rfl,_,_⟩:=hir.form;have kp:=US hp;have kr:=US hr;have HP:=hD hip;have HR:=hD hir;generalize ts.getD t ([],[])=tt at *;generalize hP:tt.1.length=np at kp HP;generalize hR:tt.2.length=nr at kr HR;clear hP hR;generalize hT:ts.length=nt at *;clear hT hp hr hip hir h0;have d0:decide ((t:Int)<0)=false:=by simp
 have d1:decide ((nt:Int)≤(t:Int))=false:=by simp;omega
 have d2:decide ((0:Int)≤(f:Int))=true:=by simp
 rcases hf with ⟨hlt,hft⟩|⟨hge,hlt,hft⟩
 ·obtain⟨g1,o1,c1,rfl,_,_⟩:=Wd.some_ h1 (by omega);have k1:=US (h1.at_ f hlt (by omega));rw[hft]at k1;generalize hI:is.length=ni at *;clear hI hft h1 h2;have d3:decide ((f:Int)<(ni:Int))=true:=by simp;omega
  exact Zb4
 ·obtain⟨g2,o2,c2,rfl,_,_⟩:=Wd.some_ h2 (by omega);obtain⟨A1,c1,rfl,_,_⟩:=Wd.form h1;have k1:=US (h2.at_ (f - is.length) (by omega) (by omega));rw[hft]at k1;obtain⟨d,hd⟩:∃ d:Nat,f=is.length+d:=⟨f - is.length,by omega⟩;rw[show f - is.length=d by omega]at k1;simp only[Nat.add_zero]at k1;generalize hI:is.length=ni at *;generalize hF:fs.length=nf at *;clear hI hF hft h1 h2;have d3:decide ((f:Int)<(ni:Int))=false:=by simp;omega
  have e1:IntKind.i64.wrap ((ni:Int)+(nf:Int))=(ni:Int)+(nf:Int):=IntWalk.i64_in _ (by omega);have d4:decide ((f:Int)<(ni:Int)+(nf:Int))=true:=by simp;omega
  have e2:IntKind.i64.wrap ((f:Int) - (ni:Int))=(d:Int):=by rw[show(f:Int) - (ni:Int)=(d:Int) by omega];exact IntWalk.i64_in _ (by omega)
  have d5:d<nf:=by omega
  clear hd;exact Zb4
theorem cell_third (w:World) (a b:Obj) (cs:Array Value) (t:TypeId) (j:Nat):(((w.alloc a).alloc b).alloc (.cells cs t)).cell? ⟨w.heap.size+2,j,none⟩=cs[j]?:=by
 exact Zc1
end
section
open Go.RowKit
set_option maxHeartbeats 800000
set_option maxRecDepth 100000
def LocPost (l:List Int) (w:World) (e:Ending) (w':World):Prop:=∃ v,e=.returned v∧Wf (fun k=>w.heap.size≤k∧k<w'.heap.size) w' v l∧Below w.heap.size w w'
theorem owns_new {w w':World} {base:Nat} {e:TypeId} {v:Value} {l:List Int} {n:Nat} {xs:List Value} (h:w'.ownsRow base e 1 v n xs) (hn:n=l.length) (hx:xs=l.map (Value.int .i64)) (hl:l.length≤1000000) (hK:∀ g,v.ownBlock=some g→w.heap.size≤g):Wf (fun k=>w.heap.size≤k∧k<w'.heap.size) w' v l:=by
 subst hn hx;rcases h.2 with ⟨rfl,h0⟩|⟨g,cap,cur,rfl,_⟩
 ·obtain rfl:l=[]:=List.eq_nil_of_length_eq_zero h0;exact Wf.nil _ _
 ·refine⟨_,cap,rfl,by unfold maxLen;omega,(fun h=>by cases h),fun _=>⟨g,0,rfl,⟨hK g rfl,(h.lt g rfl).2⟩,fun j hj=>?_⟩⟩;rw[Nat.zero_add,h.cellAt j (by rw[Nat.mul_one];exact hj)];simp[hj]
theorem rloc_gen (w:World) (K:Nat→Prop) (hK:∀ k,K k→k<w.heap.size) (m0 m1 m2 m3 m4 m5 m6 m7:Value) (ts:List (List Int×List Int)) (is fs:List Int) (h0:UN K w m0 ts) (h1:Ut K w m1 3 2 is) (h2:Ut K w m2 3 0 fs) (hn:ts.length+is.length+fs.length≤300000)
 (d t:Nat) (hd:d<fs.length) (hft:fs.getD d 0=(t:Int)) (ht:t<ts.length) (h3:(ts.getD t ([],[])).1.length≤100000) (lv:Value) (ll:List Int) (hlv:∀ g o n c,m2=.slice (some ⟨g,o,none⟩) n c→w.cell? ⟨g,o+d * 3+1,none⟩=some lv) (hll:Wf K w lv ll) (hl100:ll.length≤100000) :
 Calls Tryz.prog 85 #[.agg #[m0,m1,m2,m3,m4,m5,m6,m7],.int .i64 ((is.length+d:Nat):Int)] w (LocPost ((ts.getD t ([],[])).1++ll) w):=by
 have hb1:Below w.heap.size w (w.alloc (.cells #[m0,m1,m2,m3,m4,m5,m6,m7] 37)):=(bR _ _).alloc (nR _) _;have HK1:Hid (We K w (w.alloc (.cells #[m0,m1,m2,m3,m4,m5,m6,m7] 37))):=hD (.below hb1 hK);have HSG:=hD (rsig_yes K (w.alloc (.cells #[m0,m1,m2,m3,m4,m5,m6,m7] 37)) m0 m1 m2 m3 m4 m5 m6 m7 ts is fs (h0.keep HK1.out fun _ h=>h) (h1.keep HK1.out fun _ h=>h) (h2.keep HK1.out fun _ h=>h) (by omega) (is.length+d) t (.inr ⟨by omega,by omega,by rw[Nat.add_sub_cancel_left];exact hft⟩) ht);obtain⟨g2,o2,c2,rfl,_,_⟩:=Wd.some_ h2 (by omega);obtain⟨A1,c1,rfl,_,_⟩:=Wd.form h1;have klv:=hlv g2 o2 _ _ rfl;obtain⟨Al,cl,hle,_,_⟩:=hll.form;rw[hle]at klv hll;have HLL:=hD hll;have hg2:K g2:=by
  obtain⟨A,c',he,_,_,_,h9⟩:=h2;simp only[vI]at he;obtain⟨g',o',he2,hg',_⟩:=h9 (by omega);rw[← he.1]at he2;simp only[Option.some.injEq,Addr.mk.injEq]at he2;rw[he2.1];exact hg'
 have HB1:=hD hb1;have HKK:=hD hK;have HG2:=hD hg2;have HKL:=hD klv;generalize hI:is.length=ni at *;generalize hF:fs.length=nf at *;generalize ts.getD t ([],[])=tt at *;generalize hLL:ll.length=nl at *;have HNL:=hD hLL;have hni:ni≤300000:=by omega
 have hnf:nf≤300000:=by omega
 clear h0 h1 h2 hlv hll hle hg2 hb1 klv hK hft ht hI hF hLL hn;have e1:IntKind.i64.wrap (((ni+d:Nat):Int) - (ni:Int))=(d:Int):=by rw[show((ni+d:Nat):Int) - (ni:Int)=(d:Int) by omega];exact IntWalk.i64_in _ (by omega)
 have d3:decide (ni+d<ni)=false:=by simp
 obtain⟨fv,hfv⟩:∃ fv:Nat,fv=ni+d:=⟨_,rfl⟩;rw[← hfv]at HSG e1 d3 ⊢;clear hfv;go_enter Tryz.func85,Tryz.ntmps85;have bc:∀ j:Nat,(w.alloc (.cells #[m0,.slice A1 ni c1,.slice (some ⟨g2,o2,none⟩) nf c2,m3,m4,m5,m6,m7] 37)).cell? ⟨w.heap.size,j,none⟩=#[m0,.slice A1 ni c1,.slice (some ⟨g2,o2,none⟩) nf c2,m3,m4,m5,m6,m7][j]?:=fun j=>by rw[wN]
 have b0:=bc 0;have b1:=bc 1;have b2:=bc 2;have b3:=bc 3;have b4:=bc 4;have b5:=bc 5;have b6:=bc 6;have b7:=bc 7;simp only[List.getElem?_toArray,List.getElem?_cons_zero,List.getElem?_cons_succ]at b0 b1 b2 b3 b4 b5 b6 b7;have HB1c:=hD b1;have HB2c:=hD b2;clear bc;go_wp2_with fail
 go_at_call 77;refine HSG.out.mono ?_;rintro e w2 ⟨p,r,rfl,hip,hir,hbel⟩;obtain⟨Ap,cp,hpv,_,_⟩:=hip.form;obtain⟨Ar,cr,hrv,_,_⟩:=hir.form;rw[hpv]at hip ⊢;rw[hrv]at hir ⊢;generalize hP:tt.1.length=np at *;generalize hR:tt.2.length=nr at *;have HNP:=hD hP;have HIP:=hD hip;have HB2:=hD (HB1.out.trans (hbel.mono HB1.out.size));have HW0:=hD hip;clear hpv hrv hir hip;have hp3:np≤100000:=by omega
 obtain⟨W2,hW2⟩:∃ W2,W2=w2.alloc (.cells #[.slice Ap np cp,.slice Ar nr cr] 40):=⟨_,rfl⟩;have hbW:Below (w.alloc (.cells #[m0,.slice A1 ni c1,.slice (some ⟨g2,o2,none⟩) nf c2,m3,m4,m5,m6,m7] 37)).heap.size (w.alloc (.cells #[m0,.slice A1 ni c1,.slice (some ⟨g2,o2,none⟩) nf c2,m3,m4,m5,m6,m7] 37)) W2:=by rw[hW2];exact Wb hbel _
 have hlt:w.heap.size<(w.alloc (.cells #[m0,.slice A1 ni c1,.slice (some ⟨g2,o2,none⟩) nf c2,m3,m4,m5,m6,m7] 37)).heap.size:=by simp
 have HBW:=hD (Wa HB1.out hbW);have q1:W2.cell? ⟨w.heap.size,1,none⟩=some (.slice A1 ni c1):=(hbW.cell (p:=⟨w.heap.size,1,none⟩) hlt).trans b1;have q2:W2.cell? ⟨w.heap.size,2,none⟩=some (.slice (some ⟨g2,o2,none⟩) nf c2):=(hbW.cell (p:=⟨w.heap.size,2,none⟩) hlt).trans b2;have q3:W2.cell? ⟨w2.heap.size,0,none⟩=some (.slice Ap np cp):=by rw[hW2];exact wN w2 _ _ 0
 have q4:W2.cell? ⟨g2,o2+d * 3+1,none⟩=some (.slice Al nl cl):=(HBW.out.cell (p:=⟨g2,o2+d * 3+1,none⟩) (HKK.out _ HG2.out)).trans HKL.out;have HFT:Hid (∀ w1,We (fun k=>k<W2.heap.size) W2 w1→w1.cell? ⟨w.heap.size,1,none⟩=some (.slice A1 ni c1)∧w1.cell? ⟨w.heap.size,2,none⟩=some (.slice (some ⟨g2,o2,none⟩) nf c2)∧w1.cell? ⟨w2.heap.size,0,none⟩=some (.slice Ap np cp)∧w1.cell? ⟨g2,o2+d * 3+1,none⟩=some (.slice Al nl cl)):=fun w1 hk =>
  ⟨(hk.cell (p:=⟨w.heap.size,1,none⟩) (wL _ _ q1)).trans q1,(hk.cell (p:=⟨w.heap.size,2,none⟩) (wL _ _ q2)).trans q2,(hk.cell (p:=⟨w2.heap.size,0,none⟩) (wL _ _ q3)).trans q3,(hk.cell (p:=⟨g2,o2+d * 3+1,none⟩) (wL _ _ q4)).trans q4⟩
 have HKI:Hid (∀ (w1:World) (v:Value) (l:List Int),Wf K w v l→We (fun k=>k<W2.heap.size) W2 w1→Wf (fun k=>k<W2.heap.size) w1 v l):=fun w1 v l h hk=>h.keep ((We.below HBW.out HKK.out).trans (hk.mono fun k h=>Ve (HKK.out k h) HBW.out.size)) fun k h=>Ve (HKK.out k h) HBW.out.size;have HIP0:Hid (∀ w1,We (fun k=>k<W2.heap.size) W2 w1→UZ w1 (.slice Ap np cp) np (tt.1.map (Value.int .i64))):=fun w1 hk=>by
  have h9:=(HW0.out.keep (K':=fun k=>k<W2.heap.size) ((We.below hbW fun k h=>Ve (HKK.out k h) HB1.out.size).trans (hk.mono fun k h=>Ve (HKK.out k h) HBW.out.size)) fun k h=>Ve (HKK.out k h) HBW.out.size).news
  rwa [HNP.out]at h9
 have HIL:Hid (∀ w1,We (fun k=>k<W2.heap.size) W2 w1→UZ w1 (.slice Al nl cl) nl (ll.map (Value.int .i64))):=fun w1 hk=>by
  have h9:=(HKI.out w1 _ _ HLL.out hk).news
  rwa [HNL.out]at h9
 obtain⟨qb1,qb2,qb3,qb4⟩:=HFT.out _ (We.alloc W2 (fun _ h=>h) (.cells #[] 3));have HNW:=hD (HIP0.out _ (We.alloc W2 (fun _ h=>h) (.cells #[] 3)));clear hbW hlt hbel b0 b1 b2 b3 b4 b5 b6 b7 HSG HB1 HK1 HB1c HB2c HB2;have hW2':w2.alloc (.cells #[.slice Ap np cp,.slice Ar nr cr] 40)=W2:=hW2.symm;clear hW2;have HW2:=hD hW2';clear hW2'
 go_upto_region 2 with (fail)
 rw[HW2.out];go_wp2_with fail
 go_region_held3 (fun w'=>w'.cell? ⟨w.heap.size,1,none⟩=some (.slice A1 ni c1)∧w'.cell? ⟨w.heap.size,2,none⟩=some (.slice (some ⟨g2,o2,none⟩) nf c2)∧w'.cell? ⟨w2.heap.size,0,none⟩=some (.slice Ap np cp)∧w'.cell? ⟨g2,o2+d * 3+1,none⟩=some (.slice Al nl cl))
  (first|go_keep|exact⟨qb1,qb2,qb3,qb4⟩|exact HFT.out _ hk2|exact HFT.out _ hk1)
  ((first
  | (refine Um rfl (.tmp 22) (.tmp 24) 23 3 rfl _ 1 8 Tryz.underlying23 Tryz.infoInt rfl (by decide) (by decide) (.slice (some ⟨W2.heap.size,0,none⟩) 0 0) 0 [] (by rfl) (owns_drew (owns_nothing W2 _)) _ np (tt.1.map (Value.int .i64)) (by rfl) (by rw[List.length_map,HNP.out,Nat.mul_one]) (news_drew HNW.out) (UR _) (by omega) ?_;intro u1 wa ho1 hga1 ha1;simp only[Nat.zero_add,List.nil_append]at ho1;have hk1:=keeps_made (grown_drew hga1);obtain⟨B1,k1,rfl⟩:=Wy ho1)
  | (refine Um rfl (.tmp 25) (.tmp 35) 23 3 rfl _ 1 8 Tryz.underlying23 Tryz.infoInt rfl (by decide) (by decide) _ _ _ (by rfl) ho1 _ nl (ll.map (Value.int .i64)) (by rfl) (by rw[List.length_map,HNL.out,Nat.mul_one]) (HIL.out _ hk1) (UR _) (by omega) ?_;intro u2 wb ho2 hga2 ha2;have hk2:=keeps_made2 (o:=.cells #[] 3) hk1 ha1 hga2;have hat:=made_at hk1 ha1 ha2;obtain⟨B2,k2,rfl⟩:=Wy ho2)))
 all_goals
  have HO:=hD (owns_new (w:=W2) (l:=tt.1++ll) ho2 (by rw[List.length_append,HNP.out,HNL.out]) (by rw[List.map_append]) (by rw[List.length_append,HNP.out,HNL.out];omega) hat);have HB9:=hD (Wa HBW.out (hk2.to_below fun _ h=>h));clear ho1 ho2 hga1 hga2 ha1 ha2 hat hk1 hk2;go_wp2;go_ret;exact⟨_,rfl,HO.out.keep (We.refl _ _) (fun k hk=>⟨Nat.le_trans HBW.out.size hk.1,hk.2⟩),HB9.out⟩
end
section
open Go.RowKit
set_option maxHeartbeats 1000000
set_option maxRecDepth 100000
theorem ZC {P:Prop}(h:P:=by
 obtain⟨k,a,hk,rfl,rfl,HE⟩:=hrel;by_cases hlt:k<n
 ·have hkn:(0:Int)≤k:=Int.natCast_nonneg _;have hd:decide ((k:Int)<(n:Int))=true:=by simp;omega
  obtain⟨g1,o1,c3,he,_,_⟩:=H1.out.some_ (by rw[HQ1.out];omega);simp only[vI]at he;obtain⟨rfl,-,-⟩:=he;obtain⟨g2,o2,c4,he,_,_⟩:=H2.out.some_ (by rw[HQ2.out];omega);simp only[vI]at he;obtain⟨rfl,-,-⟩:=he;have k1:=H1.out.at_ k hlt;have k2:=H2.out.at_ k hlt;have HY:=hD (fun (h:q1.getD k 0=q2.getD k 0)=>HE.out.succ h);have HN:=hD (fun (h:q1.getD k 0≠q2.getD k 0)=>ne_at h);generalize q1.getD k 0=y at k1 HY HN;generalize q2.getD k 0=z at k2 HY HN;go_wp2_with fail
  go_quiet (fail)
  by_cases hyz:y=z
  ·have hd2:(y != z)=false:=by simpa using hyz
   have HY2:=hD (HY.out hyz);clear HY HN hyz;go_wp2;go_roundw
   case rel=>exact⟨k+1,_,by omega,by go_num,rfl,HY2⟩
   case measure=>simp[intOf];omega
  ·have hd2:(y != z)=true:=by simpa using hyz
   have HN2:=hD (HN.out hyz);clear HY HN hyz;go_wp2;go_ret;exact⟨WV (by rw[decide_eq_false HN2.out]),Wt (Wt (bR _ _) _) _⟩
 ·have hd:decide ((k:Int)<(n:Int))=false:=by simp;omega
  have HD:=hD (EqTo.done (d:=(0:Int)) (HQ1.out.trans HQ2.out.symm) (show EqTo q1 q2 0 q1.length by rw[HQ1.out,show n=k by omega];exact HE.out));go_wp2;go_ret;exact⟨WV (by rw[decide_eq_true HD.out]),Wt (bR _ _) _⟩):P:=h
theorem list_eq {α:Type} {a b:List α} {d:α} (hl:a.length=b.length) (h:∀ j,j<a.length→a.getD j d=b.getD j d):a=b:=by
 apply List.ext_getElem hl
 intro j h1 h2;have h3:=h j h1
 rwa [List.getD_eq_getElem?_getD,List.getD_eq_getElem?_getD,List.getElem?_eq_getElem h1,List.getElem?_eq_getElem h2]at h3
def EqTo {α:Type} (a b:List α) (d:α) (k:Nat):Prop:=∀ j,j<k→a.getD j d=b.getD j d
theorem EqTo.zero {α:Type} (a b:List α) (d:α):EqTo a b d 0:=fun _ h=>absurd h (Nat.not_lt_zero _)
theorem EqTo.succ {α:Type} {a b:List α} {d:α} {k:Nat} (h:EqTo a b d k) (hk:a.getD k d=b.getD k d):EqTo a b d (k+1):=fun j hj=>by
 rcases Nat.lt_or_ge j k with h1|h1
 ·exact h j h1
 ·rw[show j=k by omega];exact hk
theorem EqTo.done {α:Type} {a b:List α} {d:α} (hl:a.length=b.length) (h:EqTo a b d a.length):a=b:=list_eq hl h
theorem ne_at {α:Type} {a b:List α} {d:α} {j:Nat} (h:a.getD j d≠b.getD j d):a≠b:=fun e=>h (e ▸ rfl)
theorem ne_len {α:Type} {a b:List α} (h:a.length≠b.length):a≠b:=fun e=>h (e ▸ rfl)
def Uo (m:Vt) (k:Int):Option (List Int×List Int):=if 0≤k∧k<m.types.length then some (m.types.getD k.toNat ([],[])) else none
def Wv (m:Vt) (a:Int):Option (List Int×List Int) :=
 if a = -1 then some ([],[]) else if a = -2 then some ([],[127]) else if a = -3 then some ([],[126]) else if a = -4 then some ([],[124]) else Uo m a
def WB (m:Vt) (f:Int):Option (List Int×List Int) :=
 if f<0∨(m.imps.length:Int)+m.funs.length≤f then none
 else if f<m.imps.length then Uo m (m.imps.getD f.toNat (ByteArray.empty,ByteArray.empty,0)).2.2
 else Uo m (m.funs.getD (f - m.imps.length).toNat WW).ty
def locB (m:Vt) (f:Int):List Int :=
 match WB m f with
 | none=>[]
 | some t=>if f<m.imps.length then [] else t.1++(m.funs.getD (f - m.imps.length).toNat WW).loc
def TypPost (K:Nat→Prop) (t:Option (List Int×List Int)) (w:World) (e:Ending) (w':World):Prop :=
 ∃ p r:Value,e=.returned (.tuple #[.agg #[p,r],.bool t.isSome])∧Wf (fun k=>K k∨(w.heap.size≤k∧k<w'.heap.size)) w' p (t.getD ([],[])).1∧Wf (fun k=>K k∨(w.heap.size≤k∧k<w'.heap.size)) w' r (t.getD ([],[])).2∧Below w.heap.size w w'
theorem equal_is (K:Nat→Prop) (w:World) (v1 v2:Value) (q1 q2:List Int) (h1:Wf K w v1 q1) (h2:Wf K w v2 q2):Calls Tryz.prog 126 #[v1,v2] w (Wh (decide (q1=q2)) w):=by
 obtain⟨A1,c1,hv1,hm1,_⟩:=h1.form;obtain⟨A2,c2,hv2,_,_⟩:=h2.form;unfold maxLen at hm1;rw[hv1]at h1 ⊢;rw[hv2]at h2 ⊢;have H1:=hD h1;have H2:=hD h2;clear h1 h2 hv1 hv2;generalize hQ1:q1.length=n at *;generalize hQ2:q2.length=m at *;have HQ1:=hD hQ1;have HQ2:=hD hQ2;clear hQ1 hQ2;by_cases hnm:n=m
 ·subst hnm;go_enter Tryz.func126,Tryz.ntmps126;go_wp2_with fail
  go_loopw [13] (fun i wr=>∃ k a:Nat,k≤n∧i=.int .i64 (k:Int)∧wr=w.drewN a∧Hid (EqTo q1 q2 0 k)) (fun i _=>n - (intOf i).toNat)
  case atStart=>exact⟨0,0,nZ _,rfl,rfl,hD (EqTo.zero _ _ _)⟩
  case round =>
   exact ZC
 ·have hd:((n:Int) != (m:Int))=true:=by simp;omega
  have HN:Hid (q1≠q2):=hD (ne_len (by rw[HQ1.out,HQ2.out];exact hnm));go_enter Tryz.func126,Tryz.ntmps126;go_wp2;go_ret;exact⟨WV (by rw[decide_eq_false HN.out]),bR _ _⟩
end
section
open Go.RowKit
set_option maxHeartbeats 2000000
set_option maxRecDepth 100000
theorem ZbP {P:Prop}(h:P:=by
 clear ht hs hnt hk0;go_enter Tryz.func90,Tryz.ntmps90;go_wp2;exact bodyPost_ret (v:=.tuple #[.agg #[.slice none 0 0,.slice none 0 0],.bool false]) (by simp[results,Tryz.results90,go_sem]) rfl ⟨_,_,rfl,Wf.nil _ _,Wf.nil _ _,((bR _ _).alloc (nR _) _).alloc (by simp) _⟩):P:=h
theorem eql_nil_in (w:World) (d:Nat) (t e:TypeId) (a:Option Addr) (n c:Nat) (h:Tryz.prog.underlying t=some (.slice e)):(Op.equalIn (d+1) t (.slice a n c) (.slice none 0 0)).run Tryz.prog w=.ok a.isNone w:=by
 cases a <;> simp[Op.equalIn,run_underlying h]
theorem eql_nil_of (w:World) (t e:TypeId) (a:Option Addr) (n c:Nat) (h:Tryz.prog.underlying t=some (.slice e)):(Op.equal t (.slice a n c) (.slice none 0 0)).run Tryz.prog w=.ok a.isNone w:=eql_nil_in w 9999 t e a n c h
theorem eql_nil (w:World) (a:Option Addr) (n c:Nat):(binOp .eql 23 (.slice a n c) (.slice none 0 0)).run Tryz.prog w=.ok (.bool a.isNone) w:=by
 simp[binOp,eql_nil_of w 23 3 a n c Tryz.underlying23]
theorem news_below {w0 w:World} {v:Value} {m:Nat} {us:List Value} (h:UZ w0 v m us) (hb:Below w0.heap.size w0 w):UZ w v m us:=by
 refine h.keep fun a c _ j u _ hc=>?_;exact(hb.cell (p:=a.add j) (wL _ _ hc)).trans hc
theorem clone_any (K:Nat→Prop) (w:World) (v:Value) (l:List Int) (h:Wf K w v l) (hl:l.length≤100000):Calls Tryz.prog 171 #[v] w (LocPost l w):=by
 have HN:=hD h.news;obtain⟨A,c,rfl,hm,hnil,hsome⟩:=h;rcases A with _|a
 ·obtain rfl:=hnil rfl;have h0:l=[]:=by
   rcases Nat.eq_zero_or_pos l.length with h0|h0
   ·exact List.eq_nil_of_length_eq_zero h0
   ·obtain⟨_,_,h,_⟩:=hsome h0;cases h
  subst h0;clear hm hnil hsome;have hq:=eql_nil w none 0 0;simp only[List.length_nil]at *;go_enter Tryz.func171,Tryz.ntmps171;go_wp2;go_ret;exact⟨_,rfl,Wf.nil _ _,bR _ _⟩
 ·clear hnil hsome hm;obtain⟨n,hn⟩:∃ n,l.length=n:=⟨_,rfl⟩;rw[hn]at HN hl ⊢;have HL:=hD hn;clear hn;have hq:=eql_nil w (some a) n c;go_enter Tryz.func171,Tryz.ntmps171;go_wp2_with (at_builtin;refine WE rfl (.tmp 5) (.tmp 6) 23 3 rfl _ 1 8 Tryz.underlying23 Tryz.infoInt rfl (by decide) (by decide) (.slice (some ⟨w.heap.size,0,none⟩) 0 0) 0 [] (by rfl) (owns_nothing w _) _ n (l.map (Value.int .i64)) (by rfl) (by rw[List.length_map,HL.out,Nat.mul_one]) (news_below HN.out (Wb (bR _ _) _)) (UR _) (by omega) ?_;intro v1 w1 ho1 hg1 hat1;simp only[Nat.zero_add,List.nil_append]at ho1;obtain⟨B1,d1,rfl⟩:=Wy ho1)
  have hk:=keeps_made hg1;have HO:=hD (owns_new (w:=w) (l:=l) ho1 HL.out.symm rfl (by rw[HL.out];omega) (fun g hg=>by
   rcases hat1 with h1|h1
   ·have:=h1.symm.trans hg;simp only[Value.ownBlock,Option.some.injEq]at this;omega
   ·have:=h1.symm.trans hg;simp only[Option.some.injEq]at this;rw[← this];simp))
  have HB:=hD (hk.to_below fun _ h=>h);clear ho1 hg1 hat1 hk;go_ret;exact⟨_,rfl,HO.out,HB.out⟩
def Ug (B:Nat) (w:World):Prop:=w.heap[B]?=some (.cells #[.slice none 0 0,.slice none 0 0] 40 (0,0))
theorem Ug.all {B:Nat} {w:World} (h:Ug B w):w.cell? ⟨B,0,none⟩=some (.slice none 0 0)∧w.cell? ⟨B,1,none⟩=some (.slice none 0 0)∧w.frozen? ⟨B,0,none⟩=false∧w.frozen? ⟨B,1,none⟩=false:=by
 unfold Ug at h;simp[World.cell?,World.frozen?,h]
theorem Ug.fill {B:Nat} {w:World} (h:Ug B w) (a b:Value):((w.setCell ⟨B,0,none⟩ a).setCell ⟨B,1,none⟩ b).heap[B]?=some (.cells #[a,b] 40 (0,0)):=by
 have h0:=Wg w B 0 _ _ a h;have h1:=Wg _ B 1 _ _ b h0;simpa using h1
theorem Ug.below {B:Nat} {w w':World} (h:Ug B w) (hB:B<w.heap.size) (hb:Below w.heap.size w w'):Ug B w':=(hb.block B hB).trans h
theorem Ug.new (w:World):Ug w.heap.size (w.alloc (.cells #[.slice none 0 0,.slice none 0 0] 40)):=by
 unfold Ug;simp[World.alloc,-World.alloc_eq]
theorem WL {w0 w:World} {B:Nat} {a b:Value} (h:Below w0.heap.size w0 w) (hB:w0.heap.size≤B):Below w0.heap.size w0 ((w.setCell ⟨B,0,none⟩ a).setCell ⟨B,1,none⟩ b):=(h.setCell (by exact hB) _).setCell (by exact hB) _
theorem UY {K K':Nat→Prop} {w:World} {B:Nat} {a b v:Value} {l:List Int} (h:Wf K w v l) (hB:¬ K B) (hm:∀ k,K k→K' k):Wf K' ((w.setCell ⟨B,0,none⟩ a).setCell ⟨B,1,none⟩ b) v l :=
 h.keep ((We.setCell w (by exact hB) a).trans (We.setCell _ (by exact hB) b)) hm
theorem far2 {w:World} {g B i:Nat} {a b u:Value} (h:w.cell? ⟨g,i,none⟩=some u) (hne:g≠B):((w.setCell ⟨B,0,none⟩ a).setCell ⟨B,1,none⟩ b).cell? ⟨g,i,none⟩=some u :=
 (((We.setCell (K:=fun k=>k≠B) w (fun h=>h rfl) a).trans (We.setCell (K:=fun k=>k≠B) _ (fun h=>h rfl) b)).cell (p:=⟨g,i,none⟩) hne).trans h
def CopPost (t:List Int×List Int) (w:World) (e:Ending) (w':World):Prop :=
 ∃ p r:Value,e=.returned (.agg #[p,r])∧Wf (fun k=>w.heap.size≤k∧k<w'.heap.size) w' p t.1∧Wf (fun k=>w.heap.size≤k∧k<w'.heap.size) w' r t.2∧Below w.heap.size w w'
theorem copyType_any (K:Nat→Prop) (w:World) (hK:∀ k,K k→k<w.heap.size) (p r:Value) (t:List Int×List Int) (h1:Wf K w p t.1) (h2:Wf K w r t.2) (hl:t.1.length≤100000∧t.2.length≤100000) :
 Calls Tryz.prog 141 #[.agg #[p,r]] w (CopPost t w):=by
 have HC1:=hD (fun wz (hb:Below w.heap.size w wz)=>clone_any (fun k=>k<wz.heap.size) wz p t.1 (h1.keep (We.below hb hK) fun k hk=>Ve (hK k hk) hb.size) hl.1);have HC2:=hD (fun wz (hb:Below w.heap.size w wz)=>clone_any (fun k=>k<wz.heap.size) wz r t.2 (h2.keep (We.below hb hK) fun k hk=>Ve (hK k hk) hb.size) hl.2);obtain⟨A1,c1,hv1,_,_⟩:=h1.form;obtain⟨A2,c2,hv2,_,_⟩:=h2.form;rw[hv1]at HC1;rw[hv2]at HC2;rw[hv1,hv2];clear h1 h2 hv1 hv2 hl;generalize t.1.length=n1 at *;generalize t.2.length=n2 at *;obtain⟨W,hW⟩:∃ W,W=(w.alloc (.cells #[.slice A1 n1 c1,.slice A2 n2 c2] 40)).alloc (.cells #[.slice none 0 0,.slice none 0 0] 40):=⟨_,rfl⟩;have hs:W.heap.size=w.heap.size+2:=by rw[hW];simp
 have hbw:Below w.heap.size w W:=by rw[hW];exact((bR w.heap.size w).alloc (nR _) _).alloc (by simp) _
 have hz:Ug (w.heap.size+1) W:=by
  have h:=Ug.new (w.alloc (.cells #[.slice A1 n1 c1,.slice A2 n2 c2] 40));rw[show(w.alloc (.cells #[.slice A1 n1 c1,.slice A2 n2 c2] 40)).heap.size=w.heap.size+1 by simp]at h;rw[hW];exact h
 have hk0:W.cell? ⟨w.heap.size,0,none⟩=some (.slice A1 n1 c1):=by rw[hW,World.cell?_alloc_lt _ _ _ (by simp),wN];rfl
 have hk1:W.cell? ⟨w.heap.size,1,none⟩=some (.slice A2 n2 c2):=by rw[hW,World.cell?_alloc_lt _ _ _ (by simp),wN];rfl
 have hbd:Below w.heap.size w W.drew:=hbw.drew;have HF:Hid (∀ wz,Below W.drew.heap.size W.drew wz→wz.cell? ⟨w.heap.size,0,none⟩=some (.slice A1 n1 c1)∧wz.cell? ⟨w.heap.size,1,none⟩=some (.slice A2 n2 c2)∧Ug (w.heap.size+1) wz):=hD fun wz hb =>
  ⟨(hb.cell (p:=⟨w.heap.size,0,none⟩) (by show w.heap.size<W.heap.size;omega)).trans hk0,(hb.cell (p:=⟨w.heap.size,1,none⟩) (by show w.heap.size<W.heap.size;omega)).trans hk1,Ug.below (w:=W.drew) hz (by show w.heap.size+1<W.heap.size;omega) hb⟩
 have HBD:=hD hbd;have HS:=hD hs;have HQ1:=hD (HC1.out _ hbd);clear hbd hbw hz hs HC1;go_enter Tryz.func141,Tryz.ntmps141
 go_upto_region 1 with (fail)
 rw[← hW];clear hW;have hBne:w.heap.size≠w.heap.size+1:=by omega
 have HBne:=hD hBne;have HBlt:Hid (w.heap.size+1<W.heap.size):=hD (by have:=HS.out;omega);have HBge:Hid (w.heap.size≤w.heap.size+1):=hD (by omega);clear hBne;generalize w.heap.size+1=B at *
 go_region_held3 (fun w'=>w'.cell? ⟨w.heap.size,0,none⟩=some (.slice A1 n1 c1)∧w'.cell? ⟨w.heap.size,1,none⟩=some (.slice A2 n2 c2))
  (first|go_keep|exact⟨far2 (HF.out _ hb2).1 HBne.out,far2 (HF.out _ hb2).2.1 HBne.out⟩|exact⟨(HF.out _ hb1).1,(HF.out _ hb1).2.1⟩|exact⟨(HF.out _ hb2).1,(HF.out _ hb2).2.1⟩)
  (first
  | (go_at_call 171;(with_reducible refine HQ1.out.mono ?_);rintro e w1 ⟨v1,rfl,hi1,hb1⟩;obtain⟨B1,d1,hq1,_,_⟩:=hi1.form;rw[hq1]at hi1 ⊢)
  | (go_at_call 171;(with_reducible refine(HC2.out _ (Wa HBD.out hb1)).mono ?_);rintro e w2 ⟨v2,rfl,hi2,hb2'⟩;obtain⟨B2,d2,hq2,_,_⟩:=hi2.form;rw[hq2]at hi2 ⊢;have hb2:=Wa hb1 hb2';obtain⟨z0,z1,f0,f1⟩:=(HF.out _ hb2).2.2.all))
 all_goals
  have hfl:=(HF.out _ hb2).2.2.fill (.slice B1 t.1.length d1) (.slice B2 t.2.length d2);have HFL:=hD hfl;have hlt:=HBlt.out;have hs:=HS.out;have hsz:W.drew.heap.size=W.heap.size:=rfl;have hfin:CopPost t w (.returned (.agg #[.slice B1 t.1.length d1,.slice B2 t.2.length d2])) ((w2.setCell ⟨B,0,none⟩ (.slice B1 t.1.length d1)).setCell ⟨B,1,none⟩ (.slice B2 t.2.length d2)):=by
   have hw:((w2.setCell ⟨B,0,none⟩ (.slice B1 t.1.length d1)).setCell ⟨B,1,none⟩ (.slice B2 t.2.length d2)).heap.size=w2.heap.size:=by simp[World.setCell]
   have h12:=hb2'.size;have h01:=hb1.size;refine⟨_,_,rfl,UY (hi1.keep (We.below hb2' fun _ hk=>hk.2) fun k hk=>hk) (fun hk=>by have:=hk.1;omega) (fun k hk=>?_),UY hi2 (fun hk=>by have:=hk.1;omega) (fun k hk=>?_),WL (Wa HBD.out hb2) HBge.out⟩
   ·have h1:=hk.1;have h2:=hk.2;exact⟨by omega,by rw[hw];omega⟩
   ·have h1:=hk.1;have h2:=hk.2;exact⟨by omega,by rw[hw];omega⟩
  have HFIN:=hD hfin;clear hfin hfl hb1 hb2 hb2' hi1 hi2 z0 z1 f0 f1 hk0 hk1 hlt hs hsz;go_wp2;have hfl:=HFL.out;exact bodyPost_ret (v:=.agg #[.slice B1 t.1.length d1,.slice B2 t.2.length d2]) (by simp[results,Tryz.results141,go_sem,World.cell?,hfl]) rfl HFIN.out
theorem typeB_none {m:Vt} {k:Int} (h:k<0∨(m.types.length:Int)≤k):Uo m k=none:=by
 unfold Uo;rw[if_neg (by omega)]
theorem typeB_some {m:Vt} {k:Nat} (h:k<m.types.length):Uo m (k:Int)=some (m.types.getD k ([],[])):=by
 unfold Uo;rw[if_pos (by omega),Int.toNat_natCast]
def Vq (m:Vt):Prop:=m.types.length≤100000∧m.imps.length≤100000∧m.funs.length≤100000∧(∀ t ∈ m.types,t.1.length≤100000∧t.2.length≤100000)∧∀ f ∈ m.funs,f.loc.length≤100000
theorem WA {α:Type} (l:List α) (j:Nat) (d:α) (h:j<l.length):l.getD j d ∈ l:=by
 rw[List.getD_eq_getElem?_getD,List.getElem?_eq_getElem h];exact List.getElem_mem h
theorem UA {K:Nat→Prop} {w:World} {v:Value} {n size:Nat} {f:Nat→Nat→Value→Prop} (h:Wd K w v n size f):∃ A k c,v=.slice A k c:=by
 obtain⟨A,c,h1,_⟩:=h;exact⟨A,n,c,h1⟩
theorem typeAt_any (w:World) (v:Mv) (m:Vt) (h:W7 (fun k=>k<w.heap.size) w v m) (hs:Vq m) (k:Int) :
 Calls Tryz.prog 90 #[.agg v.cells,.int .i64 k] w (TypPost (fun _=>False) (Uo m k) w):=by
 have ht:=h.types;have hl:=hs.1;obtain⟨A0,c0,hv0,_,_⟩:=Wd.form ht;obtain⟨A1,n1,c1,hv1⟩:=UA h.imps;obtain⟨A2,n2,c2,hv2⟩:=UA h.funs;obtain⟨A3,n3,c3,hv3⟩:=UA h.mems;obtain⟨A4,n4,c4,hv4⟩:=UA h.globs;obtain⟨A5,n5,c5,hv5⟩:=UA h.exps;obtain⟨A6,n6,c6,hv6⟩:=UA h.datas;obtain⟨A7,n7,c7,hv7⟩:=UA h.cus;obtain⟨m0,m1,m2,m3,m4,m5,m6,m7⟩:=v;simp only at ht hv0 hv1 hv2 hv3 hv4 hv5 hv6 hv7;subst hv0 hv1 hv2 hv3 hv4 hv5 hv6 hv7;simp only[Mv.cells];clear h;have HSH:=hD hs.2.2.2.1;obtain⟨nt,hnt⟩:∃ n,m.types.length=n:=⟨_,rfl⟩;have HNT:=hD hnt;rcases(show k<0∨(m.types.length:Int)≤k∨(0≤k∧k<m.types.length) by omega) with hk0|hk0|hk0
 ·rw[typeB_none (.inl hk0)];rw[hnt]at ht ⊢;have d0:decide (k<0)=true:=by simp;omega
  exact ZbP
 ·rw[typeB_none (.inr hk0)];rw[hnt]at ht hk0 ⊢;have d0:decide (k<0)=false:=by simp;omega
  have d1:decide ((nt:Int)≤k)=true:=by simp;omega
  exact ZbP
 ·obtain⟨k,rfl⟩:∃ j:Nat,k=(j:Int):=⟨k.toNat,by omega⟩;rw[typeB_some (by omega)];have hkn:k<m.types.length:=by omega
  obtain⟨g0,o0,cc0,he,_,_⟩:=Wd.some_ ht (by omega);simp only[vI]at he;obtain⟨rfl,-,rfl⟩:=he;obtain⟨p,r,hp,hr,hip,hir⟩:=UN.at_ ht k hkn;have hsh:=hs.2.2.2.1 _ (WA m.types k ([],[]) hkn);generalize m.types.getD k ([],[])=t at hip hir hsh ⊢;obtain⟨Ap,cp,rfl,_,_⟩:=hip.form;obtain⟨Ar,cr,rfl,_,_⟩:=hir.form;have kp:=US hp;have kr:=US hr;have HCT:=hD (fun wz (hb:Below w.heap.size w wz)=>copyType_any (fun k=>k<wz.heap.size) wz (fun _ h=>h) _ _ t (hip.keep (We.below hb fun _ hk=>hk) fun _ hk=>Ve hk hb.size) (hir.keep (We.below hb fun _ hk=>hk) fun _ hk=>Ve hk hb.size) hsh);rw[hnt]at hkn ⊢;have d0:decide ((k:Int)<0)=false:=by simp
  have d1:decide ((nt:Int)≤(k:Int))=false:=by simp;omega
  generalize t.1.length=np at *;generalize t.2.length=nr at *;have hb0:=((bR w.heap.size w).alloc (nR _) (.cells #[.slice (some ⟨g0,o0,none⟩) nt c0,.slice A1 n1 c1,.slice A2 n2 c2,.slice A3 n3 c3,.slice A4 n4 c4,.slice A5 n5 c5,.slice A6 n6 c6,.slice A7 n7 c7] 37)).alloc (by simp) (.cells #[.slice none 0 0,.slice none 0 0] 40);have HC0:=hD (HCT.out _ hb0);have HB0:=hD hb0;have hz:=Ug.new (w.alloc (.cells #[.slice (some ⟨g0,o0,none⟩) nt c0,.slice A1 n1 c1,.slice A2 n2 c2,.slice A3 n3 c3,.slice A4 n4 c4,.slice A5 n5 c5,.slice A6 n6 c6,.slice A7 n7 c7] 37));rw[show(w.alloc (.cells #[.slice (some ⟨g0,o0,none⟩) nt c0,.slice A1 n1 c1,.slice A2 n2 c2,.slice A3 n3 c3,.slice A4 n4 c4,.slice A5 n5 c5,.slice A6 n6 c6,.slice A7 n7 c7] 37)).heap.size=w.heap.size+1 by simp]at hz;have HZ:=hD hz;clear ht hs hnt hk0 hip hir hsh HCT hb0 hz hp hr;go_enter Tryz.func90,Tryz.ntmps90;go_wp2_with fail
  go_at_call 141;refine HC0.out.mono ?_;rintro e w1 ⟨p',r',rfl,hi1,hi2,hb1⟩;obtain⟨B1,e1,hq1,_,_⟩:=hi1.form;obtain⟨B2,e2,hq2,_,_⟩:=hi2.form;rw[hq1]at hi1 ⊢;rw[hq2]at hi2 ⊢;have hz1:=HZ.out.below (by simp) hb1;have HFL:=hD (hz1.fill (.slice B1 t.1.length e1) (.slice B2 t.2.length e2));obtain⟨z0,z1,f0,f1⟩:=hz1.all;have hs2:((w.alloc (.cells #[.slice (some ⟨g0,o0,none⟩) nt c0,.slice A1 n1 c1,.slice A2 n2 c2,.slice A3 n3 c3,.slice A4 n4 c4,.slice A5 n5 c5,.slice A6 n6 c6,.slice A7 n7 c7] 37)).alloc (.cells #[.slice none 0 0,.slice none 0 0] 40)).heap.size=w.heap.size+2:=by simp
  rw[hs2]at hi1 hi2;have hfin:TypPost (fun _=>False) (some t) w (.returned (.tuple #[.agg #[.slice B1 t.1.length e1,.slice B2 t.2.length e2],.bool true])) ((w1.setCell ⟨w.heap.size+1,0,none⟩ (.slice B1 t.1.length e1)).setCell ⟨w.heap.size+1,1,none⟩ (.slice B2 t.2.length e2)):=by
   have hw:((w1.setCell ⟨w.heap.size+1,0,none⟩ (.slice B1 t.1.length e1)).setCell ⟨w.heap.size+1,1,none⟩ (.slice B2 t.2.length e2)).heap.size=w1.heap.size:=by simp[World.setCell]
   exact⟨_,_,rfl,UY hi1 (fun hk=>by have:=hk.1;omega) (fun k hk=>.inr ⟨by have:=hk.1;omega,by rw[hw];exact hk.2⟩),UY hi2 (fun hk=>by have:=hk.1;omega) (fun k hk=>.inr ⟨by have:=hk.1;omega,by rw[hw];exact hk.2⟩),WL (Wa HB0.out hb1) (by omega)⟩
  have HFIN:=hD hfin;clear hfin hb1 hi1 hi2 hz1 hs2 hq1 hq2;go_wp2;have hfl:=HFL.out;exact bodyPost_ret (v:=.tuple #[.agg #[.slice B1 t.1.length e1,.slice B2 t.2.length e2],.bool true]) (by simp[results,Tryz.results90,go_sem,World.cell?,hfl]) rfl HFIN.out
end
end Go.Proofs.YtmfpnfdinoofpaaGreatDoor
