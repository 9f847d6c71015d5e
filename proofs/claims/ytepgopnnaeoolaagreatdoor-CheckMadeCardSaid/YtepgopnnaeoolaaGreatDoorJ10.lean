/- A part of the proof. -/
import Derived.Test.YtepgopnnaeoolaaGreatDoorJ9
namespace Go.Proofs.YtepgopnnaeoolaaGreatDoor
open Go.RowKit
set_option maxHeartbeats 800000
set_option maxRecDepth 100000
def LocPost (l:List Int) (w:World) (e:Ending) (w':World):Prop:=∃ v,e=.returned v∧Wg (fun k=>w.heap.size≤k∧k<w'.heap.size) w' v l∧Below w.heap.size w w'
theorem owns_new {w w':World} {base:Nat} {e:TypeId} {v:Value} {l:List Int} {n:Nat} {xs:List Value} (h:w'.ownsRow base e 1 v n xs) (hn:n=l.length) (hx:xs=l.map (Value.int .i64)) (hl:l.length≤1000000) (hK:∀ g,v.ownBlock=some g→w.heap.size≤g):Wg (fun k=>w.heap.size≤k∧k<w'.heap.size) w' v l:=by
 subst hn hx;rcases h.2 with ⟨rfl,h0⟩|⟨g,cap,cur,rfl,_⟩
 ·obtain rfl:l=[]:=List.eq_nil_of_length_eq_zero h0;exact Wg.nil _ _
 ·refine⟨_,cap,rfl,by unfold maxLen;omega,(fun h=>by cases h),fun _=>⟨g,0,rfl,⟨hK g rfl,(h.lt g rfl).2⟩,fun j hj=>?_⟩⟩;rw[Nat.zero_add,h.cellAt j (by rw[Nat.mul_one];exact hj)];simp[hj]
theorem rloc_gen (w:World) (K:Nat→Prop) (hK:∀ k,K k→k<w.heap.size) (m0 m1 m2 m3 m4 m5 m6 m7:Value) (ts:List (List Int×List Int)) (is fs:List Int) (h0:Vo K w m0 ts) (h1:VW K w m1 3 2 is) (h2:VW K w m2 3 0 fs) (hn:ts.length+is.length+fs.length≤300000)
 (d t:Nat) (hd:d<fs.length) (hft:fs.getD d 0=(t:Int)) (ht:t<ts.length) (h3:(ts.getD t ([],[])).1.length≤100000) (lv:Value) (ll:List Int) (hlv:∀ g o n c,m2=.slice (some ⟨g,o,none⟩) n c→w.cell? ⟨g,o+d * 3+1,none⟩=some lv) (hll:Wg K w lv ll) (hl100:ll.length≤100000) :
 Calls Tryz.prog 10 #[.agg #[m0,m1,m2,m3,m4,m5,m6,m7],.int .i64 ((is.length+d:Nat):Int)] w (LocPost ((ts.getD t ([],[])).1++ll) w):=by
 have hb1:Below w.heap.size w (w.alloc (.cells #[m0,m1,m2,m3,m4,m5,m6,m7] 33)):=(bR _ _).alloc (nR _) _;have HK1:Hid (Wf K w (w.alloc (.cells #[m0,m1,m2,m3,m4,m5,m6,m7] 33))):=hD (.below hb1 hK);have HSG:=hD (rsig_yes K (w.alloc (.cells #[m0,m1,m2,m3,m4,m5,m6,m7] 33)) m0 m1 m2 m3 m4 m5 m6 m7 ts is fs (h0.keep HK1.out fun _ h=>h) (h1.keep HK1.out fun _ h=>h) (h2.keep HK1.out fun _ h=>h) (by omega) (is.length+d) t (.inr ⟨by omega,by omega,by rw[Nat.add_sub_cancel_left];exact hft⟩) ht);obtain⟨g2,o2,c2,rfl,_,_⟩:=Wd.some_ h2 (by omega);obtain⟨A1,c1,rfl,_,_⟩:=Wd.form h1;have klv:=hlv g2 o2 _ _ rfl;obtain⟨Al,cl,hle,_,_⟩:=hll.form;rw[hle]at klv hll;have HLL:=hD hll;have hg2:K g2:=by
  obtain⟨A,c',he,_,_,_,h9⟩:=h2;simp only[vI]at he;obtain⟨g',o',he2,hg',_⟩:=h9 (by omega);rw[← he.1]at he2;simp only[Option.some.injEq,Addr.mk.injEq]at he2;rw[he2.1];exact hg'
 have HB1:=hD hb1;have HKK:=hD hK;have HG2:=hD hg2;have HKL:=hD klv;generalize hI:is.length=ni at *;generalize hF:fs.length=nf at *;generalize ts.getD t ([],[])=tt at *;generalize hLL:ll.length=nl at *;have HNL:=hD hLL;have hni:ni≤300000:=by omega
 have hnf:nf≤300000:=by omega
 clear h0 h1 h2 hlv hll hle hg2 hb1 klv hK hft ht hI hF hLL hn;have e1:IntKind.i64.wrap (((ni+d:Nat):Int) - (ni:Int))=(d:Int):=by rw[show((ni+d:Nat):Int) - (ni:Int)=(d:Int) by omega];exact IntWalk.i64_in _ (by omega)
 have d3:decide (ni+d<ni)=false:=by simp
 obtain⟨fv,hfv⟩:∃ fv:Nat,fv=ni+d:=⟨_,rfl⟩;rw[← hfv]at HSG e1 d3 ⊢;clear hfv;go_enter Tryz.func10,Tryz.ntmps10;have bc:∀ j:Nat,(w.alloc (.cells #[m0,.slice A1 ni c1,.slice (some ⟨g2,o2,none⟩) nf c2,m3,m4,m5,m6,m7] 33)).cell? ⟨w.heap.size,j,none⟩=#[m0,.slice A1 ni c1,.slice (some ⟨g2,o2,none⟩) nf c2,m3,m4,m5,m6,m7][j]?:=fun j=>by rw[wN]
 have b0:=bc 0;have b1:=bc 1;have b2:=bc 2;have b3:=bc 3;have b4:=bc 4;have b5:=bc 5;have b6:=bc 6;have b7:=bc 7;simp only[List.getElem?_toArray,List.getElem?_cons_zero,List.getElem?_cons_succ]at b0 b1 b2 b3 b4 b5 b6 b7;have HB1c:=hD b1;have HB2c:=hD b2;clear bc;go_wp2_with fail
 go_at_call 11;refine HSG.out.mono ?_;rintro e w2 ⟨p,r,rfl,hip,hir,hbel⟩;obtain⟨Ap,cp,hpv,_,_⟩:=hip.form;obtain⟨Ar,cr,hrv,_,_⟩:=hir.form;rw[hpv]at hip ⊢;rw[hrv]at hir ⊢;generalize hP:tt.1.length=np at *;generalize hR:tt.2.length=nr at *;have HNP:=hD hP;have HIP:=hD hip;have HB2:=hD (HB1.out.trans (hbel.mono HB1.out.size));have HW0:=hD hip;clear hpv hrv hir hip;have hp3:np≤100000:=by omega
 obtain⟨W2,hW2⟩:∃ W2,W2=w2.alloc (.cells #[.slice Ap np cp,.slice Ar nr cr] 66):=⟨_,rfl⟩;have hbW:Below (w.alloc (.cells #[m0,.slice A1 ni c1,.slice (some ⟨g2,o2,none⟩) nf c2,m3,m4,m5,m6,m7] 33)).heap.size (w.alloc (.cells #[m0,.slice A1 ni c1,.slice (some ⟨g2,o2,none⟩) nf c2,m3,m4,m5,m6,m7] 33)) W2:=by rw[hW2];exact Wi hbel _
 have hlt:w.heap.size<(w.alloc (.cells #[m0,.slice A1 ni c1,.slice (some ⟨g2,o2,none⟩) nf c2,m3,m4,m5,m6,m7] 33)).heap.size:=by simp
 have HBW:=hD (Wa HB1.out hbW);have q1:W2.cell? ⟨w.heap.size,1,none⟩=some (.slice A1 ni c1):=(hbW.cell (p:=⟨w.heap.size,1,none⟩) hlt).trans b1;have q2:W2.cell? ⟨w.heap.size,2,none⟩=some (.slice (some ⟨g2,o2,none⟩) nf c2):=(hbW.cell (p:=⟨w.heap.size,2,none⟩) hlt).trans b2;have q3:W2.cell? ⟨w2.heap.size,0,none⟩=some (.slice Ap np cp):=by rw[hW2];exact wN w2 _ _ 0
 have q4:W2.cell? ⟨g2,o2+d * 3+1,none⟩=some (.slice Al nl cl):=(HBW.out.cell (p:=⟨g2,o2+d * 3+1,none⟩) (HKK.out _ HG2.out)).trans HKL.out;have HFT:Hid (∀ w1,Wf (fun k=>k<W2.heap.size) W2 w1→w1.cell? ⟨w.heap.size,1,none⟩=some (.slice A1 ni c1)∧w1.cell? ⟨w.heap.size,2,none⟩=some (.slice (some ⟨g2,o2,none⟩) nf c2)∧w1.cell? ⟨w2.heap.size,0,none⟩=some (.slice Ap np cp)∧w1.cell? ⟨g2,o2+d * 3+1,none⟩=some (.slice Al nl cl)):=fun w1 hk =>
  ⟨(hk.cell (p:=⟨w.heap.size,1,none⟩) (wL _ _ q1)).trans q1,(hk.cell (p:=⟨w.heap.size,2,none⟩) (wL _ _ q2)).trans q2,(hk.cell (p:=⟨w2.heap.size,0,none⟩) (wL _ _ q3)).trans q3,(hk.cell (p:=⟨g2,o2+d * 3+1,none⟩) (wL _ _ q4)).trans q4⟩
 have HKI:Hid (∀ (w1:World) (v:Value) (l:List Int),Wg K w v l→Wf (fun k=>k<W2.heap.size) W2 w1→Wg (fun k=>k<W2.heap.size) w1 v l):=fun w1 v l h hk=>h.keep ((Wf.below HBW.out HKK.out).trans (hk.mono fun k h=>WW (HKK.out k h) HBW.out.size)) fun k h=>WW (HKK.out k h) HBW.out.size;have HIP0:Hid (∀ w1,Wf (fun k=>k<W2.heap.size) W2 w1→VG w1 (.slice Ap np cp) np (tt.1.map (Value.int .i64))):=fun w1 hk=>by
  have h9:=(HW0.out.keep (K':=fun k=>k<W2.heap.size) ((Wf.below hbW fun k h=>WW (HKK.out k h) HB1.out.size).trans (hk.mono fun k h=>WW (HKK.out k h) HBW.out.size)) fun k h=>WW (HKK.out k h) HBW.out.size).news
  rwa [HNP.out]at h9
 have HIL:Hid (∀ w1,Wf (fun k=>k<W2.heap.size) W2 w1→VG w1 (.slice Al nl cl) nl (ll.map (Value.int .i64))):=fun w1 hk=>by
  have h9:=(HKI.out w1 _ _ HLL.out hk).news
  rwa [HNL.out]at h9
 obtain⟨qb1,qb2,qb3,qb4⟩:=HFT.out _ (Wf.alloc W2 (fun _ h=>h) (.cells #[] 3));have HNW:=hD (HIP0.out _ (Wf.alloc W2 (fun _ h=>h) (.cells #[] 3)));clear hbW hlt hbel b0 b1 b2 b3 b4 b5 b6 b7 HSG HB1 HK1 HB1c HB2c HB2;have hW2':w2.alloc (.cells #[.slice Ap np cp,.slice Ar nr cr] 66)=W2:=hW2.symm;clear hW2;have HW2:=hD hW2';clear hW2'
 go_upto_region 2 with (fail)
 rw[HW2.out];go_wp2_with fail
 go_region_held3 (fun w'=>w'.cell? ⟨w.heap.size,1,none⟩=some (.slice A1 ni c1)∧w'.cell? ⟨w.heap.size,2,none⟩=some (.slice (some ⟨g2,o2,none⟩) nf c2)∧w'.cell? ⟨w2.heap.size,0,none⟩=some (.slice Ap np cp)∧w'.cell? ⟨g2,o2+d * 3+1,none⟩=some (.slice Al nl cl))
  (first|go_keep|exact⟨qb1,qb2,qb3,qb4⟩|exact HFT.out _ hk2|exact HFT.out _ hk1)
  ((first
  | (refine Wb rfl (.tmp 22) (.tmp 24) 22 3 rfl _ 1 8 Tryz.underlying22 Tryz.infoInt rfl (by decide) (by decide) (.slice (some ⟨W2.heap.size,0,none⟩) 0 0) 0 [] (by rfl) (owns_drew (Ue W2 _)) _ np (tt.1.map (Value.int .i64)) (by rfl) (by rw[List.length_map,HNP.out,Nat.mul_one]) (news_drew HNW.out) (WP _) (by omega) ?_;intro u1 wa ho1 hga1 ha1;simp only[Nat.zero_add,List.nil_append]at ho1;have hk1:=keeps_made (grown_drew hga1);obtain⟨B1,k1,rfl⟩:=Wc ho1)
  | (refine Wb rfl (.tmp 25) (.tmp 35) 22 3 rfl _ 1 8 Tryz.underlying22 Tryz.infoInt rfl (by decide) (by decide) _ _ _ (by rfl) ho1 _ nl (ll.map (Value.int .i64)) (by rfl) (by rw[List.length_map,HNL.out,Nat.mul_one]) (HIL.out _ hk1) (WP _) (by omega) ?_;intro u2 wb ho2 hga2 ha2;have hk2:=keeps_made2 (o:=.cells #[] 3) hk1 ha1 hga2;have hat:=made_at hk1 ha1 ha2;obtain⟨B2,k2,rfl⟩:=Wc ho2)))
 all_goals
  have HO:=hD (owns_new (w:=W2) (l:=tt.1++ll) ho2 (by rw[List.length_append,HNP.out,HNL.out]) (by rw[List.map_append]) (by rw[List.length_append,HNP.out,HNL.out];omega) hat);have HB9:=hD (Wa HBW.out (hk2.to_below fun _ h=>h));clear ho1 ho2 hga1 hga2 ha1 ha2 hat hk1 hk2;go_wp2;go_ret;exact⟨_,rfl,HO.out.keep (Wf.refl _ _) (fun k hk=>⟨Nat.le_trans HBW.out.size hk.1,hk.2⟩),HB9.out⟩
theorem rloc_yes (w:World) (K:Nat→Prop) (hK:∀ k,K k→k<w.heap.size) (m0 m1 m2 m3 m4 m5 m6 m7:Value) (ts:List (List Int×List Int)) (is fs:List Int) (h0:Vo K w m0 ts) (h1:VW K w m1 3 2 is) (h2:VW K w m2 3 0 fs) (hn:ts.length+is.length+fs.length≤1000)
 (d t:Nat) (hd:d<fs.length) (hft:fs.getD d 0=(t:Int)) (ht:t<ts.length) (h3:(ts.getD t ([],[])).1.length≤3) (lv:Value) (ll:List Int) (hlv:∀ g o n c,m2=.slice (some ⟨g,o,none⟩) n c→w.cell? ⟨g,o+d * 3+1,none⟩=some lv) (hll:Wg K w lv ll) (hl100:ll.length≤100) :
 Calls Tryz.prog 10 #[.agg #[m0,m1,m2,m3,m4,m5,m6,m7],.int .i64 ((is.length+d:Nat):Int)] w (LocPost ((ts.getD t ([],[])).1++ll) w) :=
 rloc_gen w K hK m0 m1 m2 m3 m4 m5 m6 m7 ts is fs h0 h1 h2 (by omega) d t hd hft ht (by omega) lv ll hlv hll (by omega)
end Go.Proofs.YtepgopnnaeoolaaGreatDoor
