/- A part of the proof. -/
import Derived.Test.YtgmgcadlkebokaaGreatDoorJ4
import Derived.Test.YtgmgcadlkebokaaGreatDoorJ7
namespace Go.Proofs.YtgmgcadlkebokaaGreatDoor
open Go.RowKit
set_option maxHeartbeats 2000000
set_option maxRecDepth 100000
theorem Zcp {P:Prop}(h:P:=by
 obtain⟨z1,z2,z3,z4⟩:=HZ8.out;refine bodyPost_end (results_none rfl _ _ _) rfl ⟨rfl,_,HG8.out,HS8.out,by omega,by omega,z3.trans f3,z4.trans f4⟩):P:=h
theorem ZcG {P:Prop}(h:P:=by
 go_wp2;refine bodyPost_ret (results_none rfl _ _ _) rfl ⟨rfl,_,H.out,Wt.refl _ _ _,(V9.refl HH.out).le (by omega)⟩):P:=h
theorem lit_at (l:List Int) (r:Nat) (h:r<l.length):(l.map (Value.int .i64)).toArray[r]?=some (.int .i64 (l.getD r 0)):=by simp[h]
theorem getD_mem (l:List Int) (r:Nat) (d:Int) (h:r<l.length):l.getD r d ∈ l:=by
 rw[List.getD_eq_getElem?_getD,List.getElem?_eq_getElem h];exact List.getElem_mem h
theorem lit23 (r:Nat) (hr:r<23):∃ v:Int,#[Value.int .i64 40,.int .i64 41,.int .i64 43,.int .i64 44,.int .i64 45,.int .i64 46,.int .i64 47,.int .i64 48,.int .i64 49,.int .i64 50,.int .i64 51,.int .i64 52,.int .i64 53,.int .i64 54,.int .i64 55,.int .i64 57,.int .i64 58,.int .i64 59,.int .i64 60,.int .i64 61,.int .i64 62,.int .i64 63,.int .i64 64][r]?=some (.int .i64 v)∧plain v∧∀ a n:Int,0≤a→a≤3→0≤n→n≤4294967295→v≠63→v≠64→okB v a 0 n []=true :=
 ⟨_,lit_at [40,41,43,44,45,46,47,48,49,50,51,52,53,54,55,57,58,59,60,61,62,63,64] r hr,plain_of (by
  have hall:∀ v ∈ ([40,41,43,44,45,46,47,48,49,50,51,52,53,54,55,57,58,59,60,61,62,63,64]:List Int),40≤v:=by decide
  have:=hall _ (getD_mem _ r 0 hr);omega),fun a n h1 h2 h3 h4 h5 h6=>by
  have hall:∀ v ∈ ([40,41,43,44,45,46,47,48,49,50,51,52,53,54,55,57,58,59,60,61,62,63,64]:List Int),v≠63→v≠64→WY v=true∧Wl v=(0,3,0,4294967295,0,0):=by decide +kernel
  obtain⟨k1,k2⟩:=hall _ (getD_mem _ r 0 hr) h5 h6;exact ok_i 0 3 0 4294967295 k1 k2 h1 h2 (by omega) (by omega) h3 h4⟩
theorem store_any (op:Int) (w:World):Calls Tryz.prog 119 #[.int .i64 op] w fun e w'=>e=.returned (.bool (decide (54≤op) && decide (op≤62)))∧w'=w:=by
 go_enter Tryz.func119,Tryz.ntmps119;go_wp2
 all_goals go_ret
 all_goals exact⟨WA (by simp;omega),rfl⟩
theorem WJ.lit {F:Fx} {w:World} {x:St} (h:WJ F w x) (l:List Int) (t:TypeId) (hl:l.length≤1000):Wh (Ug F (w.alloc (.cells (l.map (Value.int .i64)).toArray t)) x) (w.alloc (.cells (l.map (Value.int .i64)).toArray t)) (.slice (some ⟨w.heap.size,0,none⟩) l.length l.length) l :=
 ⟨_,_,rfl,by unfold maxLen;omega,(fun h=>by cases h),fun _=>⟨w.heap.size,0,rfl,⟨by simp,h.new_free (nR _)⟩,fun j hj=>by rw[Nat.zero_add,wN];simp[hj]⟩⟩
theorem memory_any {F:Fx} {w:World} {x:St} (h:WJ F w x) (ht:Nat) (hh:ht≤x.s.length) (hm:VF x 860000) :
 Calls Tryz.prog 102 #[.pointer (some ⟨F.G,0,none⟩),.int .i64 (ht:Int)] w (GPost F w x (.tuple #[]) (fun x'=>V9 x x' ht 20)):=by
 obtain⟨A3,c3,hm3,hl3,hc3⟩:=h.reads.mems.1;have hnm:=h.reads.mems.2;have c0:=h.c0;have HC4:Hid (∀ (wy:World) (y:St),WJ F wy y→wy.cell? ⟨F.G,4,none⟩=some (.slice A3 F.nm c3)):=fun wy y hy=>by rw[hy.c4,hm3]
 have c4:=HC4.out _ _ h;have H:=hD h;have HH:=hD hh;clear h hm3 hh hl3 hc3;generalize F.nm=nm at *;go_enter Tryz.func102,Tryz.ntmps102;by_cases h0:nm=0
 ·subst h0;exact ZcG
 ·have hd0:((nm:Int)==0)=false:=by simp;omega
  go_wp2_with fail
  go_region_held3 (fun w'=>w'.cell? ⟨F.G,0,none⟩=some (.pointer (some ⟨F.T,0,none⟩))∧w'.cell? ⟨F.G,4,none⟩=some (.slice A3 nm c3))
   (first|go_keep|exact⟨hg1.c0,HC4.out _ _ hg1⟩)
   ((go_at_call 15;refine(Wy H.out.drew.1 nm (by omega) (by omega)).mono ?_;rintro e w1 ⟨r1,hr1,rfl,x1,hg1,hs1,hn1⟩))
  have H1:=hD hg1;have HS1:=hD (H.out.drew.2.trans hs1);have HF1:=hD (hn1.fine (ht:=ht) HH.out);have hm1:=hm.num hn1;have hal:=fun o=>(hg1.alloc o).1.c0;clear hg1 hs1 hn1 c0 c4 H;go_wp2_with fail
  go_at_call 15;refine(Wy (x:=x1) (H1.out.alloc _).1 23 (by omega) (by omega)).mono ?_;rintro e w2 ⟨r2,hr2,rfl,x2,hg2,hs2,hn2⟩;obtain⟨v,hv,hpl,hok⟩:=lit23 r2 hr2;have HPL:=hD hpl;have HOK:=hD hok;clear hpl hok;have hcv:=(H1.out.new_cell _ _ hs2 r2).trans hv;have H2:=hD hg2;have HS2:=hD (HS1.out.trans ((H1.out.alloc _).2.trans hs2));have HF2:=hD (HF1.out.trans (hn2.fine (ht:=ht) HF1.out.1));have hm2:=hm1.num hn2;have HACC:=hD (fun w=>Wr v w);generalize VV v=acc at HACC;obtain⟨a1,a2,a3,a4⟩:=acc;clear hg2 hs2 hn2 hv hal H1 HS1 HF1 hm1;go_wp2_with fail
  go_at_call 85;refine(HACC.out _).mono ?_;rintro e w' ⟨rfl,rfl⟩;have c0:=H2.out.c0;by_cases h63:v=63
  ·subst h63;go_wp2_with fail
   go_at_call 20;refine(Va H2.out _ _ _ _ (hm2.le (by omega))).mono ?_;rintro e w3 ⟨rfl,x3,hg3,hs3,hn3⟩;have H3:=hD hg3;have HS3:=hD (HS2.out.trans hs3);have HF3:=hD (HF2.out.trans (hn3.fine (ht:=ht) HF2.out.1));have hm3:=hm2.num hn3;have c0:=H3.out.c0;clear hg3 hs3 H2 HS2 HF2 hm2;have hmk3:=hm3.s;have c12:=H3.out.c12;have c12b:=(H3.out.pushf (.cells #[.int .i64 127] 3)).1;go_wp2_with (at_builtin;refine Wm rfl (.tmp 75) (.tmp 76) 22 3 rfl _ 1 8 Tryz.underlying22 Tryz.infoInt rfl (by decide) (by decide) x3.sv x3.s.length (x3.s.map (Value.int .i64)) (by rfl) (H3.out.so.alloc _) _ 1 [.int .i64 127] (by rfl) (by rfl) (Vq w3 _ _ 1 1) (WV [127]) (by omega) ?_;intro v' w' hown hgr hat;obtain⟨e12,f12⟩:=(H3.out.pushf _).2 w' hgr;obtain⟨A',c',rfl⟩:=Wd hown)
   have hgs:=H3.out.pushS _ hgr 127 _ hown hat;clear hgr hown hat e12 f12 c12 c12b;have HGS:=hD hgs;clear hgs;try go_wp2
   refine bodyPost_end (results_none rfl _ _ _) rfl ⟨rfl,_,HGS.out.1,HS3.out.trans HGS.out.2,?_⟩;obtain⟨f1,f2,f3,f4⟩:=HF3.out;exact⟨by show _≤(x3.s++[_]).length;rw[List.length_append];omega,by show(x3.s++[_]).length+x3.c.length≤_;rw[List.length_append];simp only[List.length_singleton];omega,f3,f4⟩
  ·have hd63:(v==63)=false:=by simpa using h63
   by_cases h64:v=64
   ·subst h64;go_wp2_with fail
    go_at_call 15;refine(Wy H2.out 3 (by omega) (by omega)).mono ?_;rintro e w3 ⟨r3,hr3,rfl,x3,hg3,hs3,hn3⟩;have H3:=hD hg3;have HS3:=hD (HS2.out.trans hs3);have HF3:=hD (HF2.out.trans (hn3.fine (ht:=ht) HF2.out.1));have hm3:=hm2.num hn3;have c0:=H3.out.c0;clear hg3 hs3 H2 HS2 HF2 hm2;go_wp2_with fail
    go_at_call 20;refine(Va H3.out _ _ _ _ (hm3.le (by omega))).mono ?_;rintro e w4 ⟨rfl,x4,hg4,hs4,hn4⟩;have H4:=hD hg4;have HS4:=hD (HS3.out.trans hs4);have HF4:=hD (HF3.out.trans (hn4.fine (ht:=ht) HF3.out.1));have hm4:=hm3.num hn4;have c0:=H4.out.c0;clear hg4 hs4 H3 HS3 HF3 hm3;go_wp2_with fail
    go_at_call 20;refine(Va H4.out _ _ _ _ (hm4.le (by omega))).mono ?_;rintro e w5 ⟨rfl,x5,hg5,hs5,hn5⟩;have H5:=hD hg5;have HS5:=hD (HS4.out.trans hs5);have HF5:=hD (HF4.out.trans (hn5.fine (ht:=ht) HF4.out.1));have hm5:=hm4.num hn5;have c0:=H5.out.c0;clear hg5 hs5 H4 HS4 HF4 hm4;have hmk5:=hm5.s;have c12:=H5.out.c12;have c12b:=(H5.out.pushf (.cells #[.int .i64 127] 3)).1;go_wp2_with (at_builtin;refine Wm rfl (.tmp 101) (.tmp 102) 22 3 rfl _ 1 8 Tryz.underlying22 Tryz.infoInt rfl (by decide) (by decide) x5.sv x5.s.length (x5.s.map (Value.int .i64)) (by rfl) (H5.out.so.alloc _) _ 1 [.int .i64 127] (by rfl) (by rfl) (Vq w5 _ _ 1 1) (WV [127]) (by omega) ?_;intro v' w' hown hgr hat;obtain⟨e12,f12⟩:=(H5.out.pushf _).2 w' hgr;obtain⟨A',c',rfl⟩:=Wd hown)
    have hgs:=H5.out.pushS _ hgr 127 _ hown hat;clear hgr hown hat e12 f12 c12 c12b;have HGS:=hD hgs;clear hgs;try go_wp2
    refine bodyPost_end (results_none rfl _ _ _) rfl ⟨rfl,_,HGS.out.1,HS5.out.trans HGS.out.2,?_⟩;obtain⟨f1,f2,f3,f4⟩:=HF5.out;exact⟨by show _≤(x5.s++[_]).length;rw[List.length_append];omega,by show(x5.s++[_]).length+x5.c.length≤_;rw[List.length_append];simp only[List.length_singleton];omega,f3,f4⟩
   ·have hd64:(v==64)=false:=by simpa using h64
    have HST:=hD (fun w=>store_any v w);generalize (decide (54≤v) && decide (v≤62))=sb at HST;cases sb
    case' true =>
     go_wp2_with fail
     go_at_call 119;refine(HST.out _).mono ?_;rintro e w' ⟨rfl,rfl⟩;go_wp2_with fail
     go_at_call 120;refine(near_any H2.out (hm2.le (by omega))).mono ?_;rintro e w3 ⟨rfl,x3,hg3,hs3,hn3⟩;have hz3:ht+1≤x3.s.length:=by rw[hn3.1];have:=HF2.out.1;omega
     have H3:=hD hg3;have HS3:=hD (HS2.out.trans hs3);have HF3:=hD (HF2.out.trans (hn3.fine (ht:=ht) HF2.out.1));have hm3:=hm2.num hn3;have c0:=H3.out.c0;clear hg3 hs3 H2 HS2 HF2 hm2;go_wp2_with fail
     go_at_call 63;refine(value_any H3.out a2 (hm3.le (by omega))).mono ?_;rintro e w4 ⟨rfl,x4,hg4,hs4,hn4⟩;have hz4:ht+2≤x4.s.length:=by rw[hn4.1];omega
     have H4:=hD hg4;have HS4:=hD (HS3.out.trans hs4);have HF4:=hD (HF3.out.trans (hn4.fine (ht:=ht) HF3.out.1));have hm4:=hm3.num hn4;have c0:=H4.out.c0;clear hg4 hs4 H3 HS3 HF3 hm3;go_wp2_with fail
     go_at_call 15;refine(Wy H4.out 20 (by omega) (by omega)).mono ?_;rintro e w5 ⟨r5,hr5,rfl,x5,hg5,hs5,hn5⟩;have hz5:ht+2≤x5.s.length:=by rw[hn5.1];omega
     have H5:=hD hg5;have HS5:=hD (HS4.out.trans hs5);have HF5:=hD (HF4.out.trans (hn5.fine (ht:=ht) HF4.out.1));have hm5:=hm4.num hn5;have c0:=H5.out.c0;clear hg5 hs5 H4 HS4 HF4 hm4;go_wp2_with fail
     go_at_call 20;refine(Va H5.out _ _ _ _ (hm5.le (by omega)) HPL.out (HOK.out _ _ (by omega) (by omega) (by omega) (by omega) h63 h64)).mono ?_;rintro e w6 ⟨rfl,x6,hg6,hs6,hn6⟩;have hz6:ht+2≤x6.s.length:=by rw[hn6.1];omega
     have H6:=hD hg6;have HS6:=hD (HS5.out.trans hs6);have HF6:=hD (HF5.out.trans (hn6.fine (ht:=ht) HF5.out.1));have hm6:=hm5.num hn6;have c0:=H6.out.c0;clear hg6 hs6 H5 HS5 HF5 hm5;have hli:=H6.out.lit [127,a2] 3 (by simp);obtain⟨hg7,hs7⟩:=H6.out.alloc (.cells ([127,a2].map (Value.int .i64)).toArray 3);go_wp2_with fail
     go_at_call 101;refine(swap_any hg7 _ _ [127,a2] [] hli (Wh.nil _ _) (by show 2≤_;omega) (by simp) (hm6.le (by omega))).mono ?_;rintro e w8 ⟨rfl,x8,hg8,hs8,z1,z2,z3,z4⟩;have HS8:=hD (HS6.out.trans (hs7.trans hs8));have HG8:=hD hg8;clear hli hg7 hs7 hg8 hs8 c0;have HZ8:Hid (x8.s.length+2=x6.s.length∧x8.c.length=x6.c.length∧x8.nl=x6.nl∧x8.left=x6.left):=⟨z1,z2,z3,z4⟩;clear z1 z2 z3 z4;go_wp2;obtain⟨f1,f2,f3,f4⟩:=HF6.out;exact Zcp
    case' false =>
     go_wp2_with fail
     go_at_call 119;refine(HST.out _).mono ?_;rintro e w' ⟨rfl,rfl⟩;go_wp2_with fail
     go_at_call 120;refine(near_any H2.out (hm2.le (by omega))).mono ?_;rintro e w3 ⟨rfl,x3,hg3,hs3,hn3⟩;have hz3:ht+1≤x3.s.length:=by rw[hn3.1];have:=HF2.out.1;omega
     have H3:=hD hg3;have HS3:=hD (HS2.out.trans hs3);have HF3:=hD (HF2.out.trans (hn3.fine (ht:=ht) HF2.out.1));have hm3:=hm2.num hn3;have c0:=H3.out.c0;clear hg3 hs3 H2 HS2 HF2 hm2;go_wp2_with fail
     go_at_call 15;refine(Wy H3.out 20 (by omega) (by omega)).mono ?_;rintro e w4 ⟨r4,hr4,rfl,x4,hg4,hs4,hn4⟩;have hz4:ht+1≤x4.s.length:=by rw[hn4.1];omega
     have H4:=hD hg4;have HS4:=hD (HS3.out.trans hs4);have HF4:=hD (HF3.out.trans (hn4.fine (ht:=ht) HF3.out.1));have hm4:=hm3.num hn4;have c0:=H4.out.c0;clear hg4 hs4 H3 HS3 HF3 hm3;go_wp2_with fail
     go_at_call 20;refine(Va H4.out _ _ _ _ (hm4.le (by omega)) HPL.out (HOK.out _ _ (by omega) (by omega) (by omega) (by omega) h63 h64)).mono ?_;rintro e w5 ⟨rfl,x5,hg5,hs5,hn5⟩;have hz5:ht+1≤x5.s.length:=by rw[hn5.1];omega
     have H5:=hD hg5;have HS5:=hD (HS4.out.trans hs5);have HF5:=hD (HF4.out.trans (hn5.fine (ht:=ht) HF4.out.1));have hm5:=hm4.num hn5;have c0:=H5.out.c0;clear hg5 hs5 H4 HS4 HF4 hm4;have hli:=H5.out.lit [127] 3 (by simp);obtain⟨hg6,hs6⟩:=H5.out.alloc (.cells ([127].map (Value.int .i64)).toArray 3);have hlj:=hg6.lit [a2] 3 (by simp);rw[show(w5.alloc (.cells ([127].map (Value.int .i64)).toArray 3)).heap.size=w5.heap.size+1 by simp]at hlj;obtain⟨hg7,hs7⟩:=hg6.alloc (.cells ([a2].map (Value.int .i64)).toArray 3);go_wp2_with fail
     go_at_call 101;refine(swap_any hg7 _ _ [127] [a2] (hs7.ints hli) hlj (by show 1≤_;omega) (by simp) (hm5.le (by omega))).mono ?_;rintro e w8 ⟨rfl,x8,hg8,hs8,z1,z2,z3,z4⟩;have HS8:=hD (HS5.out.trans (hs6.trans (hs7.trans hs8)));have HG8:=hD hg8;clear hli hlj hg6 hs6 hg7 hs7 hg8 hs8 c0;have HZ8:Hid (x8.s.length+1=x5.s.length+1∧x8.c.length=x5.c.length∧x8.nl=x5.nl∧x8.left=x5.left):=⟨z1,z2,z3,z4⟩;clear z1 z2 z3 z4;go_wp2;obtain⟨f1,f2,f3,f4⟩:=HF5.out;exact Zcp
end Go.Proofs.YtgmgcadlkebokaaGreatDoor
