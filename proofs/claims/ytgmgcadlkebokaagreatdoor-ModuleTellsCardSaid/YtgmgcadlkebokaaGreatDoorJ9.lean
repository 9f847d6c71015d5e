/- A part of the proof. -/
import Derived.Test.YtgmgcadlkebokaaGreatDoorJ8
namespace Go.Proofs.YtgmgcadlkebokaaGreatDoor
open Go.RowKit
set_option maxHeartbeats 4000000
set_option maxRecDepth 100000
theorem bulk_any {F:Fx} {w:World} {x:St} (h:WJ F w x) (ht:Nat) (hh:ht≤x.s.length) (hm:VF x 860000) :
 Calls Tryz.prog 103 #[.pointer (some ⟨F.G,0,none⟩),.int .i64 (ht:Int)] w (GPost F w x (.tuple #[]) (fun x'=>V9 x x' ht 30)):=by
 obtain⟨A3,c3,hm3,hl3,hc3⟩:=h.reads.mems.1;obtain⟨A6,c6,hm6,hl6,hc6⟩:=h.reads.datas.1;have hnm:=h.reads.mems.2;have hnd:=h.reads.datas.2.2;have c0:=h.c0;have HC4:Hid (∀ (wy:World) (y:St),WJ F wy y→wy.cell? ⟨F.G,4,none⟩=some (.slice A3 F.nm c3)):=fun wy y hy=>by rw[hy.c4,hm3]
 have c4:=HC4.out _ _ h;have H:=hD h;have HH:=hD hh;by_cases h0:F.nm=0
 ·rw[h0]at c4;clear h hm3 hh hl3 hc3 hm6 hl6 hc6 hnd HC4 h0;go_enter Tryz.func103,Tryz.ntmps103;exact ZcG
 ·replace hnd:=hnd (by omega);rw[hnd]at hm6;have HC7:Hid (∀ (wy:World) (y:St),WJ F wy y→wy.cell? ⟨F.G,7,none⟩=some (.slice A6 2 c6)):=fun wy y hy=>by rw[hy.c7,hm6]
  clear h hm3 hh hl3 hc3 hm6 hl6 hc6 hnd;generalize F.nm=nm at *;go_enter Tryz.func103,Tryz.ntmps103;have hd0:((nm:Int)==0)=false:=by simp;omega
  go_upto_region 1 with fail
  go_cut [4,5] from 14 to 35 (fun a b wx=>∃ (r s:Nat) (y:St),a=.int .i64 (r:Int)∧b=.int .i64 (s:Int)∧r≤3∧s≤3∧Hid (WJ F wx y)∧Hid (Wt F w x wx y)∧Hid (V9 x y ht 0)∧VF y 860000)
  case first =>
   go_region_held3 (fun w'=>w'.cell? ⟨F.G,0,none⟩=some (.pointer (some ⟨F.T,0,none⟩))∧w'.cell? ⟨F.G,4,none⟩=some (.slice A3 nm c3))
    (first|go_keep|exact⟨hg2.c0,HC4.out _ _ hg2⟩|exact⟨hg1.c0,HC4.out _ _ hg1⟩)
    ((go_at_call 15;(first|((with_reducible refine(Wy hg1 nm (by omega) (by omega)).mono ?_);rintro e w2 ⟨r2,hr2,rfl,x2,hg2,hs2,hn2⟩)|((with_reducible refine(Wy H.out.drew.1 nm (by omega) (by omega)).mono ?_);rintro e w1 ⟨r1,hr1,rfl,x1,hg1,hs1,hn1⟩))))
   all_goals
    have HG2:=hD hg2;have HS2:=hD (H.out.drew.2.trans (hs1.trans hs2));have HF2:=hD ((hn1.trans hn2).fine (ht:=ht) HH.out);have hm2:=hm.num (hn1.trans hn2);clear hg1 hs1 hn1 hg2 hs2 hn2;go_wp2
    go_meet
    first
     | exact⟨r1,r2,x2,rfl,rfl,by omega,by omega,HG2,HS2,HF2,hm2⟩
     | exact⟨r2,r1,x2,rfl,rfl,by omega,by omega,HG2,HS2,HF2,hm2⟩
  case rest =>
   obtain⟨r,s,x1,rfl,rfl,hrr,hss,H1,HS1,HF1,hm1⟩:=hcut;clear c0 c4 H HC4;have c0:=H1.out.c0;go_wp2_with fail
   go_at_call 15;refine(Wy H1.out 4 (by omega) (by omega)).mono ?_;rintro e w2 ⟨r2,hr2,rfl,x2,hg2,hs2,hn2⟩;have H2:=hD hg2;have HS2:=hD (HS1.out.trans hs2);have HF2:=hD (HF1.out.trans (hn2.fine (ht:=ht) HF1.out.1));have hm2:=hm1.num hn2;have c0:=H2.out.c0;clear hg2 hs2 H1 HS1 HF1 hm1;rcases(show r2=0∨r2=1∨r2=2∨r2=3 by omega) with rfl|rfl|rfl|rfl
   case inr.inl =>
    have c0:=H2.out.c0;have c7:=HC7.out _ _ H2.out;go_wp2_with fail
    go_region_held3 (fun w'=>w'.cell? ⟨F.G,0,none⟩=some (.pointer (some ⟨F.T,0,none⟩))∧w'.cell? ⟨F.G,7,none⟩=some (.slice A6 2 c6))
     (first|go_keep|exact⟨hg4.c0,HC7.out _ _ hg4⟩|exact⟨hg3.c0,HC7.out _ _ hg3⟩)
     ((first|(go_at_call 15;refine(Wy H2.out.drew.1 2 (by omega) (by omega)).mono ?_;rintro e w3 ⟨r3,hr3,rfl,x3,hg3,hs3,hn3⟩)|(go_at_call 20;(with_reducible refine(Va hg3 _ _ _ _ ((hm2.num hn3).le (by omega))).mono ?_);rintro e w4 ⟨rfl,x4,hg4,hs4,hn4⟩)))
    replace hs4:=H2.out.drew.2.trans (hs3.trans hs4);replace hn4:=hn3.trans hn4;clear hg3 hs3 hn3 c7;have H4:=hD hg4;have HS4:=hD (HS2.out.trans hs4);have HF4:=hD (HF2.out.trans (hn4.fine (ht:=ht) HF2.out.1));have hm4:=hm2.num hn4;have c0:=H4.out.c0;clear hg4 hs4 H2 HS2 HF2 hm2;go_wp2;refine bodyPost_ret (results_none rfl _ _ _) rfl ⟨rfl,_,H4.out,HS4.out,HF4.out.le (by omega)⟩
   case inl =>
    go_wp2_with fail
    go_at_call 120;refine(near_any H2.out (hm2.le (by omega))).mono ?_;rintro e w3 ⟨rfl,x3,hg3,hs3,hn3⟩;have hz3:ht+0+1≤x3.s.length:=by rw[hn3.1];have:=HF2.out.1;omega
    have H3:=hD hg3;have HS3:=hD (HS2.out.trans hs3);have HF3:=hD (HF2.out.trans (hn3.fine (ht:=ht) HF2.out.1));have hm3:=hm2.num hn3;have c0:=H3.out.c0;clear hg3 hs3 H2 HS2 HF2 hm2;go_wp2_with fail
    go_at_call 15;refine(Wy H3.out 6 (by omega) (by omega)).mono ?_;rintro e w4 ⟨r4,hr4,rfl,x4,hg4,hs4,hn4⟩;have hz4:ht+0+1≤x4.s.length:=by rw[hn4.1];omega
    have H4:=hD hg4;have HS4:=hD (HS3.out.trans hs4);have HF4:=hD (HF3.out.trans (hn4.fine (ht:=ht) HF3.out.1));have hm4:=hm3.num hn4;have c0:=H4.out.c0;clear hg4 hs4 H3 HS3 HF3 hm3;go_wp2_with fail
    go_at_call 20;refine(Va H4.out _ _ _ _ (hm4.le (by omega))).mono ?_;rintro e w5 ⟨rfl,x5,hg5,hs5,hn5⟩;have hz5:ht+0+1≤x5.s.length:=by rw[hn5.1];omega
    have H5:=hD hg5;have HS5:=hD (HS4.out.trans hs5);have HF5:=hD (HF4.out.trans (hn5.fine (ht:=ht) HF4.out.1));have hm5:=hm4.num hn5;have c0:=H5.out.c0;clear hg5 hs5 H4 HS4 HF4 hm4;go_wp2_with fail
    go_at_call 15;refine(Wy H5.out 8 (by omega) (by omega)).mono ?_;rintro e w6 ⟨r6,hr6,rfl,x6,hg6,hs6,hn6⟩;have hz6:ht+0+1≤x6.s.length:=by rw[hn6.1];omega
    have H6:=hD hg6;have HS6:=hD (HS5.out.trans hs6);have HF6:=hD (HF5.out.trans (hn6.fine (ht:=ht) HF5.out.1));have hm6:=hm5.num hn6;have c0:=H6.out.c0;clear hg6 hs6 H5 HS5 HF5 hm5;go_wp2_with fail
    go_at_call 20;refine(Va H6.out _ _ _ _ (hm6.le (by omega))).mono ?_;rintro e w7 ⟨rfl,x7,hg7,hs7,hn7⟩;have hz7:ht+0+1≤x7.s.length:=by rw[hn7.1];omega
    have H7:=hD hg7;have HS7:=hD (HS6.out.trans hs7);have HF7:=hD (HF6.out.trans (hn7.fine (ht:=ht) HF6.out.1));have hm7:=hm6.num hn7;have c0:=H7.out.c0;clear hg7 hs7 H6 HS6 HF6 hm6;have c0:=H7.out.c0;have c7:=HC7.out _ _ H7.out;go_wp2_with fail
    go_region_held3 (fun w'=>w'.cell? ⟨F.G,0,none⟩=some (.pointer (some ⟨F.T,0,none⟩))∧w'.cell? ⟨F.G,7,none⟩=some (.slice A6 2 c6))
     (first|go_keep|exact⟨hg9.c0,HC7.out _ _ hg9⟩|exact⟨hg8.c0,HC7.out _ _ hg8⟩)
     ((first|(go_at_call 15;refine(Wy H7.out.drew.1 2 (by omega) (by omega)).mono ?_;rintro e w8 ⟨r8,hr8,rfl,x8,hg8,hs8,hn8⟩)|(go_at_call 20;(with_reducible refine(Va hg8 _ _ _ _ ((hm7.num hn8).le (by omega))).mono ?_);rintro e w9 ⟨rfl,x9,hg9,hs9,hn9⟩)))
    replace hs9:=H7.out.drew.2.trans (hs8.trans hs9);replace hn9:=hn8.trans hn9;clear hg8 hs8 hn8 c7;have hz9:ht+0+1≤x9.s.length:=by rw[hn9.1];omega
    have H9:=hD hg9;have HS9:=hD (HS7.out.trans hs9);have HF9:=hD (HF7.out.trans (hn9.fine (ht:=ht) HF7.out.1));have hm9:=hm7.num hn9;have c0:=H9.out.c0;clear hg9 hs9 H7 HS7 HF7 hm7;obtain⟨A9,c9,hv9,hc9,_⟩:=H9.out.sform;obtain⟨d9,hd9⟩:∃ d:Nat,x9.s.length=d+1:=⟨x9.s.length - 1,by omega⟩;have c12:=H9.out.c12;have f12:=H9.out.frozen 12;obtain⟨hg10,hs10⟩:=H9.out.pop (d:=d9) hv9 (by omega);obtain⟨hgd10,hsd10⟩:=hg10.drew;have hl9:(x9.s.take d9).length=d9:=by rw[List.length_take];omega
    have hf10:V9 x9 { x9 with sv:=.slice A9 d9 c9,s:=x9.s.take d9 } (ht+0) 0:=⟨by show ht+0≤(x9.s.take d9).length;omega,by show(x9.s.take d9).length+x9.c.length≤_;omega,rfl,rfl⟩;have hmm10:=hf10.most hm9;replace hs10:=hs10.trans hsd10;replace hg10:=hgd10;have hms9:=hm9.s;rw[hv9]at c12;generalize ({ x9 with sv:=.slice A9 d9 c9,s:=x9.s.take d9 }:St)=x10 at hg10 hs10 hf10 hmm10;have e10:IntKind.i64.wrap ((x9.s.length:Int) - 1)=(d9:Int):=by rw[show(x9.s.length:Int) - 1=(d9:Int) by omega];exact IntWalk.i64_in _ (by omega)
    have hdc9:d9≤c9:=by omega
    have HD9:=hD hd9;have HG10:=hD hg10;have HSS10:=hD hs10;clear hg10 hs10 hgd10 hsd10 hl9 hv9 hd9;generalize hX9:x9.s.length=X9 at *;have HX9:=hD hX9;clear hX9;go_wp2_with fail
    go_region
    have hg10:=HG10.out;have hs10:=HSS10.out;clear HG10 HSS10 c12 f12;generalize (w9.setCell ⟨F.G,12,none⟩ (.slice A9 d9 c9)).drew=w10 at hg10 hs10 ⊢;have hz10:=hf10.1;have H10:=hD hg10;have HS10:=hD (HS9.out.trans hs10);have HF10:=hD (HF9.out.trans (hf10.lower (b:=ht) (by omega)));have hm10:=hmm10;have c0:=H10.out.c0;clear hg10 hs10 H9 HS9 HF9 hm9;clear hmm10 hf10 e10;go_wp2;refine bodyPost_end (results_none rfl _ _ _) rfl ⟨rfl,_,H10.out,HS10.out,HF10.out.le (by omega)⟩
   all_goals
    go_wp2_with fail
    go_at_call 120;refine(near_any H2.out (hm2.le (by omega))).mono ?_;rintro e w3 ⟨rfl,x3,hg3,hs3,hn3⟩;have hz3:ht+0+1≤x3.s.length:=by rw[hn3.1];have:=HF2.out.1;omega
    have H3:=hD hg3;have HS3:=hD (HS2.out.trans hs3);have HF3:=hD (HF2.out.trans (hn3.fine (ht:=ht) HF2.out.1));have hm3:=hm2.num hn3;have c0:=H3.out.c0;clear hg3 hs3 H2 HS2 HF2 hm2;go_wp2_with fail
    go_at_call 120;refine(near_any H3.out (hm3.le (by omega))).mono ?_;rintro e w4 ⟨rfl,x4,hg4,hs4,hn4⟩;have hz4:ht+1+1≤x4.s.length:=by rw[hn4.1];omega
    have H4:=hD hg4;have HS4:=hD (HS3.out.trans hs4);have HF4:=hD (HF3.out.trans (hn4.fine (ht:=ht) HF3.out.1));have hm4:=hm3.num hn4;have c0:=H4.out.c0;clear hg4 hs4 H3 HS3 HF3 hm3;obtain⟨A4,c4,hv4,hc4,_⟩:=H4.out.sform;obtain⟨d4,hd4⟩:∃ d:Nat,x4.s.length=d+1:=⟨x4.s.length - 1,by omega⟩;have c12:=H4.out.c12;have f12:=H4.out.frozen 12;obtain⟨hg5,hs5⟩:=H4.out.pop (d:=d4) hv4 (by omega);obtain⟨hgd5,hsd5⟩:=hg5.drew;have hl4:(x4.s.take d4).length=d4:=by rw[List.length_take];omega
    have hf5:V9 x4 { x4 with sv:=.slice A4 d4 c4,s:=x4.s.take d4 } (ht+1) 0:=⟨by show ht+1≤(x4.s.take d4).length;omega,by show(x4.s.take d4).length+x4.c.length≤_;omega,rfl,rfl⟩;have hmm5:=hf5.most hm4;replace hs5:=hs5.trans hsd5;replace hg5:=hgd5;have hms4:=hm4.s;rw[hv4]at c12;generalize ({ x4 with sv:=.slice A4 d4 c4,s:=x4.s.take d4 }:St)=x5 at hg5 hs5 hf5 hmm5;have e5:IntKind.i64.wrap ((x4.s.length:Int) - 1)=(d4:Int):=by rw[show(x4.s.length:Int) - 1=(d4:Int) by omega];exact IntWalk.i64_in _ (by omega)
    have hdc4:d4≤c4:=by omega
    have HD4:=hD hd4;have HG5:=hD hg5;have HSS5:=hD hs5;clear hg5 hs5 hgd5 hsd5 hl4 hv4 hd4;generalize hX4:x4.s.length=X4 at *;have HX4:=hD hX4;clear hX4;go_wp2_with fail
    go_region
    have hg5:=HG5.out;have hs5:=HSS5.out;clear HG5 HSS5 c12 f12;generalize (w4.setCell ⟨F.G,12,none⟩ (.slice A4 d4 c4)).drew=w5 at hg5 hs5 ⊢;have hz5:=hf5.1;have H5:=hD hg5;have HS5:=hD (HS4.out.trans hs5);have HF5:=hD (HF4.out.trans (hf5.lower (b:=ht) (by omega)));have hm5:=hmm5;have c0:=H5.out.c0;clear hg5 hs5 H4 HS4 HF4 hm4;clear hmm5 hf5 e5;go_wp2_with fail
    go_at_call 15;refine(Wy H5.out 60 (by omega) (by omega)).mono ?_;rintro e w6 ⟨r6,hr6,rfl,x6,hg6,hs6,hn6⟩;have hz6:ht+0+1≤x6.s.length:=by rw[hn6.1];omega
    have H6:=hD hg6;have HS6:=hD (HS5.out.trans hs6);have HF6:=hD (HF5.out.trans (hn6.fine (ht:=ht) HF5.out.1));have hm6:=hm5.num hn6;have c0:=H6.out.c0;clear hg6 hs6 H5 HS5 HF5 hm5;go_wp2_with fail
    go_at_call 20;refine(Va H6.out _ _ _ _ (hm6.le (by omega))).mono ?_;rintro e w7 ⟨rfl,x7,hg7,hs7,hn7⟩;have hz7:ht+0+1≤x7.s.length:=by rw[hn7.1];omega
    have H7:=hD hg7;have HS7:=hD (HS6.out.trans hs7);have HF7:=hD (HF6.out.trans (hn7.fine (ht:=ht) HF6.out.1));have hm7:=hm6.num hn7;have c0:=H7.out.c0;clear hg7 hs7 H6 HS6 HF6 hm6;go_wp2_with fail
    go_at_call 20;refine(Va H7.out _ _ _ _ (hm7.le (by omega))).mono ?_;rintro e w8 ⟨rfl,x8,hg8,hs8,hn8⟩;have hz8:ht+0+1≤x8.s.length:=by rw[hn8.1];omega
    have H8:=hD hg8;have HS8:=hD (HS7.out.trans hs8);have HF8:=hD (HF7.out.trans (hn8.fine (ht:=ht) HF7.out.1));have hm8:=hm7.num hn8;have c0:=H8.out.c0;clear hg8 hs8 H7 HS7 HF7 hm7;obtain⟨A8,c8,hv8,hc8,_⟩:=H8.out.sform;obtain⟨d8,hd8⟩:∃ d:Nat,x8.s.length=d+1:=⟨x8.s.length - 1,by omega⟩;have c12:=H8.out.c12;have f12:=H8.out.frozen 12;obtain⟨hg9,hs9⟩:=H8.out.pop (d:=d8) hv8 (by omega);obtain⟨hgd9,hsd9⟩:=hg9.drew;have hl8:(x8.s.take d8).length=d8:=by rw[List.length_take];omega
    have hf9:V9 x8 { x8 with sv:=.slice A8 d8 c8,s:=x8.s.take d8 } (ht+0) 0:=⟨by show ht+0≤(x8.s.take d8).length;omega,by show(x8.s.take d8).length+x8.c.length≤_;omega,rfl,rfl⟩;have hmm9:=hf9.most hm8;replace hs9:=hs9.trans hsd9;replace hg9:=hgd9;have hms8:=hm8.s;rw[hv8]at c12;generalize ({ x8 with sv:=.slice A8 d8 c8,s:=x8.s.take d8 }:St)=x9 at hg9 hs9 hf9 hmm9;have e9:IntKind.i64.wrap ((x8.s.length:Int) - 1)=(d8:Int):=by rw[show(x8.s.length:Int) - 1=(d8:Int) by omega];exact IntWalk.i64_in _ (by omega)
    have hdc8:d8≤c8:=by omega
    have HD8:=hD hd8;have HG9:=hD hg9;have HSS9:=hD hs9;clear hg9 hs9 hgd9 hsd9 hl8 hv8 hd8;generalize hX8:x8.s.length=X8 at *;have HX8:=hD hX8;clear hX8;go_wp2_with fail
    go_region
    have hg9:=HG9.out;have hs9:=HSS9.out;clear HG9 HSS9 c12 f12;generalize (w8.setCell ⟨F.G,12,none⟩ (.slice A8 d8 c8)).drew=w9 at hg9 hs9 ⊢;have hz9:=hf9.1;have H9:=hD hg9;have HS9:=hD (HS8.out.trans hs9);have HF9:=hD (HF8.out.trans (hf9.lower (b:=ht) (by omega)));have hm9:=hmm9;have c0:=H9.out.c0;clear hg9 hs9 H8 HS8 HF8 hm8;clear hmm9 hf9 e9;go_wp2;refine bodyPost_end (results_none rfl _ _ _) rfl ⟨rfl,_,H9.out,HS9.out,HF9.out.le (by omega)⟩
end Go.Proofs.YtgmgcadlkebokaaGreatDoor
