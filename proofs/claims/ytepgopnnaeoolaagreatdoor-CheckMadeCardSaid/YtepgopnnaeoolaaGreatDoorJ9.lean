/- A part of the proof. -/
import Derived.Test.YtepgopnnaeoolaaGreatDoorJ8
namespace Go.Proofs.YtepgopnnaeoolaaGreatDoor
section
open Go.RowKit
set_option maxHeartbeats 4000000
set_option maxRecDepth 100000
theorem bulk_any {F:Fx} {w:World} {x:St} (h:WD F w x) (ht:Nat) (hh:ht≤x.s.length) (hm:Vs x 860000) :
 Calls Tryz.prog 50 #[.pointer (some ⟨F.G,0,none⟩),.int .i64 (ht:Int)] w (GPost F w x (.tuple #[]) (fun x'=>V3 x x' ht 30)):=by
 obtain⟨A3,c3,hm3,hl3,hc3⟩:=h.reads.mems.1;obtain⟨A6,c6,hm6,hl6,hc6⟩:=h.reads.datas.1;have hnm:=h.reads.mems.2;have hnd:=h.reads.datas.2.2;have c0:=h.c0;have HC4:Hid (∀ (wy:World) (y:St),WD F wy y→wy.cell? ⟨F.G,4,none⟩=some (.slice A3 F.nm c3)):=fun wy y hy=>by rw[hy.c4,hm3]
 have c4:=HC4.out _ _ h;have H:=hD h;have HH:=hD hh;by_cases h0:F.nm=0
 ·rw[h0]at c4;clear h hm3 hh hl3 hc3 hm6 hl6 hc6 hnd HC4 h0;go_enter Tryz.func50,Tryz.ntmps50;exact ZbV
 ·replace hnd:=hnd (by omega);rw[hnd]at hm6;have HC7:Hid (∀ (wy:World) (y:St),WD F wy y→wy.cell? ⟨F.G,7,none⟩=some (.slice A6 2 c6)):=fun wy y hy=>by rw[hy.c7,hm6]
  clear h hm3 hh hl3 hc3 hm6 hl6 hc6 hnd;generalize F.nm=nm at *;go_enter Tryz.func50,Tryz.ntmps50;have hd0:((nm:Int)==0)=false:=by simp;omega
  go_upto_region 1 with fail
  go_cut [4,5] from 14 to 35 (fun a b wx=>∃ (r s:Nat) (y:St),a=.int .i64 (r:Int)∧b=.int .i64 (s:Int)∧r≤3∧s≤3∧Hid (WD F wx y)∧Hid (Wv F w x wx y)∧Hid (V3 x y ht 0)∧Vs y 860000)
  case first =>
   go_region_held3 (fun w'=>w'.cell? ⟨F.G,0,none⟩=some (.pointer (some ⟨F.T,0,none⟩))∧w'.cell? ⟨F.G,4,none⟩=some (.slice A3 nm c3))
    (first|go_keep|exact⟨hg2.c0,HC4.out _ _ hg2⟩|exact⟨hg1.c0,HC4.out _ _ hg1⟩)
    ((go_at_call 9;(first|((with_reducible refine(WA hg1 nm (by omega) (by omega)).mono ?_);rintro e w2 ⟨r2,hr2,rfl,x2,hg2,hs2,hn2⟩)|((with_reducible refine(WA H.out.drew.1 nm (by omega) (by omega)).mono ?_);rintro e w1 ⟨r1,hr1,rfl,x1,hg1,hs1,hn1⟩))))
   all_goals
    have HG2:=hD hg2;have HS2:=hD (H.out.drew.2.trans (hs1.trans hs2));have HF2:=hD ((hn1.trans hn2).fine (ht:=ht) HH.out);have hm2:=hm.num (hn1.trans hn2);clear hg1 hs1 hn1 hg2 hs2 hn2;go_wp2
    go_meet
    first
     | exact⟨r1,r2,x2,rfl,rfl,by omega,by omega,HG2,HS2,HF2,hm2⟩
     | exact⟨r2,r1,x2,rfl,rfl,by omega,by omega,HG2,HS2,HF2,hm2⟩
  case rest =>
   obtain⟨r,s,x1,rfl,rfl,hrr,hss,H1,HS1,HF1,hm1⟩:=hcut;clear c0 c4 H HC4;have c0:=H1.out.c0;go_wp2_with fail
   go_at_call 9;refine(WA H1.out 4 (by omega) (by omega)).mono ?_;rintro e w2 ⟨r2,hr2,rfl,x2,hg2,hs2,hn2⟩;have H2:=hD hg2;have HS2:=hD (HS1.out.trans hs2);have HF2:=hD (HF1.out.trans (hn2.fine (ht:=ht) HF1.out.1));have hm2:=hm1.num hn2;have c0:=H2.out.c0;clear hg2 hs2 H1 HS1 HF1 hm1;rcases(show r2=0∨r2=1∨r2=2∨r2=3 by omega) with rfl|rfl|rfl|rfl
   case inr.inl =>
    have c0:=H2.out.c0;have c7:=HC7.out _ _ H2.out;go_wp2_with fail
    go_region_held3 (fun w'=>w'.cell? ⟨F.G,0,none⟩=some (.pointer (some ⟨F.T,0,none⟩))∧w'.cell? ⟨F.G,7,none⟩=some (.slice A6 2 c6))
     (first|go_keep|exact⟨hg4.c0,HC7.out _ _ hg4⟩|exact⟨hg3.c0,HC7.out _ _ hg3⟩)
     ((first|(go_at_call 9;refine(WA H2.out.drew.1 2 (by omega) (by omega)).mono ?_;rintro e w3 ⟨r3,hr3,rfl,x3,hg3,hs3,hn3⟩)|(go_at_call 14;(with_reducible refine(WU hg3 _ _ _ _ ((hm2.num hn3).le (by omega))).mono ?_);rintro e w4 ⟨rfl,x4,hg4,hs4,hn4⟩)))
    replace hs4:=H2.out.drew.2.trans (hs3.trans hs4);replace hn4:=hn3.trans hn4;clear hg3 hs3 hn3 c7;have H4:=hD hg4;have HS4:=hD (HS2.out.trans hs4);have HF4:=hD (HF2.out.trans (hn4.fine (ht:=ht) HF2.out.1));have hm4:=hm2.num hn4;have c0:=H4.out.c0;clear hg4 hs4 H2 HS2 HF2 hm2;go_wp2;refine bodyPost_ret (results_none rfl _ _ _) rfl ⟨rfl,_,H4.out,HS4.out,HF4.out.le (by omega)⟩
   case inl =>
    go_wp2_with fail
    go_at_call 76;refine(near_any H2.out (hm2.le (by omega))).mono ?_;rintro e w3 ⟨rfl,x3,hg3,hs3,hn3⟩;have hz3:ht+0+1≤x3.s.length:=by rw[hn3.1];have:=HF2.out.1;omega
    have H3:=hD hg3;have HS3:=hD (HS2.out.trans hs3);have HF3:=hD (HF2.out.trans (hn3.fine (ht:=ht) HF2.out.1));have hm3:=hm2.num hn3;have c0:=H3.out.c0;clear hg3 hs3 H2 HS2 HF2 hm2;go_wp2_with fail
    go_at_call 9;refine(WA H3.out 6 (by omega) (by omega)).mono ?_;rintro e w4 ⟨r4,hr4,rfl,x4,hg4,hs4,hn4⟩;have hz4:ht+0+1≤x4.s.length:=by rw[hn4.1];omega
    have H4:=hD hg4;have HS4:=hD (HS3.out.trans hs4);have HF4:=hD (HF3.out.trans (hn4.fine (ht:=ht) HF3.out.1));have hm4:=hm3.num hn4;have c0:=H4.out.c0;clear hg4 hs4 H3 HS3 HF3 hm3;go_wp2_with fail
    go_at_call 14;refine(WU H4.out _ _ _ _ (hm4.le (by omega))).mono ?_;rintro e w5 ⟨rfl,x5,hg5,hs5,hn5⟩;have hz5:ht+0+1≤x5.s.length:=by rw[hn5.1];omega
    have H5:=hD hg5;have HS5:=hD (HS4.out.trans hs5);have HF5:=hD (HF4.out.trans (hn5.fine (ht:=ht) HF4.out.1));have hm5:=hm4.num hn5;have c0:=H5.out.c0;clear hg5 hs5 H4 HS4 HF4 hm4;go_wp2_with fail
    go_at_call 9;refine(WA H5.out 8 (by omega) (by omega)).mono ?_;rintro e w6 ⟨r6,hr6,rfl,x6,hg6,hs6,hn6⟩;have hz6:ht+0+1≤x6.s.length:=by rw[hn6.1];omega
    have H6:=hD hg6;have HS6:=hD (HS5.out.trans hs6);have HF6:=hD (HF5.out.trans (hn6.fine (ht:=ht) HF5.out.1));have hm6:=hm5.num hn6;have c0:=H6.out.c0;clear hg6 hs6 H5 HS5 HF5 hm5;go_wp2_with fail
    go_at_call 14;refine(WU H6.out _ _ _ _ (hm6.le (by omega))).mono ?_;rintro e w7 ⟨rfl,x7,hg7,hs7,hn7⟩;have hz7:ht+0+1≤x7.s.length:=by rw[hn7.1];omega
    have H7:=hD hg7;have HS7:=hD (HS6.out.trans hs7);have HF7:=hD (HF6.out.trans (hn7.fine (ht:=ht) HF6.out.1));have hm7:=hm6.num hn7;have c0:=H7.out.c0;clear hg7 hs7 H6 HS6 HF6 hm6;have c0:=H7.out.c0;have c7:=HC7.out _ _ H7.out;go_wp2_with fail
    go_region_held3 (fun w'=>w'.cell? ⟨F.G,0,none⟩=some (.pointer (some ⟨F.T,0,none⟩))∧w'.cell? ⟨F.G,7,none⟩=some (.slice A6 2 c6))
     (first|go_keep|exact⟨hg9.c0,HC7.out _ _ hg9⟩|exact⟨hg8.c0,HC7.out _ _ hg8⟩)
     ((first|(go_at_call 9;refine(WA H7.out.drew.1 2 (by omega) (by omega)).mono ?_;rintro e w8 ⟨r8,hr8,rfl,x8,hg8,hs8,hn8⟩)|(go_at_call 14;(with_reducible refine(WU hg8 _ _ _ _ ((hm7.num hn8).le (by omega))).mono ?_);rintro e w9 ⟨rfl,x9,hg9,hs9,hn9⟩)))
    replace hs9:=H7.out.drew.2.trans (hs8.trans hs9);replace hn9:=hn8.trans hn9;clear hg8 hs8 hn8 c7;have hz9:ht+0+1≤x9.s.length:=by rw[hn9.1];omega
    have H9:=hD hg9;have HS9:=hD (HS7.out.trans hs9);have HF9:=hD (HF7.out.trans (hn9.fine (ht:=ht) HF7.out.1));have hm9:=hm7.num hn9;have c0:=H9.out.c0;clear hg9 hs9 H7 HS7 HF7 hm7;obtain⟨A9,c9,hv9,hc9,_⟩:=H9.out.sform;obtain⟨d9,hd9⟩:∃ d:Nat,x9.s.length=d+1:=⟨x9.s.length - 1,by omega⟩;have c12:=H9.out.c12;have f12:=H9.out.frozen 12;obtain⟨hg10,hs10⟩:=H9.out.pop (d:=d9) hv9 (by omega);obtain⟨hgd10,hsd10⟩:=hg10.drew;have hl9:(x9.s.take d9).length=d9:=by rw[List.length_take];omega
    have hf10:V3 x9 { x9 with sv:=.slice A9 d9 c9,s:=x9.s.take d9 } (ht+0) 0:=⟨by show ht+0≤(x9.s.take d9).length;omega,by show(x9.s.take d9).length+x9.c.length≤_;omega,rfl,rfl⟩;have hmm10:=hf10.most hm9;replace hs10:=hs10.trans hsd10;replace hg10:=hgd10;have hms9:=hm9.s;rw[hv9]at c12;generalize ({ x9 with sv:=.slice A9 d9 c9,s:=x9.s.take d9 }:St)=x10 at hg10 hs10 hf10 hmm10;have e10:IntKind.i64.wrap ((x9.s.length:Int) - 1)=(d9:Int):=by rw[show(x9.s.length:Int) - 1=(d9:Int) by omega];exact IntWalk.i64_in _ (by omega)
    have hdc9:d9≤c9:=by omega
    have HD9:=hD hd9;have HG10:=hD hg10;have HSS10:=hD hs10;clear hg10 hs10 hgd10 hsd10 hl9 hv9 hd9;generalize hX9:x9.s.length=X9 at *;have HX9:=hD hX9;clear hX9;go_wp2_with fail
    go_region
    have hg10:=HG10.out;have hs10:=HSS10.out;clear HG10 HSS10 c12 f12;generalize (w9.setCell ⟨F.G,12,none⟩ (.slice A9 d9 c9)).drew=w10 at hg10 hs10 ⊢;have hz10:=hf10.1;have H10:=hD hg10;have HS10:=hD (HS9.out.trans hs10);have HF10:=hD (HF9.out.trans (hf10.lower (b:=ht) (by omega)));have hm10:=hmm10;have c0:=H10.out.c0;clear hg10 hs10 H9 HS9 HF9 hm9;clear hmm10 hf10 e10;go_wp2;refine bodyPost_end (results_none rfl _ _ _) rfl ⟨rfl,_,H10.out,HS10.out,HF10.out.le (by omega)⟩
   all_goals
    go_wp2_with fail
    go_at_call 76;refine(near_any H2.out (hm2.le (by omega))).mono ?_;rintro e w3 ⟨rfl,x3,hg3,hs3,hn3⟩;have hz3:ht+0+1≤x3.s.length:=by rw[hn3.1];have:=HF2.out.1;omega
    have H3:=hD hg3;have HS3:=hD (HS2.out.trans hs3);have HF3:=hD (HF2.out.trans (hn3.fine (ht:=ht) HF2.out.1));have hm3:=hm2.num hn3;have c0:=H3.out.c0;clear hg3 hs3 H2 HS2 HF2 hm2;go_wp2_with fail
    go_at_call 76;refine(near_any H3.out (hm3.le (by omega))).mono ?_;rintro e w4 ⟨rfl,x4,hg4,hs4,hn4⟩;have hz4:ht+1+1≤x4.s.length:=by rw[hn4.1];omega
    have H4:=hD hg4;have HS4:=hD (HS3.out.trans hs4);have HF4:=hD (HF3.out.trans (hn4.fine (ht:=ht) HF3.out.1));have hm4:=hm3.num hn4;have c0:=H4.out.c0;clear hg4 hs4 H3 HS3 HF3 hm3;obtain⟨A4,c4,hv4,hc4,_⟩:=H4.out.sform;obtain⟨d4,hd4⟩:∃ d:Nat,x4.s.length=d+1:=⟨x4.s.length - 1,by omega⟩;have c12:=H4.out.c12;have f12:=H4.out.frozen 12;obtain⟨hg5,hs5⟩:=H4.out.pop (d:=d4) hv4 (by omega);obtain⟨hgd5,hsd5⟩:=hg5.drew;have hl4:(x4.s.take d4).length=d4:=by rw[List.length_take];omega
    have hf5:V3 x4 { x4 with sv:=.slice A4 d4 c4,s:=x4.s.take d4 } (ht+1) 0:=⟨by show ht+1≤(x4.s.take d4).length;omega,by show(x4.s.take d4).length+x4.c.length≤_;omega,rfl,rfl⟩;have hmm5:=hf5.most hm4;replace hs5:=hs5.trans hsd5;replace hg5:=hgd5;have hms4:=hm4.s;rw[hv4]at c12;generalize ({ x4 with sv:=.slice A4 d4 c4,s:=x4.s.take d4 }:St)=x5 at hg5 hs5 hf5 hmm5;have e5:IntKind.i64.wrap ((x4.s.length:Int) - 1)=(d4:Int):=by rw[show(x4.s.length:Int) - 1=(d4:Int) by omega];exact IntWalk.i64_in _ (by omega)
    have hdc4:d4≤c4:=by omega
    have HD4:=hD hd4;have HG5:=hD hg5;have HSS5:=hD hs5;clear hg5 hs5 hgd5 hsd5 hl4 hv4 hd4;generalize hX4:x4.s.length=X4 at *;have HX4:=hD hX4;clear hX4;go_wp2_with fail
    go_region
    have hg5:=HG5.out;have hs5:=HSS5.out;clear HG5 HSS5 c12 f12;generalize (w4.setCell ⟨F.G,12,none⟩ (.slice A4 d4 c4)).drew=w5 at hg5 hs5 ⊢;have hz5:=hf5.1;have H5:=hD hg5;have HS5:=hD (HS4.out.trans hs5);have HF5:=hD (HF4.out.trans (hf5.lower (b:=ht) (by omega)));have hm5:=hmm5;have c0:=H5.out.c0;clear hg5 hs5 H4 HS4 HF4 hm4;clear hmm5 hf5 e5;go_wp2_with fail
    go_at_call 9;refine(WA H5.out 60 (by omega) (by omega)).mono ?_;rintro e w6 ⟨r6,hr6,rfl,x6,hg6,hs6,hn6⟩;have hz6:ht+0+1≤x6.s.length:=by rw[hn6.1];omega
    have H6:=hD hg6;have HS6:=hD (HS5.out.trans hs6);have HF6:=hD (HF5.out.trans (hn6.fine (ht:=ht) HF5.out.1));have hm6:=hm5.num hn6;have c0:=H6.out.c0;clear hg6 hs6 H5 HS5 HF5 hm5;go_wp2_with fail
    go_at_call 14;refine(WU H6.out _ _ _ _ (hm6.le (by omega))).mono ?_;rintro e w7 ⟨rfl,x7,hg7,hs7,hn7⟩;have hz7:ht+0+1≤x7.s.length:=by rw[hn7.1];omega
    have H7:=hD hg7;have HS7:=hD (HS6.out.trans hs7);have HF7:=hD (HF6.out.trans (hn7.fine (ht:=ht) HF6.out.1));have hm7:=hm6.num hn7;have c0:=H7.out.c0;clear hg7 hs7 H6 HS6 HF6 hm6;go_wp2_with fail
    go_at_call 14;refine(WU H7.out _ _ _ _ (hm7.le (by omega))).mono ?_;rintro e w8 ⟨rfl,x8,hg8,hs8,hn8⟩;have hz8:ht+0+1≤x8.s.length:=by rw[hn8.1];omega
    have H8:=hD hg8;have HS8:=hD (HS7.out.trans hs8);have HF8:=hD (HF7.out.trans (hn8.fine (ht:=ht) HF7.out.1));have hm8:=hm7.num hn8;have c0:=H8.out.c0;clear hg8 hs8 H7 HS7 HF7 hm7;obtain⟨A8,c8,hv8,hc8,_⟩:=H8.out.sform;obtain⟨d8,hd8⟩:∃ d:Nat,x8.s.length=d+1:=⟨x8.s.length - 1,by omega⟩;have c12:=H8.out.c12;have f12:=H8.out.frozen 12;obtain⟨hg9,hs9⟩:=H8.out.pop (d:=d8) hv8 (by omega);obtain⟨hgd9,hsd9⟩:=hg9.drew;have hl8:(x8.s.take d8).length=d8:=by rw[List.length_take];omega
    have hf9:V3 x8 { x8 with sv:=.slice A8 d8 c8,s:=x8.s.take d8 } (ht+0) 0:=⟨by show ht+0≤(x8.s.take d8).length;omega,by show(x8.s.take d8).length+x8.c.length≤_;omega,rfl,rfl⟩;have hmm9:=hf9.most hm8;replace hs9:=hs9.trans hsd9;replace hg9:=hgd9;have hms8:=hm8.s;rw[hv8]at c12;generalize ({ x8 with sv:=.slice A8 d8 c8,s:=x8.s.take d8 }:St)=x9 at hg9 hs9 hf9 hmm9;have e9:IntKind.i64.wrap ((x8.s.length:Int) - 1)=(d8:Int):=by rw[show(x8.s.length:Int) - 1=(d8:Int) by omega];exact IntWalk.i64_in _ (by omega)
    have hdc8:d8≤c8:=by omega
    have HD8:=hD hd8;have HG9:=hD hg9;have HSS9:=hD hs9;clear hg9 hs9 hgd9 hsd9 hl8 hv8 hd8;generalize hX8:x8.s.length=X8 at *;have HX8:=hD hX8;clear hX8;go_wp2_with fail
    go_region
    have hg9:=HG9.out;have hs9:=HSS9.out;clear HG9 HSS9 c12 f12;generalize (w8.setCell ⟨F.G,12,none⟩ (.slice A8 d8 c8)).drew=w9 at hg9 hs9 ⊢;have hz9:=hf9.1;have H9:=hD hg9;have HS9:=hD (HS8.out.trans hs9);have HF9:=hD (HF8.out.trans (hf9.lower (b:=ht) (by omega)));have hm9:=hmm9;have c0:=H9.out.c0;clear hg9 hs9 H8 HS8 HF8 hm8;clear hmm9 hf9 e9;go_wp2;refine bodyPost_end (results_none rfl _ _ _) rfl ⟨rfl,_,H9.out,HS9.out,HF9.out.le (by omega)⟩
end
section
open Go.RowKit
set_option maxHeartbeats 1000000
set_option maxRecDepth 100000
theorem Zbj {P:Prop}(h:P:=by
 go_enter Tryz.func11,Tryz.ntmps11;go_wp2;exact bodyPost_ret (v:=.tuple #[.agg #[.slice Ap np cp,.slice Ar nr cr],.bool true]) (by simp[results,Tryz.results11,go_sem]) rfl ⟨_,_,rfl,HP.out,HR.out,((bR _ _).alloc (nR _) _).alloc (by simp) _⟩):P:=h
theorem ZbN {P:Prop}(h:P:=by
 have h:=wN ((w.alloc a).alloc b) cs t j;have e:((w.alloc a).alloc b).heap.size=w.heap.size+2:=by simp
 rw[e]at h;exact h):P:=h
def SigPost (K:Nat→Prop) (t:List Int×List Int) (w:World) (e:Ending) (w':World):Prop :=
 ∃ p r:Value,e=.returned (.tuple #[.agg #[p,r],.bool true])∧Wg K w p t.1∧Wg K w r t.2∧Below w.heap.size w w'
theorem Vo.at_ {K:Nat→Prop} {w:World} {g o m c:Nat} {ts:List (List Int×List Int)} (h:Vo K w (.slice (some ⟨g,o,none⟩) m c) ts) (j:Nat) (hj:j<ts.length) :
 ∃ p r,w.cell? ⟨g,o+j * 2,none⟩=some p∧w.cell? ⟨g,o+j * 2+1,none⟩=some r∧Wg K w p (ts.getD j ([],[])).1∧Wg K w r (ts.getD j ([],[])).2:=by
 obtain⟨p,h1,h2⟩:=Wd.at_ h j 0 hj (by omega);obtain⟨r,h3,h4⟩:=Wd.at_ h j 1 hj (by omega);exact⟨p,r,h1,h3,h2,h4⟩
theorem cell_two {w:World} {p:Addr} {u:Value} (h:w.cell? p=some u) (a b:Obj):((w.alloc a).alloc b).cell? p=some u:=by
 have hp:=wL w p h;rw[World.cell?_alloc_lt _ _ _ (by simp;omega),World.cell?_alloc_lt _ _ _ hp,h]
theorem rsig_yes (K:Nat→Prop) (w:World) (m0 m1 m2 m3 m4 m5 m6 m7:Value) (ts:List (List Int×List Int)) (is fs:List Int) (h0:Vo K w m0 ts) (h1:VW K w m1 3 2 is) (h2:VW K w m2 3 0 fs) (hn:ts.length+is.length+fs.length≤1000000)
 (f t:Nat) (hf:(f<is.length∧is.getD f 0=(t:Int))∨(is.length≤f∧f<is.length+fs.length∧fs.getD (f - is.length) 0=(t:Int))) (ht:t<ts.length) :
 Calls Tryz.prog 11 #[.agg #[m0,m1,m2,m3,m4,m5,m6,m7],.int .i64 (f:Int)] w (SigPost K (ts.getD t ([],[])) w):=by
 obtain⟨g0,o0,c0,rfl,_,_⟩:=Wd.some_ h0 (by omega);obtain⟨p,r,hp,hr,hip,hir⟩:=h0.at_ t ht;obtain⟨Ap,cp,rfl,_,_⟩:=hip.form;obtain⟨Ar,cr,rfl,_,_⟩:=hir.form;have kp:=cell_two hp;have kr:=cell_two hr;have HP:=hD hip;have HR:=hD hir;generalize ts.getD t ([],[])=tt at *;generalize hP:tt.1.length=np at kp HP;generalize hR:tt.2.length=nr at kr HR;clear hP hR;generalize hT:ts.length=nt at *;clear hT hp hr hip hir h0;have d0:decide ((t:Int)<0)=false:=by simp
 have d1:decide ((nt:Int)≤(t:Int))=false:=by simp;omega
 have d2:decide ((0:Int)≤(f:Int))=true:=by simp
 rcases hf with ⟨hlt,hft⟩|⟨hge,hlt,hft⟩
 ·obtain⟨g1,o1,c1,rfl,_,_⟩:=Wd.some_ h1 (by omega);have k1:=cell_two (h1.at_ f hlt (by omega));rw[hft]at k1;generalize hI:is.length=ni at *;clear hI hft h1 h2;have d3:decide ((f:Int)<(ni:Int))=true:=by simp;omega
  exact Zbj
 ·obtain⟨g2,o2,c2,rfl,_,_⟩:=Wd.some_ h2 (by omega);obtain⟨A1,c1,rfl,_,_⟩:=Wd.form h1;have k1:=cell_two (h2.at_ (f - is.length) (by omega) (by omega));rw[hft]at k1;obtain⟨d,hd⟩:∃ d:Nat,f=is.length+d:=⟨f - is.length,by omega⟩;rw[show f - is.length=d by omega]at k1;simp only[Nat.add_zero]at k1;generalize hI:is.length=ni at *;generalize hF:fs.length=nf at *;clear hI hF hft h1 h2;have d3:decide ((f:Int)<(ni:Int))=false:=by simp;omega
  have e1:IntKind.i64.wrap ((ni:Int)+(nf:Int))=(ni:Int)+(nf:Int):=IntWalk.i64_in _ (by omega);have d4:decide ((f:Int)<(ni:Int)+(nf:Int))=true:=by simp;omega
  have e2:IntKind.i64.wrap ((f:Int) - (ni:Int))=(d:Int):=by rw[show(f:Int) - (ni:Int)=(d:Int) by omega];exact IntWalk.i64_in _ (by omega)
  have d5:d<nf:=by omega
  clear hd;exact Zbj
theorem cell_third (w:World) (a b:Obj) (cs:Array Value) (t:TypeId) (j:Nat):(((w.alloc a).alloc b).alloc (.cells cs t)).cell? ⟨w.heap.size+2,j,none⟩=cs[j]?:=by
 exact ZbN
def BlockPost (K:Nat→Prop) (w:World) (e:Ending) (w':World):Prop :=
 ∃ (p r:Value) (l1 l2:List Int),e=.returned (.tuple #[.agg #[p,r],.bool true])∧l1.length≤3∧l2.length≤3∧Wg (fun k=>K k∨(w.heap.size≤k∧k<w'.heap.size)) w' p l1∧Wg (fun k=>K k∨(w.heap.size≤k∧k<w'.heap.size)) w' r l2∧Below w.heap.size w w'
theorem rblock_yes (K:Nat→Prop) (w:World) (m0 m1 m2 m3 m4 m5 m6 m7:Value) (ts:List (List Int×List Int)) (h0:Vo K w m0 ts) (hn:ts.length≤1000000) (h3:∀ t ∈ ts,t.1.length≤3∧t.2.length≤3) (hK:∀ k,K k→k<w.heap.size)
 (a:Int) (ha : -4≤a) (hb:a<ts.length) :
 Calls Tryz.prog 77 #[.agg #[m0,m1,m2,m3,m4,m5,m6,m7],.int .i64 a] w (BlockPost K w):=by
 rcases(show a = -1∨a = -2∨a = -3∨a = -4∨0≤a by omega) with rfl|rfl|rfl|rfl|h
 ·go_enter Tryz.func77,Tryz.ntmps77;go_wp2;exact bodyPost_ret (v:=.tuple #[.agg #[.slice none 0 0,.slice none 0 0],.bool true]) (by simp[results,Tryz.results77,go_sem]) rfl
   ⟨_,_,[],[],rfl,by simp,by simp,Wg.nil _ _,Wg.nil _ _,((bR _ _).alloc (nR _) _).alloc (by simp) _⟩
 ·go_enter Tryz.func77,Tryz.ntmps77;go_wp2;exact bodyPost_ret (v:=.tuple #[.agg #[.slice none 0 0,.slice (some ⟨w.heap.size+2,0,none⟩) 1 1],.bool true]) (by simp[results,Tryz.results77,go_sem]) rfl
   ⟨_,_,[],[127],rfl,by simp,by simp,Wg.nil _ _,⟨_,_,rfl,by unfold maxLen;simp,(fun h=>by cases h),fun _=>⟨w.heap.size+2,0,rfl,.inr ⟨by omega,by simp⟩,fun j hj=>by
    obtain rfl:j=0:=by simp at hj;omega
    exact cell_third w _ _ _ _ 0⟩⟩,(((bR _ _).alloc (nR _) _).alloc (by simp) _).alloc (by simp;omega) _⟩
 ·go_enter Tryz.func77,Tryz.ntmps77;go_wp2;exact bodyPost_ret (v:=.tuple #[.agg #[.slice none 0 0,.slice (some ⟨w.heap.size+2,0,none⟩) 1 1],.bool true]) (by simp[results,Tryz.results77,go_sem]) rfl
   ⟨_,_,[],[126],rfl,by simp,by simp,Wg.nil _ _,⟨_,_,rfl,by unfold maxLen;simp,(fun h=>by cases h),fun _=>⟨w.heap.size+2,0,rfl,.inr ⟨by omega,by simp⟩,fun j hj=>by
    obtain rfl:j=0:=by simp at hj;omega
    exact cell_third w _ _ _ _ 0⟩⟩,(((bR _ _).alloc (nR _) _).alloc (by simp) _).alloc (by simp;omega) _⟩
 ·go_enter Tryz.func77,Tryz.ntmps77;go_wp2;exact bodyPost_ret (v:=.tuple #[.agg #[.slice none 0 0,.slice (some ⟨w.heap.size+2,0,none⟩) 1 1],.bool true]) (by simp[results,Tryz.results77,go_sem]) rfl
   ⟨_,_,[],[124],rfl,by simp,by simp,Wg.nil _ _,⟨_,_,rfl,by unfold maxLen;simp,(fun h=>by cases h),fun _=>⟨w.heap.size+2,0,rfl,.inr ⟨by omega,by simp⟩,fun j hj=>by
    obtain rfl:j=0:=by simp at hj;omega
    exact cell_third w _ _ _ _ 0⟩⟩,(((bR _ _).alloc (nR _) _).alloc (by simp) _).alloc (by simp;omega) _⟩
 ·obtain⟨t,rfl⟩:∃ t:Nat,a=t:=⟨a.toNat,by omega⟩;have ht:t<ts.length:=by omega
  obtain⟨g0,o0,c0,rfl,_,_⟩:=Wd.some_ h0 (by omega);obtain⟨p,r,hp,hr,hip,hir⟩:=h0.at_ t ht;have hm:ts.getD t ([],[]) ∈ ts:=by simp[ht]
  obtain⟨hm1,hm2⟩:=h3 _ hm;obtain⟨Ap,cp,rfl,_,_⟩:=hip.form;obtain⟨Ar,cr,rfl,_,_⟩:=hir.form;have kp:=cell_two hp;have kr:=cell_two hr;have HP:=hD hip;have HR:=hD hir;have HK:=hD hK;generalize ts.getD t ([],[])=tt at *;generalize hP:tt.1.length=np at kp HP;generalize hR:tt.2.length=nr at kr HR;clear hP hR hm h3 hK;generalize hT:ts.length=nt at *;clear hT hp hr hip hir h0;have d1:decide ((t:Int)<(nt:Int))=true:=by simp;omega
  have d2:decide ((0:Int)≤(t:Int))=true:=by simp
  go_enter Tryz.func77,Tryz.ntmps77;go_wp2;refine bodyPost_ret (v:=.tuple #[.agg #[.slice Ap np cp,.slice Ar nr cr],.bool true]) (by simp[results,Tryz.results77,go_sem]) rfl
   ⟨_,_,tt.1,tt.2,rfl,hm1,hm2,HP.out.keep (.below ?_ HK.out) (fun k hk=>.inl hk),HR.out.keep (.below ?_ HK.out) (fun k hk=>.inl hk),?_⟩
  all_goals exact((bR _ _).alloc (nR _) _).alloc (by simp) _
end
section
open Go.RowKit
set_option maxHeartbeats 2000000
set_option maxRecDepth 100000
theorem WD.sig {F:Fx} {w:World} {x:St} (h:WD F w x) (f:Nat) (hf:f<2+F.fs.length) :
 ∃ tt:List Int×List Int,tt.1.length≤3∧tt.2.length≤3∧Calls Tryz.prog 11 #[.agg #[F.m0,F.m1,F.m2,F.m3,F.m4,F.m5,F.m6,F.m7],.int .i64 (f:Int)] w (SigPost (W9 F w x) tt w):=by
 obtain⟨h0,hts,h3⟩:=h.reads.types;obtain⟨h1,his,hi9⟩:=h.reads.imps;obtain⟨h2,hfs,hf9⟩:=h.reads.funs;have key:∀ t:Nat,t<9→((f<F.is.length∧F.is.getD f 0=(t:Int))∨(F.is.length≤f∧f<F.is.length+F.fs.length∧F.fs.getD (f - F.is.length) 0=(t:Int)))→∃ tt:List Int×List Int,tt.1.length≤3∧tt.2.length≤3∧Calls Tryz.prog 11 #[.agg #[F.m0,F.m1,F.m2,F.m3,F.m4,F.m5,F.m6,F.m7],.int .i64 (f:Int)] w (SigPost (W9 F w x) tt w):=fun t ht hor=>by
  have hm:F.ts.getD t ([],[]) ∈ F.ts:=by
   have:t<F.ts.length:=by omega
   simp[this]
  exact⟨_,(h3 _ hm).1,(h3 _ hm).2,rsig_yes (W9 F w x) w _ _ _ F.m3 F.m4 F.m5 F.m6 F.m7 F.ts F.is F.fs h0 h1 h2 (by omega) f t hor (by omega)⟩
 by_cases hlt:f<F.is.length
 ·have hm:F.is.getD f 0 ∈ F.is:=by simp[hlt]
  obtain⟨a1,a2⟩:=hi9 _ hm;exact key (F.is.getD f 0).toNat (by omega) (.inl ⟨hlt,by omega⟩)
 ·have hlt2:f - F.is.length<F.fs.length:=by omega
  have hm:F.fs.getD (f - F.is.length) 0 ∈ F.fs:=by simp[hlt2]
  obtain⟨a1,a2⟩:=hf9 _ hm;exact key (F.fs.getD (f - F.is.length) 0).toNat (by omega) (.inr ⟨by omega,by omega,by omega⟩)
theorem call_any {F:Fx} {w:World} {x:St} (h:WD F w x) (ht:Nat) (hh:ht≤x.s.length) (hm:Vs x 860000) :
 Calls Tryz.prog 52 #[.pointer (some ⟨F.G,0,none⟩),.int .i64 (ht:Int)] w (GPost F w x (.tuple #[]) (fun x'=>V3 x x' ht 20)):=by
 obtain⟨A1,c1,hm1,_,_⟩:=Wd.form h.reads.imps.1;obtain⟨A2,c2,hm2,_,_⟩:=Wd.form h.reads.funs.1;rw[h.reads.imps.2.1]at hm1;have hf4:=h.reads.funs.2.1;have k0:=h.c0;have k2:=h.c2;have k3:=h.c3;rw[hm1]at k2;rw[hm2]at k3;have H:=hD h;have HH:=hD hh;have HSIG:=hD (fun (wy:World) (y:St) (hy:WD F wy y) (f:Nat) (hf:f<2+F.fs.length)=>hy.sig f hf);generalize F.fs.length=nf at *;clear h hh hm1 hm2;have e1:IntKind.i64.wrap (2+(nf:Int))=2+(nf:Int):=IntWalk.i64_in _ (by omega);obtain⟨N,hN⟩:∃ N:Nat,N=2+nf:=⟨_,rfl⟩;have hN2:(2:Int)+(nf:Int)=(N:Int):=by omega
 rw[hN2]at e1;have hN3:0<N∧N≤100:=by omega
 have HNN:Hid (N=2+nf):=hN;clear hN;go_enter Tryz.func52,Tryz.ntmps52;go_wp2_with fail
 go_quiet (fail)
 rename_i nq _
 obtain⟨hg0,hs0⟩:=H.out.below (Wj (bR _ _) nq);have c0:=hg0.c0;go_wp2_with fail
 go_at_call 9;refine(WA hg0 N (by omega) (by omega)).mono ?_;rintro e w1 ⟨r1,hr1,rfl,x1,hg1,hs1,hn1⟩;have HF1:=hD (hn1.fine (ht:=ht) HH.out);have HS1:=hD (hs0.trans hs1);have H1:=hD hg1;have hmm1:=hm.num hn1;obtain⟨tt,hp3,hr3,hsig⟩:=HSIG.out w1 x1 hg1 r1 (by have:=HNN.out;omega);have HSG:=hD hsig;have q0:=hg1.c0;have q1:=hg1.c1;have q2:=hg1.c2;have q3:=hg1.c3;have q4:=hg1.c4;have q5:=hg1.c5;have q6:=hg1.c6;have q7:=hg1.c7;have q8:=hg1.c8;clear hg0 hs0 c0 k0 k2 k3 hg1 hs1 hn1 hsig H HSIG;go_wp2_with fail
 go_at_call 11;refine HSG.out.mono ?_;rintro e w2 ⟨p,r,rfl,hip,hir,hb⟩;obtain⟨Ap,cp,hpv,_,_⟩:=hip.form;obtain⟨Ar,cr,hrv,_,_⟩:=hir.form;obtain⟨hg2,hs2⟩:=H1.out.below hb;have H2:=hD hg2;have HIP:=hD (hs2.ints hip.wide);have HIR:=hD (hs2.ints hir.wide);have HS2:=hD (HS1.out.trans hs2);rw[hpv]at HIP ⊢;rw[hrv]at HIR ⊢;clear hip hir hpv hrv hg2 hs2 hb HSG H1 HS1 q0 q1 q2 q3 q4 q5 q6 q7 q8;generalize hLP:tt.1.length=np at *;generalize hLR:tt.2.length=nr at *;have HLP:=hD hLP;have HLR:=hD hLR;clear hLP hLR;have HG3:Hid (WD F (w2.alloc (.cells #[.slice Ap np cp,.slice Ar nr cr] 66)) x1∧Wv F w2 x1 (w2.alloc (.cells #[.slice Ap np cp,.slice Ar nr cr] 66)) x1):=H2.out.alloc _;go_wp2_with fail
 go_at_call 47;refine(Uo HG3.out.1 _ tt.1 (HG3.out.2.ints HIP.out) (by rw[HLP.out];exact hp3) ht HF1.out.1 (hmm1.le (by omega))).mono ?_;rintro e w4 ⟨rfl,x4,hg4,hs4,hu4,hz4⟩;rw[HLP.out]at hz4;have b0:=H2.out.new_cell _ _ hs4 0;have b1:=H2.out.new_cell _ _ hs4 1;simp only[List.getElem?_toArray,List.getElem?_cons_zero,List.getElem?_cons_succ]at b0 b1;have HS4:=hD (HG3.out.2.trans hs4);have HF4:=hD (HF1.out.trans (hu4.fine (ht:=ht) (by omega)));have hm4:=hmm1.up hu4;have H4:=hD hg4;have HNC:=hD (fun (wy:World) (y:St) (hy:Wv F w4 x4 wy y)=>And.intro (H2.out.new_cell _ _ (hs4.trans hy) 0) (H2.out.new_cell _ _ (hs4.trans hy) 1));clear hg4 hs4 hu4 HF1 HG3 hmm1;go_wp2_with fail
 go_at_call 14;refine(WU H4.out _ _ _ _ (hm4.le (by omega))).mono ?_;rintro e w5 ⟨rfl,x5,hg5,hs5,hn5⟩;obtain⟨d0,d1⟩:=HNC.out _ _ hs5;simp only[List.getElem?_toArray,List.getElem?_cons_zero,List.getElem?_cons_succ]at d0 d1;have hz5:ht+np≤x5.s.length:=by rw[hn5.1];exact hz4
 have HS5:=hD (HS4.out.trans hs5);have HF5:=hD (HF4.out.trans (hn5.fine (ht:=ht) HF4.out.1));have hm5:=hm4.num hn5;have H5:=hD hg5;have HI5:=hD (And.intro (HS5.out.ints HIP.out) (HS5.out.ints HIR.out));clear hg5 hs5 hn5 H4 HS4 HF4 hm4 HNC b0 b1 HIP HIR;go_wp2_with fail
 go_at_call 48;refine(swap_any H5.out _ _ tt.1 tt.2 HI5.out.1 HI5.out.2 (by rw[HLP.out];omega) (by rw[HLR.out];exact hr3) (hm5.le (by omega))).mono ?_;rintro e w6 ⟨rfl,x6,hg6,hs6,z1,z2,z3,z4⟩;rw[HLP.out,HLR.out]at z1;have HS6:=hD (HS2.out.trans (HS5.out.trans hs6));have H6:=hD hg6;have HZ6:Hid (x6.s.length+np=x5.s.length+nr∧x6.c.length=x5.c.length∧x6.nl=x5.nl∧x6.left=x5.left):=⟨z1,z2,z3,z4⟩;clear z1 z2 z3 z4 hg6 hs6;go_wp2;obtain⟨f1,f2,f3,f4⟩:=HF5.out;obtain⟨z1,z2,z3,z4⟩:=HZ6.out;refine bodyPost_end (results_none rfl _ _ _) rfl ⟨rfl,_,H6.out,HS6.out,by omega,by omega,z3.trans f3,z4.trans f4⟩
end
section
open Go.RowKit
set_option maxHeartbeats 1000000
set_option maxRecDepth 100000
def AnyBool (w:World) (e:Ending) (w':World):Prop:=∃ b:Bool,e=.returned (.bool b)∧Below w.heap.size w w'
theorem ksame_any (K:Nat→Prop) (w:World) (v1 v2:Value) (q1 q2:List Int) (h1:Wg K w v1 q1) (h2:Wg K w v2 q2):Calls Tryz.prog 78 #[v1,v2] w (AnyBool w):=by
 obtain⟨A1,c1,hv1,hm1,_⟩:=h1.form;obtain⟨A2,c2,hv2,_,_⟩:=h2.form;unfold maxLen at hm1;rw[hv1]at h1 ⊢;rw[hv2]at h2 ⊢;have H1:=hD h1;have H2:=hD h2;clear h1 h2 hv1 hv2;generalize hQ1:q1.length=n at *;generalize hQ2:q2.length=m at *;have HQ1:=hD hQ1;have HQ2:=hD hQ2;clear hQ1 hQ2;by_cases hnm:n=m
 ·subst hnm;go_enter Tryz.func78,Tryz.ntmps78;go_wp2_with fail
  go_loopw [5] (fun i wr=>∃ k a:Nat,k≤n∧i=.int .i64 (k:Int)∧wr=w.drewN a) (fun i _=>n - (intOf i).toNat)
  case atStart=>exact⟨0,0,nZ _,rfl,rfl⟩
  case round =>
   obtain⟨k,a,hk,rfl,rfl⟩:=hrel;by_cases hlt:k<n
   ·have hkn:(0:Int)≤k:=Int.natCast_nonneg _;have hd:decide ((k:Int)<(n:Int))=true:=by simp;omega
    obtain⟨g1,o1,c3,he,_,_⟩:=H1.out.some_ (by rw[HQ1.out];omega);simp only[vI]at he;obtain⟨rfl,-,-⟩:=he;obtain⟨g2,o2,c4,he,_,_⟩:=H2.out.some_ (by rw[HQ2.out];omega);simp only[vI]at he;obtain⟨rfl,-,-⟩:=he;have k1:=H1.out.at_ k hlt;have k2:=H2.out.at_ k hlt;generalize q1.getD k 0=y at k1;generalize q2.getD k 0=z at k2;go_wp2_with fail
    go_quiet (fail)
    by_cases hyz:y=z
    ·have hd2:(y != z)=false:=by simpa using hyz
     go_wp2;go_roundw
     case rel=>exact⟨k+1,_,by omega,by go_num,rfl⟩
     case measure=>simp[intOf];omega
    ·have hd2:(y != z)=true:=by simpa using hyz
     go_wp2;go_ret;exact⟨false,rfl,Wj (Wj (bR _ _) _) _⟩
   ·have hd:decide ((k:Int)<(n:Int))=false:=by simp;omega
    go_wp2;go_ret;exact⟨true,rfl,Wj (bR _ _) _⟩
 ·have hd:((n:Int) != (m:Int))=true:=by simp;omega
  go_enter Tryz.func78,Tryz.ntmps78;go_wp2;go_ret;exact⟨false,rfl,bR _ _⟩
end
end Go.Proofs.YtepgopnnaeoolaaGreatDoor
