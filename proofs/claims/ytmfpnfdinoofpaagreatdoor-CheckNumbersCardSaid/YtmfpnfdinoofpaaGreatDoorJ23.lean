/- A part of the proof. -/
import Derived.Test.YtmfpnfdinoofpaaGreatDoorJ19
namespace Go.Proofs.YtmfpnfdinoofpaaGreatDoor
open Go.RowKit
set_option maxHeartbeats 4000000
set_option maxRecDepth 100000
theorem Za {P:Prop}(h:P:=by
 show wpAnyH _ _ _ _ _ 24 #[false,false,false,false,false,false,false,false,false,false,false,false,false,false,false,false,false,false,false,false,false,false,false,false] _ _;first|refine mT 0 25 rfl hS ?_ (hy:=by intro wS hSw;obtain⟨q0,q1⟩:=hSw;go_simp;try with_reducible rfl)|refine mN 0 25 rfl hS ?_
 first|refine mT 1 26 rfl hS ?_ (hy:=by intro wS hSw;obtain⟨q0,q1⟩:=hSw;go_simp;try with_reducible rfl)|refine mN 1 26 rfl hS ?_
 first|refine mT 2 27 rfl hS ?_ (hy:=by intro wS hSw;obtain⟨q0,q1⟩:=hSw;go_simp;try with_reducible rfl)|refine mN 2 27 rfl hS ?_
 first|refine mT 3 28 rfl hS ?_ (hy:=by intro wS hSw;obtain⟨q0,q1⟩:=hSw;go_simp;try with_reducible rfl)|refine mN 3 28 rfl hS ?_
 first|refine mT 4 29 rfl hS ?_ (hy:=by intro wS hSw;obtain⟨q0,q1⟩:=hSw;go_simp;try with_reducible rfl)|refine mN 4 29 rfl hS ?_
 first|refine mT 5 30 rfl hS ?_ (hy:=by intro wS hSw;obtain⟨q0,q1⟩:=hSw;go_simp;try with_reducible rfl)|refine mN 5 30 rfl hS ?_
 first|refine mT 6 31 rfl hS ?_ (hy:=by intro wS hSw;obtain⟨q0,q1⟩:=hSw;go_simp;try with_reducible rfl)|refine mN 6 31 rfl hS ?_
 first|refine mT 7 32 rfl hS ?_ (hy:=by intro wS hSw;obtain⟨q0,q1⟩:=hSw;go_simp;try with_reducible rfl)|refine mN 7 32 rfl hS ?_
 first|refine mT 8 33 rfl hS ?_ (hy:=by intro wS hSw;obtain⟨q0,q1⟩:=hSw;go_simp;try with_reducible rfl)|refine mN 8 33 rfl hS ?_
 first|refine mT 9 34 rfl hS ?_ (hy:=by intro wS hSw;obtain⟨q0,q1⟩:=hSw;go_simp;try with_reducible rfl)|refine mN 9 34 rfl hS ?_
 first|refine mT 10 35 rfl hS ?_ (hy:=by intro wS hSw;obtain⟨q0,q1⟩:=hSw;go_simp;try with_reducible rfl)|refine mN 10 35 rfl hS ?_
 refine mR 11 36 rfl fun K hK=>?_;first|(go_simp;go_at_call 154;refine(HMO.out _).mono ?_;rintro e w'' ⟨rfl,rfl⟩;go_wp2_with fail;refine hK.out _ _ hS (fun _=>?_);clear hK K;try simp only[sA,List.set])|(go_simp;refine hK.out _ _ hS (fun _=>?_);clear hK K)
 first|refine mT 12 37 rfl hS ?_ (hy:=by intro wS hSw;obtain⟨q0,q1⟩:=hSw;go_simp;try with_reducible rfl)|refine mN 12 37 rfl hS ?_
 first|refine mT 13 38 rfl hS ?_ (hy:=by intro wS hSw;obtain⟨q0,q1⟩:=hSw;go_simp;try with_reducible rfl)|refine mN 13 38 rfl hS ?_
 first|refine mT 14 39 rfl hS ?_ (hy:=by intro wS hSw;obtain⟨q0,q1⟩:=hSw;go_simp;try with_reducible rfl)|refine mN 14 39 rfl hS ?_
 first|refine mT 15 40 rfl hS ?_ (hy:=by intro wS hSw;obtain⟨q0,q1⟩:=hSw;go_simp;try with_reducible rfl)|refine mN 15 40 rfl hS ?_
 first|refine mT 16 41 rfl hS ?_ (hy:=by intro wS hSw;obtain⟨q0,q1⟩:=hSw;go_simp;try with_reducible rfl)|refine mN 16 41 rfl hS ?_
 first|refine mT 17 42 rfl hS ?_ (hy:=by intro wS hSw;obtain⟨q0,q1⟩:=hSw;go_simp;try with_reducible rfl)|refine mN 17 42 rfl hS ?_
 first|refine mT 18 43 rfl hS ?_ (hy:=by intro wS hSw;obtain⟨q0,q1⟩:=hSw;go_simp;try with_reducible rfl)|refine mN 18 43 rfl hS ?_
 first|refine mT 19 44 rfl hS ?_ (hy:=by intro wS hSw;obtain⟨q0,q1⟩:=hSw;go_simp;try with_reducible rfl)|refine mN 19 44 rfl hS ?_
 first|refine mT 20 45 rfl hS ?_ (hy:=by intro wS hSw;obtain⟨q0,q1⟩:=hSw;go_simp;try with_reducible rfl)|refine mN 20 45 rfl hS ?_
 first|refine mT 21 46 rfl hS ?_ (hy:=by intro wS hSw;obtain⟨q0,q1⟩:=hSw;go_simp;try with_reducible rfl)|refine mN 21 46 rfl hS ?_
 first|refine mT 22 47 rfl hS ?_ (hy:=by intro wS hSw;obtain⟨q0,q1⟩:=hSw;go_simp;try with_reducible rfl)|refine mN 22 47 rfl hS ?_
 first|refine mT 23 48 rfl hS ?_ (hy:=by intro wS hSw;obtain⟨q0,q1⟩:=hSw;go_simp;try with_reducible rfl)|refine mN 23 48 rfl hS ?_
 refine wpAnyH_done (by kernel_rfl) ?_ _;clear hS;go_wp2_with (first|(go_at_call 152;(with_reducible refine(HKN.out _).mono ?_);rintro e w' ⟨rfl,hb⟩;have HB:=hD hb;obtain⟨j0,j1,j2,j3,j4⟩:=HC.out _ hb;clear hb)|(go_at_call 153;(with_reducible refine(HAS.out _).mono ?_);rintro e w'' ⟨rfl,rfl⟩)|(go_at_call 87;(with_reducible refine(HOP.out _).mono ?_);rintro e w'' ⟨rfl,rfl⟩)|(go_at_call 154;(with_reducible refine(HMO.out _).mono ?_);rintro e w'' ⟨rfl,rfl⟩)|(go_at_call 109;(with_reducible refine(HIN.out _).mono ?_);rintro e w'' ⟨rfl,rfl⟩))
 go_ret;exact⟨WV (by rw[HR.out]),Wa HB1.out HB.out.drew⟩):P:=h
theorem Zc {P:Prop}(h:P:=by
 go_wp2_with (first|(go_at_call 152;(with_reducible refine(HKN.out _).mono ?_);rintro e w' ⟨rfl,hb⟩;have HB:=hD hb;obtain⟨j0,j1,j2,j3,j4⟩:=HC.out _ hb;clear hb)|(go_at_call 153;(with_reducible refine(HAS.out _).mono ?_);rintro e w'' ⟨rfl,rfl⟩)|(go_at_call 87;(with_reducible refine(HOP.out _).mono ?_);rintro e w'' ⟨rfl,rfl⟩)|(go_at_call 154;(with_reducible refine(HMO.out _).mono ?_);rintro e w'' ⟨rfl,rfl⟩)|(go_at_call 109;(with_reducible refine(HIN.out _).mono ?_);rintro e w'' ⟨rfl,rfl⟩))
 obtain⟨m0,m1,m2,m3,m4⟩:=HC.out _ HB.out.drew;have HS:=hD (And.intro m0 m1);clear j0 j1 j2 j3 j4;refine wp_region_held_drew (S:=fun wz=>wz.cell? ⟨w.heap.size,0,none⟩=some (.int .i64 op)∧wz.cell? ⟨w.heap.size,1,none⟩=some (.int .i64 a)) (by kernel_rfl) HS.out (fun hS=>?_);exact Za):P:=h
theorem Zo {P:Prop}(h:P:=by
 go_wp2_with (first|(go_at_call 152;(with_reducible refine(HKN.out _).mono ?_);rintro e w' ⟨rfl,hb⟩;have HB:=hD hb;obtain⟨j0,j1,j2,j3,j4⟩:=HC.out _ hb;clear hb)|(go_at_call 153;(with_reducible refine(HAS.out _).mono ?_);rintro e w'' ⟨rfl,rfl⟩)|(go_at_call 87;(with_reducible refine(HOP.out _).mono ?_);rintro e w'' ⟨rfl,rfl⟩)|(go_at_call 154;(with_reducible refine(HMO.out _).mono ?_);rintro e w'' ⟨rfl,rfl⟩)|(go_at_call 109;(with_reducible refine(HIN.out _).mono ?_);rintro e w'' ⟨rfl,rfl⟩))
 obtain⟨m0,m1,m2,m3,m4⟩:=HC.out _ HB.out.drew;have HS:=hD (And.intro m0 m1);clear j0 j1 j2 j3 j4;refine wp_region_held_drew (S:=fun wz=>wz.cell? ⟨w.heap.size,0,none⟩=some (.int .i64 64520)∧wz.cell? ⟨w.heap.size,1,none⟩=some (.int .i64 a)) (by kernel_rfl) HS.out (fun hS=>?_);exact Za):P:=h
theorem Zp {P:Prop}(h:P:=by
 go_wp2_with (first|(go_at_call 152;(with_reducible refine(HKN.out _).mono ?_);rintro e w' ⟨rfl,hb⟩;have HB:=hD hb;obtain⟨j0,j1,j2,j3,j4⟩:=HC.out _ hb;clear hb)|(go_at_call 153;(with_reducible refine(HAS.out _).mono ?_);rintro e w'' ⟨rfl,rfl⟩)|(go_at_call 87;(with_reducible refine(HOP.out _).mono ?_);rintro e w'' ⟨rfl,rfl⟩)|(go_at_call 154;(with_reducible refine(HMO.out _).mono ?_);rintro e w'' ⟨rfl,rfl⟩)|(go_at_call 109;(with_reducible refine(HIN.out _).mono ?_);rintro e w'' ⟨rfl,rfl⟩))
 obtain⟨m0,m1,m2,m3,m4⟩:=HC.out _ HB.out.drew;have HS:=hD (And.intro m0 m1);clear j0 j1 j2 j3 j4;refine wp_region_held_drew (S:=fun wz=>wz.cell? ⟨w.heap.size,0,none⟩=some (.int .i64 64522)∧wz.cell? ⟨w.heap.size,1,none⟩=some (.int .i64 a)) (by kernel_rfl) HS.out (fun hS=>?_);exact Za):P:=h
theorem ZA {P:Prop}(h:P:=by
 go_wp2_with (first|(go_at_call 152;(with_reducible refine(HKN.out _).mono ?_);rintro e w' ⟨rfl,hb⟩;have HB:=hD hb;obtain⟨j0,j1,j2,j3,j4⟩:=HC.out _ hb;clear hb)|(go_at_call 153;(with_reducible refine(HAS.out _).mono ?_);rintro e w'' ⟨rfl,rfl⟩)|(go_at_call 87;(with_reducible refine(HOP.out _).mono ?_);rintro e w'' ⟨rfl,rfl⟩)|(go_at_call 154;(with_reducible refine(HMO.out _).mono ?_);rintro e w'' ⟨rfl,rfl⟩)|(go_at_call 109;(with_reducible refine(HIN.out _).mono ?_);rintro e w'' ⟨rfl,rfl⟩))
 obtain⟨m0,m1,m2,m3,m4⟩:=HC.out _ HB.out.drew;have HS:=hD (And.intro m0 m1);clear j0 j1 j2 j3 j4;refine wp_region_held_drew (S:=fun wz=>wz.cell? ⟨w.heap.size,0,none⟩=some (.int .i64 op)∧wz.cell? ⟨w.heap.size,1,none⟩=some (.int .i64 0)) (by kernel_rfl) HS.out (fun hS=>?_);exact Za):P:=h
theorem ZB {P:Prop}(h:P:=by
 go_wp2_with (first|(go_at_call 152;(with_reducible refine(HKN.out _).mono ?_);rintro e w' ⟨rfl,hb⟩;have HB:=hD hb;obtain⟨j0,j1,j2,j3,j4⟩:=HC.out _ hb;clear hb)|(go_at_call 153;(with_reducible refine(HAS.out _).mono ?_);rintro e w'' ⟨rfl,rfl⟩)|(go_at_call 87;(with_reducible refine(HOP.out _).mono ?_);rintro e w'' ⟨rfl,rfl⟩)|(go_at_call 154;(with_reducible refine(HMO.out _).mono ?_);rintro e w'' ⟨rfl,rfl⟩)|(go_at_call 109;(with_reducible refine(HIN.out _).mono ?_);rintro e w'' ⟨rfl,rfl⟩))
 obtain⟨m0,m1,m2,m3,m4⟩:=HC.out _ HB.out.drew;have HS:=hD (And.intro m0 m1);clear j0 j1 j2 j3 j4;refine wp_region_held_drew (S:=fun wz=>wz.cell? ⟨w.heap.size,0,none⟩=some (.int .i64 65)∧wz.cell? ⟨w.heap.size,1,none⟩=some (.int .i64 0)) (by kernel_rfl) HS.out (fun hS=>?_);exact Za):P:=h
theorem ZN {P:Prop}(h:P:=by
 clear cA;by_cases cA:ma<a
 ·have dB:decide (ma<a)=true:=decide_eq_true cA;clear cA hn;have HR:=hD (show R=false by rw[HIS.out,inB_over a _ _ dB,Bool.false_and]);have HIN:Hid True:=hD trivial;exact Zc
 ·have dB:decide (ma<a)=false:=decide_eq_false cA;clear cA;rw[inB_yes a _ _ dA dB,Bool.true_and]at HIS;have HIN:Hid True:=hD trivial;rw[V9 b]at HIS;by_cases cB:b=0
  rotate_left
  ·have dB0:(b==0)=false:=by simpa using cB
   clear cB hn;have HR:=hD (show R=false by rw[HIS.out,dB0,Bool.false_and]);exact Zc
  ·have dB0:(b==0)=true:=by simpa using cB
   rw[dB0,Bool.true_and]at HIS;subst cB;clear dB0;by_cases cN:n=0
   rotate_left
   ·have dN:(n==0)=false:=by simpa using cN
    have dN1:(n != 0)=true:=by simpa using cN
    have dN2:decide (n=0)=false:=by simpa using cN
    have HR:=hD (show R=false by rw[HIS.out,decide_eq_false (by omega),Bool.false_and]);clear cN hn;exact Zc
   ·rw[decide_eq_true (by omega),Bool.true_and]at HIS;subst cN;clear hn;have HR:=HIS;exact Zc):P:=h
theorem ZV {P:Prop}(h:P:=by
 go_wp2_with (first|(go_at_call 152;(with_reducible refine(HKN.out _).mono ?_);rintro e w' ⟨rfl,hb⟩;have HB:=hD hb;obtain⟨j0,j1,j2,j3,j4⟩:=HC.out _ hb;clear hb)|(go_at_call 153;(with_reducible refine(HAS.out _).mono ?_);rintro e w'' ⟨rfl,rfl⟩)|(go_at_call 87;(with_reducible refine(HOP.out _).mono ?_);rintro e w'' ⟨rfl,rfl⟩)|(go_at_call 154;(with_reducible refine(HMO.out _).mono ?_);rintro e w'' ⟨rfl,rfl⟩)|(go_at_call 109;(with_reducible refine(HIN.out _).mono ?_);rintro e w'' ⟨rfl,rfl⟩))
 obtain⟨m0,m1,m2,m3,m4⟩:=HC.out _ HB.out.drew;have HS:=hD (And.intro m0 m1);clear j0 j1 j2 j3 j4;refine wp_region_held_drew (S:=fun wz=>wz.cell? ⟨w.heap.size,0,none⟩=some (.int .i64 66)∧wz.cell? ⟨w.heap.size,1,none⟩=some (.int .i64 0)) (by kernel_rfl) HS.out (fun hS=>?_);exact Za):P:=h
theorem ZW {P:Prop}(h:P:=by
 go_wp2_with (first|(go_at_call 152;(with_reducible refine(HKN.out _).mono ?_);rintro e w' ⟨rfl,hb⟩;have HB:=hD hb;obtain⟨j0,j1,j2,j3,j4⟩:=HC.out _ hb;clear hb)|(go_at_call 153;(with_reducible refine(HAS.out _).mono ?_);rintro e w'' ⟨rfl,rfl⟩)|(go_at_call 87;(with_reducible refine(HOP.out _).mono ?_);rintro e w'' ⟨rfl,rfl⟩)|(go_at_call 154;(with_reducible refine(HMO.out _).mono ?_);rintro e w'' ⟨rfl,rfl⟩)|(go_at_call 109;(with_reducible refine(HIN.out _).mono ?_);rintro e w'' ⟨rfl,rfl⟩))
 obtain⟨m0,m1,m2,m3,m4⟩:=HC.out _ HB.out.drew;have HS:=hD (And.intro m0 m1);clear j0 j1 j2 j3 j4;refine wp_region_held_drew (S:=fun wz=>wz.cell? ⟨w.heap.size,0,none⟩=some (.int .i64 68)∧wz.cell? ⟨w.heap.size,1,none⟩=some (.int .i64 0)) (by kernel_rfl) HS.out (fun hS=>?_);exact Za):P:=h
theorem ZX {P:Prop}(h:P:=by
 go_wp2_with (first|(go_at_call 152;(with_reducible refine(HKN.out _).mono ?_);rintro e w' ⟨rfl,hb⟩;have HB:=hD hb;obtain⟨j0,j1,j2,j3,j4⟩:=HC.out _ hb;clear hb)|(go_at_call 153;(with_reducible refine(HAS.out _).mono ?_);rintro e w'' ⟨rfl,rfl⟩)|(go_at_call 87;(with_reducible refine(HOP.out _).mono ?_);rintro e w'' ⟨rfl,rfl⟩)|(go_at_call 154;(with_reducible refine(HMO.out _).mono ?_);rintro e w'' ⟨rfl,rfl⟩)|(go_at_call 109;(with_reducible refine(HIN.out _).mono ?_);rintro e w'' ⟨rfl,rfl⟩))
 obtain⟨m0,m1,m2,m3,m4⟩:=HC.out _ HB.out.drew;have HS:=hD (And.intro m0 m1);clear j0 j1 j2 j3 j4;refine wp_region_held_drew (S:=fun wz=>wz.cell? ⟨w.heap.size,0,none⟩=some (.int .i64 14)∧wz.cell? ⟨w.heap.size,1,none⟩=some (.int .i64 0)) (by kernel_rfl) HS.out (fun hS=>?_);exact Za):P:=h
theorem Z0 {P:Prop}(h:P:=by
 have h9:∀ i,wz.cell? ⟨w.heap.size,i,none⟩=(#[.int .i64 op,.int .i64 a,.int .i64 b,.int .u64 n,.slice A nl c]:Array Value)[i]?:=fun i=>(hb.cell (p:=⟨w.heap.size,i,none⟩) (by simp)).trans (wN w _ _ i);exact⟨h9 0,h9 1,h9 2,h9 3,h9 4⟩):P:=h
theorem ZbU {P:Prop}(h:P:=by
 unfold WO at h;by_cases h1:(2≤op∧op≤4)∨op=12∨op=13∨op=16∨op=18∨(32≤op∧op≤36)∨op=63∨op=64∨op=64521∨op=64523
 ·rw[if_pos h1]at h;cases h
 ·exact decide_eq_false fun k=>h1 (.inl k)):P:=h
theorem ZbX {P:Prop}(h:P:=by
 clear cA hn;have HR:=hD (show R=false by rw[HIS.out,inB_out a _ _ dA,Bool.false_and]);have HIN:Hid True:=hD trivial;exact Zc):P:=h
theorem ZcJ {P:Prop}(h:P:=by
 exact⟨h9 0,h9 1,h9 2,h9 3,h9 4⟩):P:=h
theorem Zdj {P:Prop}(h:P:=by
 clear c1;go_wp2;go_ret;exact⟨WV (by rw[HR.out]),Wa HB1.out HB.out.drew⟩):P:=h
def leastAB (op:Int):Int:=if WF op then -4 else 0
def dfB (op:Int):Int×Int×Int×Int×Int×Int :=
 (if (WO op).1 then leastAB op else 0,if (WO op).1 then Vh op else 0,if (WO op).2.1 then (if op=64520 then 15 else 3) else 0,if (WO op).2.2.1 then (if op=66∨op=68 then 18446744073709551615 else 4294967295) else 0,if (WO op).2.2.2 then 1 else 0,if (WO op).2.2.2 then 17 else 0)
theorem fields_d (op:Int):Wp op=dfB op:=by
 refine VO (fun op=>Wp op=dfB op) (by decide +kernel) (by decide +kernel) (fun op h=>?_) op;have ha:WK op=(0,0,false,false):=far_acc op h;have e1:WO op=(false,false,false,false):=by
  unfold WO;rw[if_neg (by omega),if_neg (by omega),ha,if_neg (by decide),if_neg (by omega),if_neg (by omega)]
 unfold Wp dfB;rw[e1,ha];simp only
 repeat rw[if_neg (by first|omega|decide)]
theorem asks_six (op:Int):(WO op=(true,false,false,false)∧op≠64520)∨op=14∨(WO op=(true,false,true,false)∧op≠64520∧op≠66∧op≠68)∨op=64520∨op=64522∨op=65∨op=66∨op=68∨(WO op=(false,false,false,false)∧op≠64520):=by
 by_cases h1:(2≤op∧op≤4)∨op=12∨op=13∨op=16∨op=18∨(32≤op∧op≤36)∨op=63∨op=64∨op=64521∨op=64523
 ·exact .inl ⟨by unfold WO;rw[if_pos h1],by omega⟩
 by_cases h2:op=14
 ·exact .inr (.inl h2)
 by_cases h4:op=64520∨op=64522∨op=65∨op=66∨op=68
 ·exact .inr (.inr (.inr (h4.imp_right fun h=>h.imp_right fun h=>h.imp_right fun h=>h.imp_right fun h=>.inl h)))
 by_cases h3:(WK op).2.2.2=true
 ·exact .inr (.inr (.inl ⟨by unfold WO;rw[if_neg h1,if_neg h2,if_pos h3],by omega,by omega,by omega⟩))
 ·exact .inr (.inr (.inr (.inr (.inr (.inr (.inr (.inr ⟨by unfold WO;rw[if_neg h1,if_neg h2,if_neg h3,if_neg (by omega),if_neg (by omega)],by omega⟩)))))))
theorem V9 (n:Int):inB n 0 0=(n==0):=by
 unfold inB;by_cases h:n=0
 ·subst h;rfl
 ·rw[decide_eq_false (by omega)];simp[h]
theorem inB_out (n lo hi:Int) (h:decide (n<lo)=true):inB n lo hi=false:=decide_eq_false (by have:=of_decide_eq_true h;omega)
theorem inB_over (n lo hi:Int) (h:decide (hi<n)=true):inB n lo hi=false:=decide_eq_false (by have:=of_decide_eq_true h;omega)
theorem inB_yes (n lo hi:Int) (h:decide (n<lo)=false) (k:decide (hi<n)=false):inB n lo hi=true:=decide_eq_true (by have:=of_decide_eq_false h;have:=of_decide_eq_false k;omega)
theorem Tb (l:List Int):(inB (l.length:Int) 0 0 && l.all labB)=((l.length:Int)==0):=by
 rw[V9];cases l with
 | nil=>rfl
 | cons x l=>rw[show((((x :: l).length:Nat):Int)==0)=false by simp;omega];rfl
theorem dinst_not (x:Vl) (h:W9 x.op=false):WX x=false:=by unfold WX insB;rw[h];rfl
theorem UT (x:Vl) (h:W9 x.op=true):WX x=(inB x.a (Wp x.op).1 (Wp x.op).2.1 && inB x.b 0 (Wp x.op).2.2.1 && decide (x.n≤(Wp x.op).2.2.2.1) && inB (x.l.length:Int) (Wp x.op).2.2.2.2.1 (Wp x.op).2.2.2.2.2 && x.l.all labB):=by unfold WX insB;rw[h,Bool.true_and]
theorem and5 {a b c d e r:Bool} (h:r=(a && b && c && d && e)):r=(a && (b && (c && (d && e)))):=by rw[h];cases a <;> cases b <;> cases c <;> cases d <;> rfl
theorem dinst_at (w:World) (op:Int) (a b n:Int) (l:List Int) (Lv:Value) (hL:Wf (fun k=>k<w.heap.size) w Lv l) (hn:0≤n∧n≤18446744073709551615) (hq:WO op=(true,false,false,false)) (h8:op≠64520) (hob:WF op=true) (hk:W9 op=true):Calls Tryz.prog 110 #[.agg #[.int .i64 op,.int .i64 a,.int .i64 b,.int .u64 n,Lv]] w (Wh (WX ⟨op,a,b,n,l⟩) w):=by
 obtain⟨A,c,hv,hm,_⟩:=hL.form;unfold maxLen at hm;have HL:=hD hL;rw[hv]at HL ⊢;clear hL hv;have HKN:=hD (fun wz=>VZ op wz);rw[hk]at HKN;have HAS:=hD (fun wz=>UP op wz);rw[hq]at HAS;unfold WP at HAS;simp only at HAS;have HOP:=hD (fun wz=>Wl op wz);rw[hob]at HOP;have HMO:=hD (fun wz=>UV op wz);unfold Vz at HMO;have HIS:=hD (and5 (UT ⟨op,a,b,n,l⟩ hk));simp only at HIS;rw[show Wp op=((-4),Vh op,0,0,0,0) by rw[fields_d];unfold dfB leastAB;rw[hq];rw[hob];simp]at HIS;generalize Vh op=ma at HMO HIS;have d8:(op==64520)=false:=by simpa using h8
 simp only at HIS;generalize WX ⟨op,a,b,n,l⟩=R at HIS ⊢;rw[Tb l]at HIS;obtain⟨nl,hnl⟩:∃ n,l.length=n:=⟨_,rfl⟩;have HNL:=hD hnl;rw[hnl]at HL HIS hm ⊢;clear hnl;clear hk hq h8 hob;have HB1:=hD ((bR w.heap.size w).alloc (nR _) (.cells #[.int .i64 op,.int .i64 a,.int .i64 b,.int .u64 n,.slice A nl c] 25));have HC:Hid (∀ wz,Below (w.alloc (.cells #[.int .i64 op,.int .i64 a,.int .i64 b,.int .u64 n,.slice A nl c] 25)).heap.size (w.alloc (.cells #[.int .i64 op,.int .i64 a,.int .i64 b,.int .u64 n,.slice A nl c] 25)) wz→wz.cell? ⟨w.heap.size,0,none⟩=some (.int .i64 op)∧wz.cell? ⟨w.heap.size,1,none⟩=some (.int .i64 a)∧wz.cell? ⟨w.heap.size,2,none⟩=some (.int .i64 b)∧wz.cell? ⟨w.heap.size,3,none⟩=some (.int .u64 n)∧wz.cell? ⟨w.heap.size,4,none⟩=some (.slice A nl c)):=hD fun wz hb=>by
  exact Z0
 go_enter Tryz.func110,Tryz.ntmps110;by_cases cA:a<(-4)
 ·have dA:decide (a<(-4))=true:=decide_eq_true cA;exact ZbX
 ·have dA:decide (a<(-4))=false:=decide_eq_false cA;exact ZN
theorem dinst_af (w:World) (op:Int) (a b n:Int) (l:List Int) (Lv:Value) (hL:Wf (fun k=>k<w.heap.size) w Lv l) (hn:0≤n∧n≤18446744073709551615) (hq:WO op=(true,false,false,false)) (h8:op≠64520) (hob:WF op=false) (hk:W9 op=true):Calls Tryz.prog 110 #[.agg #[.int .i64 op,.int .i64 a,.int .i64 b,.int .u64 n,Lv]] w (Wh (WX ⟨op,a,b,n,l⟩) w):=by
 obtain⟨A,c,hv,hm,_⟩:=hL.form;unfold maxLen at hm;have HL:=hD hL;rw[hv]at HL ⊢;clear hL hv;have HKN:=hD (fun wz=>VZ op wz);rw[hk]at HKN;have HAS:=hD (fun wz=>UP op wz);rw[hq]at HAS;unfold WP at HAS;simp only at HAS;have HOP:=hD (fun wz=>Wl op wz);rw[hob]at HOP;have HMO:=hD (fun wz=>UV op wz);unfold Vz at HMO;have HIS:=hD (and5 (UT ⟨op,a,b,n,l⟩ hk));simp only at HIS;rw[show Wp op=(0,Vh op,0,0,0,0) by rw[fields_d];unfold dfB leastAB;rw[hq];rw[hob];simp]at HIS;generalize Vh op=ma at HMO HIS;have d8:(op==64520)=false:=by simpa using h8
 simp only at HIS;generalize WX ⟨op,a,b,n,l⟩=R at HIS ⊢;rw[Tb l]at HIS;obtain⟨nl,hnl⟩:∃ n,l.length=n:=⟨_,rfl⟩;have HNL:=hD hnl;rw[hnl]at HL HIS hm ⊢;clear hnl;clear hk hq h8 hob;have HB1:=hD ((bR w.heap.size w).alloc (nR _) (.cells #[.int .i64 op,.int .i64 a,.int .i64 b,.int .u64 n,.slice A nl c] 25));have HC:Hid (∀ wz,Below (w.alloc (.cells #[.int .i64 op,.int .i64 a,.int .i64 b,.int .u64 n,.slice A nl c] 25)).heap.size (w.alloc (.cells #[.int .i64 op,.int .i64 a,.int .i64 b,.int .u64 n,.slice A nl c] 25)) wz→wz.cell? ⟨w.heap.size,0,none⟩=some (.int .i64 op)∧wz.cell? ⟨w.heap.size,1,none⟩=some (.int .i64 a)∧wz.cell? ⟨w.heap.size,2,none⟩=some (.int .i64 b)∧wz.cell? ⟨w.heap.size,3,none⟩=some (.int .u64 n)∧wz.cell? ⟨w.heap.size,4,none⟩=some (.slice A nl c)):=hD fun wz hb=>by
  exact Z0
 go_enter Tryz.func110,Tryz.ntmps110;by_cases cA:a<0
 ·have dA:decide (a<0)=true:=decide_eq_true cA;exact ZbX
 ·have dA:decide (a<0)=false:=decide_eq_false cA;exact ZN
theorem dinst_an (w:World) (op:Int) (a b n:Int) (l:List Int) (Lv:Value) (hL:Wf (fun k=>k<w.heap.size) w Lv l) (hn:0≤n∧n≤18446744073709551615) (hq:WO op=(true,false,true,false)) (h8:op≠64520) (h66:op≠66) (h68:op≠68) (hob:WF op=false) (hk:W9 op=true):Calls Tryz.prog 110 #[.agg #[.int .i64 op,.int .i64 a,.int .i64 b,.int .u64 n,Lv]] w (Wh (WX ⟨op,a,b,n,l⟩) w):=by
 obtain⟨A,c,hv,hm,_⟩:=hL.form;unfold maxLen at hm;have HL:=hD hL;rw[hv]at HL ⊢;clear hL hv;have HKN:=hD (fun wz=>VZ op wz);rw[hk]at HKN;have HAS:=hD (fun wz=>UP op wz);rw[hq]at HAS;unfold WP at HAS;simp only at HAS;have HOP:=hD (fun wz=>Wl op wz);rw[hob]at HOP;have HMO:=hD (fun wz=>UV op wz);unfold Vz at HMO;have HIS:=hD (and5 (UT ⟨op,a,b,n,l⟩ hk));simp only at HIS;rw[show Wp op=(0,Vh op,0,4294967295,0,0) by rw[fields_d];unfold dfB leastAB;rw[hq];rw[hob];simp[h66,h68]]at HIS;generalize Vh op=ma at HMO HIS;have d8:(op==64520)=false:=by simpa using h8
 have d66:(op==66)=false:=by simpa using h66
 have d68:(op==68)=false:=by simpa using h68
 have e66:(op != 66)=true:=by simpa using h66
 have e68:(op != 68)=true:=by simpa using h68
 simp only at HIS;generalize WX ⟨op,a,b,n,l⟩=R at HIS ⊢;rw[Tb l]at HIS;obtain⟨nl,hnl⟩:∃ n,l.length=n:=⟨_,rfl⟩;have HNL:=hD hnl;rw[hnl]at HL HIS hm ⊢;clear hnl;clear hk hq h8 hob h66 h68;have HB1:=hD ((bR w.heap.size w).alloc (nR _) (.cells #[.int .i64 op,.int .i64 a,.int .i64 b,.int .u64 n,.slice A nl c] 25));have HC:Hid (∀ wz,Below (w.alloc (.cells #[.int .i64 op,.int .i64 a,.int .i64 b,.int .u64 n,.slice A nl c] 25)).heap.size (w.alloc (.cells #[.int .i64 op,.int .i64 a,.int .i64 b,.int .u64 n,.slice A nl c] 25)) wz→wz.cell? ⟨w.heap.size,0,none⟩=some (.int .i64 op)∧wz.cell? ⟨w.heap.size,1,none⟩=some (.int .i64 a)∧wz.cell? ⟨w.heap.size,2,none⟩=some (.int .i64 b)∧wz.cell? ⟨w.heap.size,3,none⟩=some (.int .u64 n)∧wz.cell? ⟨w.heap.size,4,none⟩=some (.slice A nl c)):=hD fun wz hb=>by
  exact Z0
 go_enter Tryz.func110,Tryz.ntmps110;by_cases cA:a<0
 ·have dA:decide (a<0)=true:=decide_eq_true cA;exact ZbX
 ·have dA:decide (a<0)=false:=decide_eq_false cA;clear cA;by_cases cA:ma<a
  ·have dB:decide (ma<a)=true:=decide_eq_true cA;clear cA hn;have HR:=hD (show R=false by rw[HIS.out,inB_over a _ _ dB,Bool.false_and]);have HIN:Hid True:=hD trivial;exact Zc
  ·have dB:decide (ma<a)=false:=decide_eq_false cA;clear cA;rw[inB_yes a _ _ dA dB,Bool.true_and]at HIS;have HIN:Hid True:=hD trivial;rw[V9 b]at HIS;by_cases cB:b=0
   rotate_left
   ·have dB0:(b==0)=false:=by simpa using cB
    clear cB hn;have HR:=hD (show R=false by rw[HIS.out,dB0,Bool.false_and]);exact Zc
   ·have dB0:(b==0)=true:=by simpa using cB
    rw[dB0,Bool.true_and]at HIS;subst cB;clear dB0;by_cases cN:n≤4294967295
    rotate_left
    ·have dN:decide (4294967296≤n)=true:=by simp;omega
     have HR:=hD (show R=false by rw[HIS.out,decide_eq_false cN,Bool.false_and]);clear cN hn;exact Zc
    ·have dN:decide (4294967296≤n)=false:=by simp;omega
     rw[decide_eq_true cN,Bool.true_and]at HIS;clear cN hn;have HR:=HIS;exact Zc
theorem dinst_no (w:World) (op:Int) (a b n:Int) (l:List Int) (Lv:Value) (hL:Wf (fun k=>k<w.heap.size) w Lv l) (hn:0≤n∧n≤18446744073709551615) (hq:WO op=(false,false,false,false)) (h8:op≠64520) (hob:WF op=false) (hk:W9 op=true):Calls Tryz.prog 110 #[.agg #[.int .i64 op,.int .i64 a,.int .i64 b,.int .u64 n,Lv]] w (Wh (WX ⟨op,a,b,n,l⟩) w):=by
 obtain⟨A,c,hv,hm,_⟩:=hL.form;unfold maxLen at hm;have HL:=hD hL;rw[hv]at HL ⊢;clear hL hv;have HKN:=hD (fun wz=>VZ op wz);rw[hk]at HKN;have HAS:=hD (fun wz=>UP op wz);rw[hq]at HAS;unfold WP at HAS;simp only at HAS;have HOP:=hD (fun wz=>Wl op wz);rw[hob]at HOP;have HMO:=hD (fun wz=>UV op wz);unfold Vz at HMO;have HIS:=hD (and5 (UT ⟨op,a,b,n,l⟩ hk));simp only at HIS;rw[show Wp op=(0,0,0,0,0,0) by rw[fields_d];unfold dfB leastAB;rw[hq];rw[hob];simp]at HIS;have d8:(op==64520)=false:=by simpa using h8
 simp only at HIS;generalize WX ⟨op,a,b,n,l⟩=R at HIS ⊢;rw[Tb l]at HIS;obtain⟨nl,hnl⟩:∃ n,l.length=n:=⟨_,rfl⟩;have HNL:=hD hnl;rw[hnl]at HL HIS hm ⊢;clear hnl;clear hk hq h8 hob;have HB1:=hD ((bR w.heap.size w).alloc (nR _) (.cells #[.int .i64 op,.int .i64 a,.int .i64 b,.int .u64 n,.slice A nl c] 25));have HC:Hid (∀ wz,Below (w.alloc (.cells #[.int .i64 op,.int .i64 a,.int .i64 b,.int .u64 n,.slice A nl c] 25)).heap.size (w.alloc (.cells #[.int .i64 op,.int .i64 a,.int .i64 b,.int .u64 n,.slice A nl c] 25)) wz→wz.cell? ⟨w.heap.size,0,none⟩=some (.int .i64 op)∧wz.cell? ⟨w.heap.size,1,none⟩=some (.int .i64 a)∧wz.cell? ⟨w.heap.size,2,none⟩=some (.int .i64 b)∧wz.cell? ⟨w.heap.size,3,none⟩=some (.int .u64 n)∧wz.cell? ⟨w.heap.size,4,none⟩=some (.slice A nl c)):=hD fun wz hb=>by
  exact Z0
 go_enter Tryz.func110,Tryz.ntmps110;rw[V9 a]at HIS;by_cases cA:a=0
 rotate_left
 ·have dA:(a==0)=false:=by simpa using cA
  clear cA hn;have HR:=hD (show R=false by rw[HIS.out,dA,Bool.false_and]);have HIN:Hid True:=hD trivial;exact Zc
 ·have dA:(a==0)=true:=by simpa using cA
  rw[dA,Bool.true_and]at HIS;subst cA;clear dA;have HIN:Hid True:=hD trivial;rw[V9 b]at HIS;by_cases cB:b=0
  rotate_left
  ·have dB0:(b==0)=false:=by simpa using cB
   clear cB hn;have HR:=hD (show R=false by rw[HIS.out,dB0,Bool.false_and]);exact ZA
  ·have dB0:(b==0)=true:=by simpa using cB
   rw[dB0,Bool.true_and]at HIS;subst cB;clear dB0;by_cases cN:n=0
   rotate_left
   ·have dN:(n==0)=false:=by simpa using cN
    have dN1:(n != 0)=true:=by simpa using cN
    have dN2:decide (n=0)=false:=by simpa using cN
    have HR:=hD (show R=false by rw[HIS.out,decide_eq_false (by omega),Bool.false_and]);clear cN hn;exact ZA
   ·rw[decide_eq_true (by omega),Bool.true_and]at HIS;subst cN;clear hn;have HR:=HIS;exact ZA
theorem dinst_ab0 (w:World) (a b n:Int) (l:List Int) (Lv:Value) (hL:Wf (fun k=>k<w.heap.size) w Lv l) (hn:0≤n∧n≤18446744073709551615) (hk:W9 64520=true):Calls Tryz.prog 110 #[.agg #[.int .i64 64520,.int .i64 a,.int .i64 b,.int .u64 n,Lv]] w (Wh (WX ⟨64520,a,b,n,l⟩) w):=by
 obtain⟨A,c,hv,hm,_⟩:=hL.form;unfold maxLen at hm;have HL:=hD hL;rw[hv]at HL ⊢;clear hL hv;have HKN:=hD (fun wz=>VZ 64520 wz);rw[hk]at HKN;have HAS:=hD (fun wz=>UP 64520 wz);have HAS:Hid (∀ wz,Calls Tryz.prog 153 #[.int .i64 64520] wz (WP (true,true,false,false) wz)):=HAS;unfold WP at HAS;simp only at HAS;have HOP:=hD (fun wz=>Wl 64520 wz);have HOP:Hid (∀ wz,Calls Tryz.prog 87 #[.int .i64 64520] wz (fun e w'=>e=.returned (.bool false)∧wz=w')):=HOP;have HMO:=hD (fun wz=>UV 64520 wz);unfold Vz at HMO;have HIS:=hD (and5 (UT ⟨64520,a,b,n,l⟩ hk));simp only at HIS;rw[show Wp 64520=(0,3,15,0,0,0) from rfl]at HIS;have HMO:Hid (∀ wz,Calls Tryz.prog 154 #[.int .i64 64520] wz (fun e w'=>e=.returned (.int .i64 3)∧wz=w')):=HMO;simp only at HIS;generalize WX ⟨64520,a,b,n,l⟩=R at HIS ⊢;rw[Tb l]at HIS;obtain⟨nl,hnl⟩:∃ n,l.length=n:=⟨_,rfl⟩;have HNL:=hD hnl;rw[hnl]at HL HIS hm ⊢;clear hnl;clear hk;have HB1:=hD ((bR w.heap.size w).alloc (nR _) (.cells #[.int .i64 64520,.int .i64 a,.int .i64 b,.int .u64 n,.slice A nl c] 25));have HC:Hid (∀ wz,Below (w.alloc (.cells #[.int .i64 64520,.int .i64 a,.int .i64 b,.int .u64 n,.slice A nl c] 25)).heap.size (w.alloc (.cells #[.int .i64 64520,.int .i64 a,.int .i64 b,.int .u64 n,.slice A nl c] 25)) wz→wz.cell? ⟨w.heap.size,0,none⟩=some (.int .i64 64520)∧wz.cell? ⟨w.heap.size,1,none⟩=some (.int .i64 a)∧wz.cell? ⟨w.heap.size,2,none⟩=some (.int .i64 b)∧wz.cell? ⟨w.heap.size,3,none⟩=some (.int .u64 n)∧wz.cell? ⟨w.heap.size,4,none⟩=some (.slice A nl c)):=hD fun wz hb=>by
  have h9:∀ i,wz.cell? ⟨w.heap.size,i,none⟩=(#[.int .i64 64520,.int .i64 a,.int .i64 b,.int .u64 n,.slice A nl c]:Array Value)[i]?:=fun i=>(hb.cell (p:=⟨w.heap.size,i,none⟩) (by simp)).trans (wN w _ _ i);exact ZcJ
 go_enter Tryz.func110,Tryz.ntmps110;by_cases cA:a<0
 ·have dA:decide (a<0)=true:=decide_eq_true cA;clear cA hn;have HR:=hD (show R=false by rw[HIS.out,inB_out a _ _ dA,Bool.false_and]);have HIN:Hid True:=hD trivial;exact Zo
 ·have dA:decide (a<0)=false:=decide_eq_false cA;clear cA;by_cases cA:3<a
  ·have dB:decide (3<a)=true:=decide_eq_true cA;clear cA hn;have HR:=hD (show R=false by rw[HIS.out,inB_over a _ _ dB,Bool.false_and]);have HIN:Hid True:=hD trivial;exact Zo
  ·have dB:decide (3<a)=false:=decide_eq_false cA;clear cA;rw[inB_yes a _ _ dA dB,Bool.true_and]at HIS;have HIN:=hD (fun wz=>din_any b 15 wz);unfold PureB at HIN;generalize inB b 0 15=bb at HIN HIS;cases bb with
   | false =>
    have HR:=hD (show R=false by rw[HIS.out,Bool.false_and]);clear hn;exact Zo
   | true =>
    rw[Bool.true_and]at HIS;by_cases cN:n=0
    rotate_left
    ·have dN:(n==0)=false:=by simpa using cN
     have dN1:(n != 0)=true:=by simpa using cN
     have dN2:decide (n=0)=false:=by simpa using cN
     have HR:=hD (show R=false by rw[HIS.out,decide_eq_false (by omega),Bool.false_and]);clear cN hn;exact Zo
    ·rw[decide_eq_true (by omega),Bool.true_and]at HIS;subst cN;clear hn;have HR:=HIS;exact Zo
theorem dinst_ab2 (w:World) (a b n:Int) (l:List Int) (Lv:Value) (hL:Wf (fun k=>k<w.heap.size) w Lv l) (hn:0≤n∧n≤18446744073709551615) (hk:W9 64522=true):Calls Tryz.prog 110 #[.agg #[.int .i64 64522,.int .i64 a,.int .i64 b,.int .u64 n,Lv]] w (Wh (WX ⟨64522,a,b,n,l⟩) w):=by
 obtain⟨A,c,hv,hm,_⟩:=hL.form;unfold maxLen at hm;have HL:=hD hL;rw[hv]at HL ⊢;clear hL hv;have HKN:=hD (fun wz=>VZ 64522 wz);rw[hk]at HKN;have HAS:=hD (fun wz=>UP 64522 wz);have HAS:Hid (∀ wz,Calls Tryz.prog 153 #[.int .i64 64522] wz (WP (true,true,false,false) wz)):=HAS;unfold WP at HAS;simp only at HAS;have HOP:=hD (fun wz=>Wl 64522 wz);have HOP:Hid (∀ wz,Calls Tryz.prog 87 #[.int .i64 64522] wz (fun e w'=>e=.returned (.bool false)∧wz=w')):=HOP;have HMO:=hD (fun wz=>UV 64522 wz);unfold Vz at HMO;have HIS:=hD (and5 (UT ⟨64522,a,b,n,l⟩ hk));simp only at HIS;rw[show Wp 64522=(0,3,3,0,0,0) from rfl]at HIS;have HMO:Hid (∀ wz,Calls Tryz.prog 154 #[.int .i64 64522] wz (fun e w'=>e=.returned (.int .i64 3)∧wz=w')):=HMO;simp only at HIS;generalize WX ⟨64522,a,b,n,l⟩=R at HIS ⊢;rw[Tb l]at HIS;obtain⟨nl,hnl⟩:∃ n,l.length=n:=⟨_,rfl⟩;have HNL:=hD hnl;rw[hnl]at HL HIS hm ⊢;clear hnl;clear hk;have HB1:=hD ((bR w.heap.size w).alloc (nR _) (.cells #[.int .i64 64522,.int .i64 a,.int .i64 b,.int .u64 n,.slice A nl c] 25));have HC:Hid (∀ wz,Below (w.alloc (.cells #[.int .i64 64522,.int .i64 a,.int .i64 b,.int .u64 n,.slice A nl c] 25)).heap.size (w.alloc (.cells #[.int .i64 64522,.int .i64 a,.int .i64 b,.int .u64 n,.slice A nl c] 25)) wz→wz.cell? ⟨w.heap.size,0,none⟩=some (.int .i64 64522)∧wz.cell? ⟨w.heap.size,1,none⟩=some (.int .i64 a)∧wz.cell? ⟨w.heap.size,2,none⟩=some (.int .i64 b)∧wz.cell? ⟨w.heap.size,3,none⟩=some (.int .u64 n)∧wz.cell? ⟨w.heap.size,4,none⟩=some (.slice A nl c)):=hD fun wz hb=>by
  have h9:∀ i,wz.cell? ⟨w.heap.size,i,none⟩=(#[.int .i64 64522,.int .i64 a,.int .i64 b,.int .u64 n,.slice A nl c]:Array Value)[i]?:=fun i=>(hb.cell (p:=⟨w.heap.size,i,none⟩) (by simp)).trans (wN w _ _ i);exact ZcJ
 go_enter Tryz.func110,Tryz.ntmps110;by_cases cA:a<0
 ·have dA:decide (a<0)=true:=decide_eq_true cA;clear cA hn;have HR:=hD (show R=false by rw[HIS.out,inB_out a _ _ dA,Bool.false_and]);have HIN:Hid True:=hD trivial;exact Zp
 ·have dA:decide (a<0)=false:=decide_eq_false cA;clear cA;by_cases cA:3<a
  ·have dB:decide (3<a)=true:=decide_eq_true cA;clear cA hn;have HR:=hD (show R=false by rw[HIS.out,inB_over a _ _ dB,Bool.false_and]);have HIN:Hid True:=hD trivial;exact Zp
  ·have dB:decide (3<a)=false:=decide_eq_false cA;clear cA;rw[inB_yes a _ _ dA dB,Bool.true_and]at HIS;have HIN:=hD (fun wz=>din_any b 3 wz);unfold PureB at HIN;generalize inB b 0 3=bb at HIN HIS;cases bb with
   | false =>
    have HR:=hD (show R=false by rw[HIS.out,Bool.false_and]);clear hn;exact Zp
   | true =>
    rw[Bool.true_and]at HIS;by_cases cN:n=0
    rotate_left
    ·have dN:(n==0)=false:=by simpa using cN
     have dN1:(n != 0)=true:=by simpa using cN
     have dN2:decide (n=0)=false:=by simpa using cN
     have HR:=hD (show R=false by rw[HIS.out,decide_eq_false (by omega),Bool.false_and]);clear cN hn;exact Zp
    ·rw[decide_eq_true (by omega),Bool.true_and]at HIS;subst cN;clear hn;have HR:=HIS;exact Zp
theorem dinst_n65 (w:World) (a b n:Int) (l:List Int) (Lv:Value) (hL:Wf (fun k=>k<w.heap.size) w Lv l) (hn:0≤n∧n≤18446744073709551615) (hk:W9 65=true):Calls Tryz.prog 110 #[.agg #[.int .i64 65,.int .i64 a,.int .i64 b,.int .u64 n,Lv]] w (Wh (WX ⟨65,a,b,n,l⟩) w):=by
 obtain⟨A,c,hv,hm,_⟩:=hL.form;unfold maxLen at hm;have HL:=hD hL;rw[hv]at HL ⊢;clear hL hv;have HKN:=hD (fun wz=>VZ 65 wz);rw[hk]at HKN;have HAS:=hD (fun wz=>UP 65 wz);have HAS:Hid (∀ wz,Calls Tryz.prog 153 #[.int .i64 65] wz (WP (false,false,true,false) wz)):=HAS;unfold WP at HAS;simp only at HAS;have HOP:=hD (fun wz=>Wl 65 wz);have HOP:Hid (∀ wz,Calls Tryz.prog 87 #[.int .i64 65] wz (fun e w'=>e=.returned (.bool false)∧wz=w')):=HOP;have HMO:=hD (fun wz=>UV 65 wz);unfold Vz at HMO;have HIS:=hD (and5 (UT ⟨65,a,b,n,l⟩ hk));simp only at HIS;rw[show Wp 65=(0,0,0,4294967295,0,0) from rfl]at HIS;simp only at HIS;generalize WX ⟨65,a,b,n,l⟩=R at HIS ⊢;rw[Tb l]at HIS;obtain⟨nl,hnl⟩:∃ n,l.length=n:=⟨_,rfl⟩;have HNL:=hD hnl;rw[hnl]at HL HIS hm ⊢;clear hnl;clear hk;have HB1:=hD ((bR w.heap.size w).alloc (nR _) (.cells #[.int .i64 65,.int .i64 a,.int .i64 b,.int .u64 n,.slice A nl c] 25));have HC:Hid (∀ wz,Below (w.alloc (.cells #[.int .i64 65,.int .i64 a,.int .i64 b,.int .u64 n,.slice A nl c] 25)).heap.size (w.alloc (.cells #[.int .i64 65,.int .i64 a,.int .i64 b,.int .u64 n,.slice A nl c] 25)) wz→wz.cell? ⟨w.heap.size,0,none⟩=some (.int .i64 65)∧wz.cell? ⟨w.heap.size,1,none⟩=some (.int .i64 a)∧wz.cell? ⟨w.heap.size,2,none⟩=some (.int .i64 b)∧wz.cell? ⟨w.heap.size,3,none⟩=some (.int .u64 n)∧wz.cell? ⟨w.heap.size,4,none⟩=some (.slice A nl c)):=hD fun wz hb=>by
  have h9:∀ i,wz.cell? ⟨w.heap.size,i,none⟩=(#[.int .i64 65,.int .i64 a,.int .i64 b,.int .u64 n,.slice A nl c]:Array Value)[i]?:=fun i=>(hb.cell (p:=⟨w.heap.size,i,none⟩) (by simp)).trans (wN w _ _ i);exact ZcJ
 go_enter Tryz.func110,Tryz.ntmps110;rw[V9 a]at HIS;by_cases cA:a=0
 rotate_left
 ·have dA:(a==0)=false:=by simpa using cA
  clear cA hn;have HR:=hD (show R=false by rw[HIS.out,dA,Bool.false_and]);have HIN:Hid True:=hD trivial;go_wp2_with (first|(go_at_call 152;(with_reducible refine(HKN.out _).mono ?_);rintro e w' ⟨rfl,hb⟩;have HB:=hD hb;obtain⟨j0,j1,j2,j3,j4⟩:=HC.out _ hb;clear hb)|(go_at_call 153;(with_reducible refine(HAS.out _).mono ?_);rintro e w'' ⟨rfl,rfl⟩)|(go_at_call 87;(with_reducible refine(HOP.out _).mono ?_);rintro e w'' ⟨rfl,rfl⟩)|(go_at_call 154;(with_reducible refine(HMO.out _).mono ?_);rintro e w'' ⟨rfl,rfl⟩)|(go_at_call 109;(with_reducible refine(HIN.out _).mono ?_);rintro e w'' ⟨rfl,rfl⟩))
  obtain⟨m0,m1,m2,m3,m4⟩:=HC.out _ HB.out.drew;have HS:=hD (And.intro m0 m1);clear j0 j1 j2 j3 j4;refine wp_region_held_drew (S:=fun wz=>wz.cell? ⟨w.heap.size,0,none⟩=some (.int .i64 65)∧wz.cell? ⟨w.heap.size,1,none⟩=some (.int .i64 a)) (by kernel_rfl) HS.out (fun hS=>?_);exact Za
 ·have dA:(a==0)=true:=by simpa using cA
  rw[dA,Bool.true_and]at HIS;subst cA;clear dA;have HIN:Hid True:=hD trivial;rw[V9 b]at HIS;by_cases cB:b=0
  rotate_left
  ·have dB0:(b==0)=false:=by simpa using cB
   clear cB hn;have HR:=hD (show R=false by rw[HIS.out,dB0,Bool.false_and]);exact ZB
  ·have dB0:(b==0)=true:=by simpa using cB
   rw[dB0,Bool.true_and]at HIS;subst cB;clear dB0;by_cases cN:n≤4294967295
   rotate_left
   ·have dN:decide (4294967296≤n)=true:=by simp;omega
    have HR:=hD (show R=false by rw[HIS.out,decide_eq_false cN,Bool.false_and]);clear cN hn;exact ZB
   ·have dN:decide (4294967296≤n)=false:=by simp;omega
    rw[decide_eq_true cN,Bool.true_and]at HIS;clear cN hn;have HR:=HIS;exact ZB
theorem dinst_n66 (w:World) (a b n:Int) (l:List Int) (Lv:Value) (hL:Wf (fun k=>k<w.heap.size) w Lv l) (hn:0≤n∧n≤18446744073709551615) (hk:W9 66=true):Calls Tryz.prog 110 #[.agg #[.int .i64 66,.int .i64 a,.int .i64 b,.int .u64 n,Lv]] w (Wh (WX ⟨66,a,b,n,l⟩) w):=by
 obtain⟨A,c,hv,hm,_⟩:=hL.form;unfold maxLen at hm;have HL:=hD hL;rw[hv]at HL ⊢;clear hL hv;have HKN:=hD (fun wz=>VZ 66 wz);rw[hk]at HKN;have HAS:=hD (fun wz=>UP 66 wz);have HAS:Hid (∀ wz,Calls Tryz.prog 153 #[.int .i64 66] wz (WP (false,false,true,false) wz)):=HAS;unfold WP at HAS;simp only at HAS;have HOP:=hD (fun wz=>Wl 66 wz);have HOP:Hid (∀ wz,Calls Tryz.prog 87 #[.int .i64 66] wz (fun e w'=>e=.returned (.bool false)∧wz=w')):=HOP;have HMO:=hD (fun wz=>UV 66 wz);unfold Vz at HMO;have HIS:=hD (and5 (UT ⟨66,a,b,n,l⟩ hk));simp only at HIS;rw[show Wp 66=(0,0,0,18446744073709551615,0,0) from rfl]at HIS;simp only at HIS;generalize WX ⟨66,a,b,n,l⟩=R at HIS ⊢;rw[Tb l]at HIS;obtain⟨nl,hnl⟩:∃ n,l.length=n:=⟨_,rfl⟩;have HNL:=hD hnl;rw[hnl]at HL HIS hm ⊢;clear hnl;clear hk;have HB1:=hD ((bR w.heap.size w).alloc (nR _) (.cells #[.int .i64 66,.int .i64 a,.int .i64 b,.int .u64 n,.slice A nl c] 25));have HC:Hid (∀ wz,Below (w.alloc (.cells #[.int .i64 66,.int .i64 a,.int .i64 b,.int .u64 n,.slice A nl c] 25)).heap.size (w.alloc (.cells #[.int .i64 66,.int .i64 a,.int .i64 b,.int .u64 n,.slice A nl c] 25)) wz→wz.cell? ⟨w.heap.size,0,none⟩=some (.int .i64 66)∧wz.cell? ⟨w.heap.size,1,none⟩=some (.int .i64 a)∧wz.cell? ⟨w.heap.size,2,none⟩=some (.int .i64 b)∧wz.cell? ⟨w.heap.size,3,none⟩=some (.int .u64 n)∧wz.cell? ⟨w.heap.size,4,none⟩=some (.slice A nl c)):=hD fun wz hb=>by
  have h9:∀ i,wz.cell? ⟨w.heap.size,i,none⟩=(#[.int .i64 66,.int .i64 a,.int .i64 b,.int .u64 n,.slice A nl c]:Array Value)[i]?:=fun i=>(hb.cell (p:=⟨w.heap.size,i,none⟩) (by simp)).trans (wN w _ _ i);exact ZcJ
 go_enter Tryz.func110,Tryz.ntmps110;rw[V9 a]at HIS;by_cases cA:a=0
 rotate_left
 ·have dA:(a==0)=false:=by simpa using cA
  clear cA hn;have HR:=hD (show R=false by rw[HIS.out,dA,Bool.false_and]);have HIN:Hid True:=hD trivial;go_wp2_with (first|(go_at_call 152;(with_reducible refine(HKN.out _).mono ?_);rintro e w' ⟨rfl,hb⟩;have HB:=hD hb;obtain⟨j0,j1,j2,j3,j4⟩:=HC.out _ hb;clear hb)|(go_at_call 153;(with_reducible refine(HAS.out _).mono ?_);rintro e w'' ⟨rfl,rfl⟩)|(go_at_call 87;(with_reducible refine(HOP.out _).mono ?_);rintro e w'' ⟨rfl,rfl⟩)|(go_at_call 154;(with_reducible refine(HMO.out _).mono ?_);rintro e w'' ⟨rfl,rfl⟩)|(go_at_call 109;(with_reducible refine(HIN.out _).mono ?_);rintro e w'' ⟨rfl,rfl⟩))
  obtain⟨m0,m1,m2,m3,m4⟩:=HC.out _ HB.out.drew;have HS:=hD (And.intro m0 m1);clear j0 j1 j2 j3 j4;refine wp_region_held_drew (S:=fun wz=>wz.cell? ⟨w.heap.size,0,none⟩=some (.int .i64 66)∧wz.cell? ⟨w.heap.size,1,none⟩=some (.int .i64 a)) (by kernel_rfl) HS.out (fun hS=>?_);exact Za
 ·have dA:(a==0)=true:=by simpa using cA
  rw[dA,Bool.true_and]at HIS;subst cA;clear dA;have HIN:Hid True:=hD trivial;rw[V9 b]at HIS;by_cases cB:b=0
  rotate_left
  ·have dB0:(b==0)=false:=by simpa using cB
   clear cB hn;have HR:=hD (show R=false by rw[HIS.out,dB0,Bool.false_and]);exact ZV
  ·have dB0:(b==0)=true:=by simpa using cB
   rw[dB0,Bool.true_and]at HIS;subst cB;clear dB0;rw[decide_eq_true hn.2,Bool.true_and]at HIS;clear hn;have HR:=HIS;exact ZV
theorem dinst_n68 (w:World) (a b n:Int) (l:List Int) (Lv:Value) (hL:Wf (fun k=>k<w.heap.size) w Lv l) (hn:0≤n∧n≤18446744073709551615) (hk:W9 68=true):Calls Tryz.prog 110 #[.agg #[.int .i64 68,.int .i64 a,.int .i64 b,.int .u64 n,Lv]] w (Wh (WX ⟨68,a,b,n,l⟩) w):=by
 obtain⟨A,c,hv,hm,_⟩:=hL.form;unfold maxLen at hm;have HL:=hD hL;rw[hv]at HL ⊢;clear hL hv;have HKN:=hD (fun wz=>VZ 68 wz);rw[hk]at HKN;have HAS:=hD (fun wz=>UP 68 wz);have HAS:Hid (∀ wz,Calls Tryz.prog 153 #[.int .i64 68] wz (WP (false,false,true,false) wz)):=HAS;unfold WP at HAS;simp only at HAS;have HOP:=hD (fun wz=>Wl 68 wz);have HOP:Hid (∀ wz,Calls Tryz.prog 87 #[.int .i64 68] wz (fun e w'=>e=.returned (.bool false)∧wz=w')):=HOP;have HMO:=hD (fun wz=>UV 68 wz);unfold Vz at HMO;have HIS:=hD (and5 (UT ⟨68,a,b,n,l⟩ hk));simp only at HIS;rw[show Wp 68=(0,0,0,18446744073709551615,0,0) from rfl]at HIS;simp only at HIS;generalize WX ⟨68,a,b,n,l⟩=R at HIS ⊢;rw[Tb l]at HIS;obtain⟨nl,hnl⟩:∃ n,l.length=n:=⟨_,rfl⟩;have HNL:=hD hnl;rw[hnl]at HL HIS hm ⊢;clear hnl;clear hk;have HB1:=hD ((bR w.heap.size w).alloc (nR _) (.cells #[.int .i64 68,.int .i64 a,.int .i64 b,.int .u64 n,.slice A nl c] 25));have HC:Hid (∀ wz,Below (w.alloc (.cells #[.int .i64 68,.int .i64 a,.int .i64 b,.int .u64 n,.slice A nl c] 25)).heap.size (w.alloc (.cells #[.int .i64 68,.int .i64 a,.int .i64 b,.int .u64 n,.slice A nl c] 25)) wz→wz.cell? ⟨w.heap.size,0,none⟩=some (.int .i64 68)∧wz.cell? ⟨w.heap.size,1,none⟩=some (.int .i64 a)∧wz.cell? ⟨w.heap.size,2,none⟩=some (.int .i64 b)∧wz.cell? ⟨w.heap.size,3,none⟩=some (.int .u64 n)∧wz.cell? ⟨w.heap.size,4,none⟩=some (.slice A nl c)):=hD fun wz hb=>by
  have h9:∀ i,wz.cell? ⟨w.heap.size,i,none⟩=(#[.int .i64 68,.int .i64 a,.int .i64 b,.int .u64 n,.slice A nl c]:Array Value)[i]?:=fun i=>(hb.cell (p:=⟨w.heap.size,i,none⟩) (by simp)).trans (wN w _ _ i);exact ZcJ
 go_enter Tryz.func110,Tryz.ntmps110;rw[V9 a]at HIS;by_cases cA:a=0
 rotate_left
 ·have dA:(a==0)=false:=by simpa using cA
  clear cA hn;have HR:=hD (show R=false by rw[HIS.out,dA,Bool.false_and]);have HIN:Hid True:=hD trivial;go_wp2_with (first|(go_at_call 152;(with_reducible refine(HKN.out _).mono ?_);rintro e w' ⟨rfl,hb⟩;have HB:=hD hb;obtain⟨j0,j1,j2,j3,j4⟩:=HC.out _ hb;clear hb)|(go_at_call 153;(with_reducible refine(HAS.out _).mono ?_);rintro e w'' ⟨rfl,rfl⟩)|(go_at_call 87;(with_reducible refine(HOP.out _).mono ?_);rintro e w'' ⟨rfl,rfl⟩)|(go_at_call 154;(with_reducible refine(HMO.out _).mono ?_);rintro e w'' ⟨rfl,rfl⟩)|(go_at_call 109;(with_reducible refine(HIN.out _).mono ?_);rintro e w'' ⟨rfl,rfl⟩))
  obtain⟨m0,m1,m2,m3,m4⟩:=HC.out _ HB.out.drew;have HS:=hD (And.intro m0 m1);clear j0 j1 j2 j3 j4;refine wp_region_held_drew (S:=fun wz=>wz.cell? ⟨w.heap.size,0,none⟩=some (.int .i64 68)∧wz.cell? ⟨w.heap.size,1,none⟩=some (.int .i64 a)) (by kernel_rfl) HS.out (fun hS=>?_);exact Za
 ·have dA:(a==0)=true:=by simpa using cA
  rw[dA,Bool.true_and]at HIS;subst cA;clear dA;have HIN:Hid True:=hD trivial;rw[V9 b]at HIS;by_cases cB:b=0
  rotate_left
  ·have dB0:(b==0)=false:=by simpa using cB
   clear cB hn;have HR:=hD (show R=false by rw[HIS.out,dB0,Bool.false_and]);exact ZW
  ·have dB0:(b==0)=true:=by simpa using cB
   rw[dB0,Bool.true_and]at HIS;subst cB;clear dB0;rw[decide_eq_true hn.2,Bool.true_and]at HIS;clear hn;have HR:=HIS;exact ZW
theorem dinst_lab (w:World) (a b n:Int) (l:List Int) (Lv:Value) (hL:Wf (fun k=>k<w.heap.size) w Lv l) (hn:0≤n∧n≤18446744073709551615) (hk:W9 14=true):Calls Tryz.prog 110 #[.agg #[.int .i64 14,.int .i64 a,.int .i64 b,.int .u64 n,Lv]] w (Wh (WX ⟨14,a,b,n,l⟩) w):=by
 obtain⟨A,c,hv,hm,_⟩:=hL.form;unfold maxLen at hm;have HL:=hD hL;rw[hv]at HL ⊢;clear hL hv;have HKN:=hD (fun wz=>VZ 14 wz);rw[hk]at HKN;have HAS:=hD (fun wz=>UP 14 wz);have HAS:Hid (∀ wz,Calls Tryz.prog 153 #[.int .i64 14] wz (WP (false,false,false,true) wz)):=HAS;unfold WP at HAS;simp only at HAS;have HOP:=hD (fun wz=>Wl 14 wz);have HOP:Hid (∀ wz,Calls Tryz.prog 87 #[.int .i64 14] wz (fun e w'=>e=.returned (.bool false)∧wz=w')):=HOP;have HMO:=hD (fun wz=>UV 14 wz);unfold Vz at HMO;have HIS:=hD (and5 (UT ⟨14,a,b,n,l⟩ hk));simp only at HIS;rw[show Wp 14=(0,0,0,0,1,17) from rfl]at HIS;simp only at HIS;generalize WX ⟨14,a,b,n,l⟩=R at HIS ⊢;obtain⟨nl,hnl⟩:∃ n,l.length=n:=⟨_,rfl⟩;have HNL:=hD hnl;rw[hnl]at HL HIS hm ⊢;clear hnl;clear hk;have HB1:=hD ((bR w.heap.size w).alloc (nR _) (.cells #[.int .i64 14,.int .i64 a,.int .i64 b,.int .u64 n,.slice A nl c] 25));have HC:Hid (∀ wz,Below (w.alloc (.cells #[.int .i64 14,.int .i64 a,.int .i64 b,.int .u64 n,.slice A nl c] 25)).heap.size (w.alloc (.cells #[.int .i64 14,.int .i64 a,.int .i64 b,.int .u64 n,.slice A nl c] 25)) wz→wz.cell? ⟨w.heap.size,0,none⟩=some (.int .i64 14)∧wz.cell? ⟨w.heap.size,1,none⟩=some (.int .i64 a)∧wz.cell? ⟨w.heap.size,2,none⟩=some (.int .i64 b)∧wz.cell? ⟨w.heap.size,3,none⟩=some (.int .u64 n)∧wz.cell? ⟨w.heap.size,4,none⟩=some (.slice A nl c)):=hD fun wz hb=>by
  have h9:∀ i,wz.cell? ⟨w.heap.size,i,none⟩=(#[.int .i64 14,.int .i64 a,.int .i64 b,.int .u64 n,.slice A nl c]:Array Value)[i]?:=fun i=>(hb.cell (p:=⟨w.heap.size,i,none⟩) (by simp)).trans (wN w _ _ i);exact ZcJ
 go_enter Tryz.func110,Tryz.ntmps110;rw[V9 a]at HIS;by_cases cA:a=0
 rotate_left
 ·have dA:(a==0)=false:=by simpa using cA
  clear cA hn;have HR:=hD (show R=false by rw[HIS.out,dA,Bool.false_and]);have HIN:Hid True:=hD trivial;go_wp2_with (first|(go_at_call 152;(with_reducible refine(HKN.out _).mono ?_);rintro e w' ⟨rfl,hb⟩;have HB:=hD hb;obtain⟨j0,j1,j2,j3,j4⟩:=HC.out _ hb;clear hb)|(go_at_call 153;(with_reducible refine(HAS.out _).mono ?_);rintro e w'' ⟨rfl,rfl⟩)|(go_at_call 87;(with_reducible refine(HOP.out _).mono ?_);rintro e w'' ⟨rfl,rfl⟩)|(go_at_call 154;(with_reducible refine(HMO.out _).mono ?_);rintro e w'' ⟨rfl,rfl⟩)|(go_at_call 109;(with_reducible refine(HIN.out _).mono ?_);rintro e w'' ⟨rfl,rfl⟩))
  obtain⟨m0,m1,m2,m3,m4⟩:=HC.out _ HB.out.drew;have HS:=hD (And.intro m0 m1);clear j0 j1 j2 j3 j4;refine wp_region_held_drew (S:=fun wz=>wz.cell? ⟨w.heap.size,0,none⟩=some (.int .i64 14)∧wz.cell? ⟨w.heap.size,1,none⟩=some (.int .i64 a)) (by kernel_rfl) HS.out (fun hS=>?_);exact Za
 ·have dA:(a==0)=true:=by simpa using cA
  rw[dA,Bool.true_and]at HIS;subst cA;clear dA;have HIN:Hid True:=hD trivial;rw[V9 b]at HIS;by_cases cB:b=0
  rotate_left
  ·have dB0:(b==0)=false:=by simpa using cB
   clear cB hn;have HR:=hD (show R=false by rw[HIS.out,dB0,Bool.false_and]);exact ZX
  ·have dB0:(b==0)=true:=by simpa using cB
   rw[dB0,Bool.true_and]at HIS;subst cB;clear dB0;by_cases cN:n=0
   rotate_left
   ·have dN:(n==0)=false:=by simpa using cN
    have dN1:(n != 0)=true:=by simpa using cN
    have dN2:decide (n=0)=false:=by simpa using cN
    have HR:=hD (show R=false by rw[HIS.out,decide_eq_false (by omega),Bool.false_and]);clear cN hn;exact ZX
   ·rw[decide_eq_true (by omega),Bool.true_and]at HIS;subst cN;clear hn;go_wp2_with (first|(go_at_call 152;(with_reducible refine(HKN.out _).mono ?_);rintro e w' ⟨rfl,hb⟩;have HB:=hD hb;obtain⟨j0,j1,j2,j3,j4⟩:=HC.out _ hb;clear hb)|(go_at_call 153;(with_reducible refine(HAS.out _).mono ?_);rintro e w'' ⟨rfl,rfl⟩)|(go_at_call 87;(with_reducible refine(HOP.out _).mono ?_);rintro e w'' ⟨rfl,rfl⟩)|(go_at_call 154;(with_reducible refine(HMO.out _).mono ?_);rintro e w'' ⟨rfl,rfl⟩)|(go_at_call 109;(with_reducible refine(HIN.out _).mono ?_);rintro e w'' ⟨rfl,rfl⟩))
    obtain⟨m0,m1,m2,m3,m4⟩:=HC.out _ HB.out.drew;have HS:=hD (And.intro m0 m1);clear j0 j1 j2 j3 j4;refine wp_region_held_drew (S:=fun wz=>wz.cell? ⟨w.heap.size,0,none⟩=some (.int .i64 14)∧wz.cell? ⟨w.heap.size,1,none⟩=some (.int .i64 0)) (by kernel_rfl) HS.out (fun hS=>?_);show wpAnyH _ _ _ _ _ 24 #[false,false,false,false,false,false,false,false,false,false,false,false,false,false,false,false,false,false,false,false,false,false,false,false] _ _;first|refine mT 0 25 rfl hS ?_ (hy:=by intro wS hSw;obtain⟨q0,q1⟩:=hSw;go_simp;try with_reducible rfl)|refine mN 0 25 rfl hS ?_
    first|refine mT 1 26 rfl hS ?_ (hy:=by intro wS hSw;obtain⟨q0,q1⟩:=hSw;go_simp;try with_reducible rfl)|refine mN 1 26 rfl hS ?_
    first|refine mT 2 27 rfl hS ?_ (hy:=by intro wS hSw;obtain⟨q0,q1⟩:=hSw;go_simp;try with_reducible rfl)|refine mN 2 27 rfl hS ?_
    first|refine mT 3 28 rfl hS ?_ (hy:=by intro wS hSw;obtain⟨q0,q1⟩:=hSw;go_simp;try with_reducible rfl)|refine mN 3 28 rfl hS ?_
    first|refine mT 4 29 rfl hS ?_ (hy:=by intro wS hSw;obtain⟨q0,q1⟩:=hSw;go_simp;try with_reducible rfl)|refine mN 4 29 rfl hS ?_
    first|refine mT 5 30 rfl hS ?_ (hy:=by intro wS hSw;obtain⟨q0,q1⟩:=hSw;go_simp;try with_reducible rfl)|refine mN 5 30 rfl hS ?_
    first|refine mT 6 31 rfl hS ?_ (hy:=by intro wS hSw;obtain⟨q0,q1⟩:=hSw;go_simp;try with_reducible rfl)|refine mN 6 31 rfl hS ?_
    first|refine mT 7 32 rfl hS ?_ (hy:=by intro wS hSw;obtain⟨q0,q1⟩:=hSw;go_simp;try with_reducible rfl)|refine mN 7 32 rfl hS ?_
    first|refine mT 8 33 rfl hS ?_ (hy:=by intro wS hSw;obtain⟨q0,q1⟩:=hSw;go_simp;try with_reducible rfl)|refine mN 8 33 rfl hS ?_
    first|refine mT 9 34 rfl hS ?_ (hy:=by intro wS hSw;obtain⟨q0,q1⟩:=hSw;go_simp;try with_reducible rfl)|refine mN 9 34 rfl hS ?_
    first|refine mT 10 35 rfl hS ?_ (hy:=by intro wS hSw;obtain⟨q0,q1⟩:=hSw;go_simp;try with_reducible rfl)|refine mN 10 35 rfl hS ?_
    refine mR 11 36 rfl fun K hK=>?_;first|(go_simp;go_at_call 154;refine(HMO.out _).mono ?_;rintro e w'' ⟨rfl,rfl⟩;go_wp2_with fail;refine hK.out _ _ hS (fun _=>?_);clear hK K;try simp only[sA,List.set])|(go_simp;refine hK.out _ _ hS (fun _=>?_);clear hK K)
    first|refine mT 12 37 rfl hS ?_ (hy:=by intro wS hSw;obtain⟨q0,q1⟩:=hSw;go_simp;try with_reducible rfl)|refine mN 12 37 rfl hS ?_
    first|refine mT 13 38 rfl hS ?_ (hy:=by intro wS hSw;obtain⟨q0,q1⟩:=hSw;go_simp;try with_reducible rfl)|refine mN 13 38 rfl hS ?_
    first|refine mT 14 39 rfl hS ?_ (hy:=by intro wS hSw;obtain⟨q0,q1⟩:=hSw;go_simp;try with_reducible rfl)|refine mN 14 39 rfl hS ?_
    first|refine mT 15 40 rfl hS ?_ (hy:=by intro wS hSw;obtain⟨q0,q1⟩:=hSw;go_simp;try with_reducible rfl)|refine mN 15 40 rfl hS ?_
    first|refine mT 16 41 rfl hS ?_ (hy:=by intro wS hSw;obtain⟨q0,q1⟩:=hSw;go_simp;try with_reducible rfl)|refine mN 16 41 rfl hS ?_
    first|refine mT 17 42 rfl hS ?_ (hy:=by intro wS hSw;obtain⟨q0,q1⟩:=hSw;go_simp;try with_reducible rfl)|refine mN 17 42 rfl hS ?_
    first|refine mT 18 43 rfl hS ?_ (hy:=by intro wS hSw;obtain⟨q0,q1⟩:=hSw;go_simp;try with_reducible rfl)|refine mN 18 43 rfl hS ?_
    first|refine mT 19 44 rfl hS ?_ (hy:=by intro wS hSw;obtain⟨q0,q1⟩:=hSw;go_simp;try with_reducible rfl)|refine mN 19 44 rfl hS ?_
    first|refine mT 20 45 rfl hS ?_ (hy:=by intro wS hSw;obtain⟨q0,q1⟩:=hSw;go_simp;try with_reducible rfl)|refine mN 20 45 rfl hS ?_
    first|refine mT 21 46 rfl hS ?_ (hy:=by intro wS hSw;obtain⟨q0,q1⟩:=hSw;go_simp;try with_reducible rfl)|refine mN 21 46 rfl hS ?_
    first|refine mT 22 47 rfl hS ?_ (hy:=by intro wS hSw;obtain⟨q0,q1⟩:=hSw;go_simp;try with_reducible rfl)|refine mN 22 47 rfl hS ?_
    first|refine mT 23 48 rfl hS ?_ (hy:=by intro wS hSw;obtain⟨q0,q1⟩:=hSw;go_simp;try with_reducible rfl)|refine mN 23 48 rfl hS ?_
    refine wpAnyH_done (by kernel_rfl) ?_ _;clear hS;go_wp2_with (first|(go_at_call 152;(with_reducible refine(HKN.out _).mono ?_);rintro e w' ⟨rfl,hb⟩;have HB:=hD hb;obtain⟨j0,j1,j2,j3,j4⟩:=HC.out _ hb;clear hb)|(go_at_call 153;(with_reducible refine(HAS.out _).mono ?_);rintro e w'' ⟨rfl,rfl⟩)|(go_at_call 87;(with_reducible refine(HOP.out _).mono ?_);rintro e w'' ⟨rfl,rfl⟩)|(go_at_call 154;(with_reducible refine(HMO.out _).mono ?_);rintro e w'' ⟨rfl,rfl⟩)|(go_at_call 109;(with_reducible refine(HIN.out _).mono ?_);rintro e w'' ⟨rfl,rfl⟩))
    go_loopw [9] (fun i wr=>∃ k:Nat,k≤nl∧i=.int .i64 (k:Int)∧w'.drew=wr∧Hid (W0 labB l 0 k)) (fun i _=>nl - (intOf i).toNat)
    case atStart=>exact⟨0,nZ _,rfl,by first|rfl|trivial,hD (W0.zero _ _ _)⟩
    case round =>
     obtain⟨k,hk,rfl,rfl,HA⟩:=hrel;by_cases hlt:k<nl
     ·have hd:decide ((k:Int)<(nl:Int))=true:=by simp;omega
      obtain⟨g,o,c',he,_,_⟩:=HL.out.some_ (by rw[HNL.out];omega);simp only[vI]at he;obtain⟨rfl,-,rfl⟩:=he;have hc0:=HL.out.at_ k hlt;have hcell:=((Wa HB1.out HB.out.drew).cell (p:=⟨g,o+k,none⟩) (wL _ _ hc0)).trans hc0;have HNO:=hD (fun (h:labB (l.getD k 0)=false)=>(VM (by rw[HNL.out];exact hlt) h:l.all labB=false));have HYE:=hD (fun (h:labB (l.getD k 0)=true)=>HA.out.succ h);generalize l.getD k 0=x at hcell HNO HYE;have HX:=hD (din_any x 64 w'.drew);unfold PureB at HX;rw[show inB x 0 64=labB x from rfl]at HX;generalize labB x=bx at HX HNO HYE;clear hc0;cases bx with
      | true =>
       have HY:=hD (HYE.out rfl);clear HNO HYE;go_wp2_with (go_at_call 109;refine HX.out.mono ?_;rintro e w'' ⟨rfl,rfl⟩)
       exact Zc7
      | false =>
       have HF:=hD (show R=false by rw[HIS.out,HNO.out rfl,Bool.and_false]);clear HNO HYE;go_wp2_with (go_at_call 109;refine HX.out.mono ?_;rintro e w'' ⟨rfl,rfl⟩)
       go_ret;exact⟨WV (by rw[HF.out]),Wa HB1.out HB.out.drew⟩
     ·have hd:decide ((k:Int)<(nl:Int))=false:=by simp;omega
      obtain rfl:k=nl:=by omega
      have HF:=hD (show l.all labB=true by have h:=HA.out;rw[← HNL.out]at h;exact h.done);by_cases c1:(1:Int)≤(k:Int)
      ·have d1:decide ((1:Int)≤(k:Int))=true:=decide_eq_true c1;have HR:=hD (show R=decide ((k:Int)≤17) by rw[HIS.out,HF.out,Bool.and_true];unfold inB;exact decide_eq_decide.mpr ⟨fun h=>h.2,fun h=>⟨c1,h⟩⟩);exact Zdj
      ·have d1:decide ((1:Int)≤(k:Int))=false:=decide_eq_false c1;have HR:=hD (show R=false by rw[HIS.out,HF.out,Bool.and_true];exact decide_eq_false fun h=>c1 h.1);exact Zdj
theorem acc_close (op:Int) (h:WO op=(true,false,true,false)):WF op=false:=by
 exact ZbU
theorem none_close (op:Int) (h:WO op=(false,false,false,false)):WF op=false:=by
 exact ZbU
theorem dinst_any (w:World) (x:Vl) (Lv:Value) (hL:Wf (fun k=>k<w.heap.size) w Lv x.l) (hn:0≤x.n∧x.n≤18446744073709551615):Calls Tryz.prog 110 #[.agg #[.int .i64 x.op,.int .i64 x.a,.int .i64 x.b,.int .u64 x.n,Lv]] w (Wh (WX x) w):=by
 obtain⟨op,a,b,n,l⟩:=x;simp only at hL hn ⊢;cases hk:W9 op with
 | false =>
  rw[dinst_not ⟨op,a,b,n,l⟩ hk];obtain⟨A,c,hv,hm,_⟩:=hL.form;rw[hv];clear hL hv;generalize l.length=nl at *;have HKN:=hD (fun wz=>VZ op wz);rw[hk]at HKN;clear hk hn;have HB1:=hD ((bR w.heap.size w).alloc (nR _) (.cells #[.int .i64 op,.int .i64 a,.int .i64 b,.int .u64 n,.slice A nl c] 25));go_enter Tryz.func110,Tryz.ntmps110;go_wp2_with (go_at_call 152;(with_reducible refine(HKN.out _).mono ?_);rintro e w' ⟨rfl,hb⟩)
  go_ret;exact⟨rfl,Wa HB1.out hb⟩
 | true =>
  rcases asks_six op with ⟨h,h8⟩|rfl|⟨h,h8,h66,h68⟩|rfl|rfl|rfl|rfl|rfl|⟨h,h8⟩
  ·cases hob:WF op with
   | true=>exact dinst_at w op a b n l Lv hL hn h h8 hob hk
   | false=>exact dinst_af w op a b n l Lv hL hn h h8 hob hk
  ·exact dinst_lab w a b n l Lv hL hn hk
  ·exact dinst_an w op a b n l Lv hL hn h h8 h66 h68 (acc_close op h) hk
  ·exact dinst_ab0 w a b n l Lv hL hn hk
  ·exact dinst_ab2 w a b n l Lv hL hn hk
  ·exact dinst_n65 w a b n l Lv hL hn hk
  ·exact dinst_n66 w a b n l Lv hL hn hk
  ·exact dinst_n68 w a b n l Lv hL hn hk
  ·exact dinst_no w op a b n l Lv hL hn h h8 (none_close op h) hk
end Go.Proofs.YtmfpnfdinoofpaaGreatDoor
