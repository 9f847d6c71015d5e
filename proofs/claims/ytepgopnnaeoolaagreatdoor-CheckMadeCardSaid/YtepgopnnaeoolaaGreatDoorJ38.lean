/- A part of the proof. -/
import Derived.Test.YtepgopnnaeoolaaGreatDoorJ37
namespace Go.Proofs.YtepgopnnaeoolaaGreatDoor
section
open Go.RowKit
def NumNew (op:Int) (w:World) (e:Ending) (w':World):Prop :=
 ∃ p q:Value,e=.returned (.tuple #[.agg #[p,q],.bool (WI op)])∧UB w' p (Vy op)∧UB w' q (Vg op)∧(∀ a k c,p=.slice (some a) k c→w.heap.size≤a.block)∧(∀ a k c,q=.slice (some a) k c→w.heap.size≤a.block)∧Below w.heap.size w w'
theorem nnum_no (op:Int) (h:WI op=false) (w:World):Calls Tryz.prog 121 #[.int .i64 op] w (NumNew op w):=by
 have h1:Vy op=[]:=by unfold Vy;rw[h];rfl
 have h2:Vg op=[]:=by unfold Vg;rw[h];rfl
 have C:=fun w=>V8 op w;rw[h]at C;have HC:=hD C;have HH:=hD h;have H1:=hD h1;have H2:=hD h2;clear C h h1 h2;go_enter Tryz.func121,Tryz.ntmps121;go_wp2_with (go_at_call 109;refine(HC.out _).mono ?_;rintro e w' ⟨rfl,rfl⟩)
 exact bodyPost_ret (v:=.tuple #[.agg #[.slice none 0 0,.slice none 0 0],.bool false]) (by simp[results,Tryz.results121,go_sem]) rfl
  ⟨_,_,by rw[HH.out],(.inl ⟨rfl,H1.out⟩),(.inl ⟨rfl,H2.out⟩),(fun _ _ _ h=>by cases h),(fun _ _ _ h=>by cases h),(bR _ _).alloc (nR _) _⟩
theorem bcell10 {W w1:World} (hb:Below W.heap.size W w1):(∀ b o,b<W.heap.size→w1.cell? ⟨b,o,none⟩=W.cell? ⟨b,o,none⟩)∧(∀ b o,b<W.heap.size→w1.frozen? ⟨b,o,none⟩=W.frozen? ⟨b,o,none⟩) :=
 ⟨fun b o h=>hb.cell (p:=⟨b,o,none⟩) h,fun b o h=>hb.frozen (p:=⟨b,o,none⟩) h⟩
theorem UB.setCell10 {w:World} {ao:Option Addr} {n c:Nat} {xs:List Int} (h:UB w (.slice ao n c) xs) (p:Addr) (u:Value) (hp:∀ a,ao=some a→p.block<a.block):UB (w.setCell p u) (.slice ao n c) xs:=by
 rcases h with h|⟨g,cap,h1,h2,h3,h4,h5⟩
 ·exact .inl h
 ·refine .inr ⟨g,cap,h1,by simpa [World.setCell] using h2,h3,h4,fun j hj=>?_⟩;rw[← h5 j hj];have hg:p.block<g:=by
   have h6:ao=some ⟨g,0,none⟩:=by cases h1;rfl
   exact hp _ h6
  exact World.cell?_of_block (Below.heap_setCell _ _ _ _ (by simp;omega))
theorem nnum_end (op:Int) (w w2:World) (a b:Int) (n:Nat) (ao:Option Addr) (nn cc:Nat) (h:WI op=true) (h1:Vy op=List.replicate n a) (h2:Vg op=[b])
 (hrow:UB w2 (.slice ao nn cc) (List.replicate n a)) (hfrom:∀ x,ao=some x→w.heap.size<x.block) (hB:Below (w.heap.size+1) (w.alloc (.cells #[.slice none 0 0,.slice none 0 0] 162)) w2) :
 NumNew op w (.returned (.tuple #[.agg #[.slice ao nn cc,.slice (some ⟨w2.heap.size,0,none⟩) 1 1],.bool true]))
  (((w2.setCell ⟨w.heap.size,0,none⟩ (.slice ao nn cc)).setCell ⟨w.heap.size,1,none⟩ (.slice (some ⟨w2.heap.size,0,none⟩) 1 1)).alloc (.cells #[.int .i64 b] 3)):=by
 have hs:w.heap.size+1≤w2.heap.size:=by have:=hB.size;simpa using this
 have r1:=(hrow.setCell10 ⟨w.heap.size,0,none⟩ (.slice ao nn cc) hfrom).setCell10 ⟨w.heap.size,1,none⟩ (.slice (some ⟨w2.heap.size,0,none⟩) 1 1) hfrom;have b1:Below w.heap.size w ((w2.setCell ⟨w.heap.size,0,none⟩ (.slice ao nn cc)).setCell ⟨w.heap.size,1,none⟩ (.slice (some ⟨w2.heap.size,0,none⟩) 1 1)) :=
  ((((bR w.heap.size w).alloc (nR _) _).trans (hB.mono (Nat.le_succ _))).setCell (p:=⟨w.heap.size,0,none⟩) (nR _) _).setCell (p:=⟨w.heap.size,1,none⟩) (nR _) _
 have es:((w2.setCell ⟨w.heap.size,0,none⟩ (.slice ao nn cc)).setCell ⟨w.heap.size,1,none⟩ (.slice (some ⟨w2.heap.size,0,none⟩) 1 1)).heap.size=w2.heap.size:=by simp[World.setCell]
 refine⟨_,_,by rw[h],?_,?_,(fun a k c e=>by simp only[vI]at e;exact Nat.le_of_lt (hfrom a e.1)),(fun a k c e=>by simp only[vI,Option.some.injEq]at e;rw[← e.1];show w.heap.size≤w2.heap.size;omega),b1.alloc (by rw[es];omega) _⟩
 ·rw[h1];exact r1.below ((bR _ _).alloc (nR _) _)
 ·rw[h2];refine .inr ⟨w2.heap.size,1,rfl,by simp[es],by simp,by simp,fun j hj=>?_⟩;have nc:=new_cells ((w2.setCell ⟨w.heap.size,0,none⟩ (.slice ao nn cc)).setCell ⟨w.heap.size,1,none⟩ (.slice (some ⟨w2.heap.size,0,none⟩) 1 1)) 3 [b] j hj;rw[es]at nc;exact nc
theorem nnum_yes (op:Int) (h:WI op=true) (w:World):Calls Tryz.prog 121 #[.int .i64 op] w (NumNew op w):=by
 have h1:Vy op=List.replicate (Vr op).1 (Vr op).2.1:=by unfold Vy;rw[h];rfl
 have h2:Vg op=[(Vr op).2.2]:=by unfold Vg;rw[h];rfl
 have h3:=sig_count op h;have C:=fun w=>V8 op w;have D:=fun w=>oshape_any op w;rw[h]at C;rw[shape_sig op h]at D;obtain⟨n,a,b,hs⟩:∃ n a b,Vr op=(n,a,b):=⟨_,_,_,rfl⟩;rw[hs]at h1 h2 h3;simp only[hs]at D;simp only at h1 h2 h3;have HC:=hD C;have HH:=hD h;have H1:=hD h1;have H2:=hD h2;clear C h h1 h2 hs;rcases h3 with rfl|rfl
 ·have HD:=hD D;clear D;go_enter Tryz.func121,Tryz.ntmps121;go_wp2_with (first|(go_at_call 109;refine(HC.out _).mono ?_;rintro e w' ⟨rfl,rfl⟩)|(go_at_call 123;refine(HD.out _).mono ?_;rintro e w1 ⟨rfl,hb1⟩;obtain⟨hc1,hf1⟩:=bcell10 hb1;have hz1:w.heap.size+1≤w1.heap.size:=(by have:=hb1.size;simpa using this)))
  refine(repeat_1 a w1.heap.size _ (by simp) (by simp)).mono ?_;rintro e w2 ⟨v,rfl,hrow,hnew,hb2⟩;obtain⟨ao,nn,cc,rfl⟩:=hrow.slice;have hB:Below (w.alloc (.cells #[.slice none 0 0,.slice none 0 0] 162)).heap.size (w.alloc (.cells #[.slice none 0 0,.slice none 0 0] 162)) w2 :=
   (hb1.alloc hb1.size _).trans (hb2.mono (by simp;omega))
  have f0:w2.cell? ⟨w.heap.size,0,none⟩=some (.slice none 0 0):=(hB.cell (p:=⟨w.heap.size,0,none⟩) (by simp)).trans (by simp);have f1:w2.cell? ⟨w.heap.size,1,none⟩=some (.slice none 0 0):=(hB.cell (p:=⟨w.heap.size,1,none⟩) (by simp)).trans (by simp);have f2:w2.frozen? ⟨w.heap.size,0,none⟩=false:=(hB.frozen (p:=⟨w.heap.size,0,none⟩) (by simp)).trans (by simp[go_sem]);have f3:w2.frozen? ⟨w.heap.size,1,none⟩=false:=(hB.frozen (p:=⟨w.heap.size,1,none⟩) (by simp)).trans (by simp[go_sem]);have hz2:w1.heap.size+1≤w2.heap.size:=by have:=hb2.size;simpa using this
  have hz3:w.heap.size<w2.heap.size:=by omega
  clear hc1 hf1;have hfrom:∀ x,ao=some x→w.heap.size<x.block:=fun x e=>by have h:=hnew x nn cc (by rw[e]);have e3:w1.heap.size+1≤x.block:=(by simpa using h);omega
  rw[show(w.alloc (.cells #[.slice none 0 0,.slice none 0 0] 162)).heap.size=w.heap.size+1 by simp]at hB;have HB:=hD hB;have HR:=hD hrow;have HF:=hD hfrom;clear hrow hfrom hnew;clear hb1 hb2 hB;go_wp2;exact bodyPost_ret (v:=.tuple #[.agg #[.slice ao nn cc,.slice (some ⟨w2.heap.size,0,none⟩) 1 1],.bool true]) (by simp[results,Tryz.results121,go_sem,hz3,f0,f1]) rfl (nnum_end op w w2 a b 1 ao nn cc HH.out H1.out H2.out HR.out HF.out HB.out)
 ·have HD:=hD D;clear D;go_enter Tryz.func121,Tryz.ntmps121;go_wp2_with (first|(go_at_call 109;refine(HC.out _).mono ?_;rintro e w' ⟨rfl,rfl⟩)|(go_at_call 123;refine(HD.out _).mono ?_;rintro e w1 ⟨rfl,hb1⟩;obtain⟨hc1,hf1⟩:=bcell10 hb1;have hz1:w.heap.size+1≤w1.heap.size:=(by have:=hb1.size;simpa using this)))
  refine(repeat_2 a w1.heap.size _ (by simp) (by simp)).mono ?_;rintro e w2 ⟨v,rfl,hrow,hnew,hb2⟩;obtain⟨ao,nn,cc,rfl⟩:=hrow.slice;have hB:Below (w.alloc (.cells #[.slice none 0 0,.slice none 0 0] 162)).heap.size (w.alloc (.cells #[.slice none 0 0,.slice none 0 0] 162)) w2 :=
   (hb1.alloc hb1.size _).trans (hb2.mono (by simp;omega))
  have f0:w2.cell? ⟨w.heap.size,0,none⟩=some (.slice none 0 0):=(hB.cell (p:=⟨w.heap.size,0,none⟩) (by simp)).trans (by simp);have f1:w2.cell? ⟨w.heap.size,1,none⟩=some (.slice none 0 0):=(hB.cell (p:=⟨w.heap.size,1,none⟩) (by simp)).trans (by simp);have f2:w2.frozen? ⟨w.heap.size,0,none⟩=false:=(hB.frozen (p:=⟨w.heap.size,0,none⟩) (by simp)).trans (by simp[go_sem]);have f3:w2.frozen? ⟨w.heap.size,1,none⟩=false:=(hB.frozen (p:=⟨w.heap.size,1,none⟩) (by simp)).trans (by simp[go_sem]);have hz2:w1.heap.size+1≤w2.heap.size:=by have:=hb2.size;simpa using this
  have hz3:w.heap.size<w2.heap.size:=by omega
  clear hc1 hf1;have hfrom:∀ x,ao=some x→w.heap.size<x.block:=fun x e=>by have h:=hnew x nn cc (by rw[e]);have e3:w1.heap.size+1≤x.block:=(by simpa using h);omega
  rw[show(w.alloc (.cells #[.slice none 0 0,.slice none 0 0] 162)).heap.size=w.heap.size+1 by simp]at hB;have HB:=hD hB;have HR:=hD hrow;have HF:=hD hfrom;clear hrow hfrom hnew;clear hb1 hb2 hB;go_wp2;exact bodyPost_ret (v:=.tuple #[.agg #[.slice ao nn cc,.slice (some ⟨w2.heap.size,0,none⟩) 1 1],.bool true]) (by simp[results,Tryz.results121,go_sem,hz3,f0,f1]) rfl (nnum_end op w w2 a b 2 ao nn cc HH.out H1.out H2.out HR.out HF.out HB.out)
theorem nnum_any (op:Int) (w:World):Calls Tryz.prog 121 #[.int .i64 op] w (NumNew op w):=by
 cases h:WI op with
 | true=>exact nnum_yes op h w
 | false=>exact nnum_no op h w
end
section
open Go.RowKit
theorem rich_any (op:Int) (w:World):Calls Tryz.prog 89 #[.int .i64 op] w (Wo (richB op) w):=by
 have C:=fun (w1:World) hg=>contains_any w.heap.size 14 14 richL op rfl (by omega) w1 hg;unfold richB;generalize richL.contains op=b at C;have HC:=hD C;clear C;go_enter Tryz.func89,Tryz.ntmps89;go_wp2_with fail
 go_at_call 111;refine(HC.out _ ?_).mono ?_
 ·intro j hj;exact new_cells w 3 richL j hj
 rintro e w' ⟨rfl,rfl⟩;go_wp2;go_ret;exact⟨rfl,(bR _ _).alloc (nR _) _⟩
end
section
open Go.RowKit
theorem known_num (op:Int) (h:WI op=true) (w:World):Calls Tryz.prog 88 #[.int .i64 op] w (Wo true w):=by
 have A:=fun w=>V8 op w;rw[h]at A;have HA:=hD A;clear A h;go_enter Tryz.func88,Tryz.ntmps88;go_wp2_with (go_at_call 109;refine(HA.out _).mono ?_;rintro e w' ⟨rfl,rfl⟩)
 go_ret;exact⟨rfl,bR _ _⟩
theorem known_opens (op:Int) (h:WI op=false) (ho:Uj op=true) (w:World):Calls Tryz.prog 88 #[.int .i64 op] w (Wo true w):=by
 have A:=fun w=>V8 op w;have B:=fun w=>opens_any op w;rw[h]at A;rw[ho]at B;have HA:=hD A;have HB:=hD B;clear A B h ho;go_enter Tryz.func88,Tryz.ntmps88;go_wp2_with (first|(go_at_call 109;refine(HA.out _).mono ?_;rintro e w' ⟨rfl,rfl⟩)|(go_at_call 82;refine(HB.out _).mono ?_;rintro e w' ⟨rfl,rfl⟩))
 go_ret;exact⟨rfl,bR _ _⟩
theorem known_const (op:Int) (h:WI op=false) (ho:Uj op=false) (hc:(Uf op != 0)=true) (w:World):Calls Tryz.prog 88 #[.int .i64 op] w (Wo true w):=by
 have A:=fun w=>V8 op w;have B:=fun w=>opens_any op w;have C:=fun w=>const_any op w;rw[h]at A;rw[ho]at B;rw[hc]at C;have HA:=hD A;have HB:=hD B;have HC:=hD C;clear A B C h ho hc;go_enter Tryz.func88,Tryz.ntmps88;go_wp2_with (first|(go_at_call 109;refine(HA.out _).mono ?_;rintro e w' ⟨rfl,rfl⟩)|(go_at_call 82;refine(HB.out _).mono ?_;rintro e w' ⟨rfl,rfl⟩)|(go_at_call 110;refine(HC.out _).mono ?_;rintro e w' ⟨rfl,rfl⟩))
 go_ret;exact⟨rfl,bR _ _⟩
theorem known_acc (op:Int) (h:WI op=false) (ho:Uj op=false) (hc:(Uf op != 0)=false) (ha:(Ug op).2.2.2=true) (w:World):Calls Tryz.prog 88 #[.int .i64 op] w (Wo true w):=by
 have A:=fun w=>V8 op w;have B:=fun w=>opens_any op w;have C:=fun w=>const_any op w;have D:=fun w=>access_any op w;rw[h]at A;rw[ho]at B;rw[hc]at C;generalize Ug op=p at D ha;obtain⟨x,y,z,d⟩:=p;replace ha:d=true:=ha;subst ha;have HA:=hD A;have HB:=hD B;have HC:=hD C;have HD:=hD D;clear A B C D h ho hc;go_enter Tryz.func88,Tryz.ntmps88;go_wp2_with (first|(go_at_call 109;refine(HA.out _).mono ?_;rintro e w' ⟨rfl,rfl⟩)|(go_at_call 82;refine(HB.out _).mono ?_;rintro e w' ⟨rfl,rfl⟩)|(go_at_call 110;refine(HC.out _).mono ?_;rintro e w' ⟨rfl,rfl⟩)|(go_at_call 92;refine(HD.out _).mono ?_;rintro e w1 ⟨rfl,hb⟩))
 go_ret;exact⟨rfl,hb⟩
theorem known_rest (op:Int) (h:WI op=false) (ho:Uj op=false) (hc:(Uf op != 0)=false) (ha:(Ug op).2.2.2=false) (w:World):Calls Tryz.prog 88 #[.int .i64 op] w (Wo (restL.contains op) w):=by
 have A:=fun w=>V8 op w;have B:=fun w=>opens_any op w;have C:=fun w=>const_any op w;have D:=fun w=>access_any op w;have E:=fun (g:Nat) (w1:World) hg=>contains_any g 23 23 restL op rfl (by omega) w1 hg;rw[h]at A;rw[ho]at B;rw[hc]at C;generalize Ug op=p at D ha;obtain⟨x,y,z,d⟩:=p;replace ha:d=false:=ha;subst ha;generalize restL.contains op=r at E;have HA:=hD A;have HB:=hD B;have HC:=hD C;have HD:=hD D;have HE:=hD E;clear A B C D E h ho hc;go_enter Tryz.func88,Tryz.ntmps88;go_wp2_with (first|(go_at_call 109;refine(HA.out _).mono ?_;rintro e w' ⟨rfl,rfl⟩)|(go_at_call 82;refine(HB.out _).mono ?_;rintro e w' ⟨rfl,rfl⟩)|(go_at_call 110;refine(HC.out _).mono ?_;rintro e w' ⟨rfl,rfl⟩)|(go_at_call 92;refine(HD.out _).mono ?_;rintro e w1 ⟨rfl,hb⟩))
 refine(HE.out w1.heap.size _ (fun j hj=>new_cells w1 3 restL j hj)).mono ?_;rintro e w' ⟨rfl,rfl⟩;go_wp2;go_ret;exact⟨rfl,hb.alloc hb.size _⟩
theorem known_any (op:Int) (w:World):Calls Tryz.prog 88 #[.int .i64 op] w (Wo (VM op) w):=by
 cases h:WI op with
 | true=>rw[show VM op=true by unfold VM;rw[h];rfl];exact known_num op h w
 | false =>
  cases ho:Uj op with
  | true=>rw[show VM op=true by unfold VM;rw[h,ho];rfl];exact known_opens op h ho w
  | false =>
   cases hc:Uf op != 0 with
   | true=>rw[show VM op=true by unfold VM;rw[h,ho,hc];rfl];exact known_const op h ho hc w
   | false =>
    cases ha:(Ug op).2.2.2 with
    | true=>rw[show VM op=true by unfold VM;rw[h,ho,hc,ha];rfl];exact known_acc op h ho hc ha w
    | false=>rw[show VM op=restL.contains op by unfold VM;rw[h,ho,hc,ha];simp];exact known_rest op h ho hc ha w
end
section
open Go.RowKit
set_option maxHeartbeats 1000000
set_option maxRecDepth 100000
theorem ZZ {P:Prop}(h:P:=by
 go_enter Tryz.func69,Tryz.ntmps69
 go_upto_region 1 with (fail)
 rw[← HW.out];go_wp2_with (first|(go_at_call 89;refine(HR.out _).mono ?_;rintro e w1 ⟨rfl,hb1⟩;have HB1:=hD hb1;obtain⟨j0,j1⟩:=HC.out w1 hb1;clear hb1)|(go_at_call 82;refine(HO.out _).mono ?_;rintro e w2 ⟨rfl,rfl⟩))
 go_ret;exact⟨rfl,Wa HB.out HB1.out⟩):P:=h
theorem Zbh {P:Prop}(h:P:=by
 go_enter Tryz.func68,Tryz.ntmps68;go_wp2_with (first|(go_at_call 44;refine(HEN.out _ rfl).mono ?_;rintro e w0 ⟨rfl,rfl⟩)|(go_at_call 87;refine(HT.out 0).mono ?_;rintro e w1 ⟨rfl,mm,rfl⟩))
 go_ret;exact⟨rfl,Wj (bR _ _) _⟩):P:=h
theorem V7 (n:Int) (l:Nat) (w:World):Calls Tryz.prog 64 #[.int .i64 n,.int .i64 (l:Int)] w fun e w'=>e=.returned (.bool (Wm n l))∧w=w':=by
 unfold Wm;by_cases h1:0≤n
 ·have d1:decide ((0:Int)≤n)=true:=decide_eq_true h1;cases h2:decide (n<(l:Int)) <;>
  ·rw[d1];go_enter Tryz.func64,Tryz.ntmps64;go_wp2;go_ret;exact⟨rfl,rfl⟩
 ·have d1:decide ((0:Int)≤n)=false:=decide_eq_false h1;rw[d1];go_enter Tryz.func64,Tryz.ntmps64;go_wp2;go_ret;exact⟨rfl,rfl⟩
theorem richI_any (x:VV) (Lv:Value) (hL:∃ A n c,Lv=.slice A n c) (w:World):Calls Tryz.prog 69 #[.agg #[.int .i64 x.op,.int .i64 x.a,.int .i64 x.b,.int .u64 x.n,Lv]] w (Wo (richI x) w):=by
 obtain⟨A,nl,c,rfl⟩:=hL;obtain⟨op,a,b,n,l⟩:=x;unfold richI;simp only;obtain⟨W,hW⟩:∃ W,W=w.alloc (.cells #[.int .i64 op,.int .i64 a,.int .i64 b,.int .u64 n,.slice A nl c] 76):=⟨_,rfl⟩;have hb:Below w.heap.size w W:=hW ▸ (bR _ _).alloc (nR _) _;have hc:∀ j:Nat,W.cell? ⟨w.heap.size,j,none⟩=(#[.int .i64 op,.int .i64 a,.int .i64 b,.int .u64 n,.slice A nl c]:Array Value)[j]?:=fun j=>by rw[hW,wN]
 have HB:=hD hb;have HC:Hid (∀ wz,Below W.heap.size W wz→wz.cell? ⟨w.heap.size,0,none⟩=some (.int .i64 op)∧wz.cell? ⟨w.heap.size,1,none⟩=some (.int .i64 a)):=hD fun wz hz =>
  ⟨(hz.cell (wL W _ (hc 0))).trans (hc 0),(hz.cell (wL W _ (hc 1))).trans (hc 1)⟩
 have HR:=hD (fun w=>rich_any op w);have HO:=hD (fun w=>opens_any op w);have HW:=hD hW;obtain⟨k0,k1⟩:=HC.out W (bR _ _);clear hb hc hW;cases h1:richB op with
 | true =>
  rw[h1]at HR;clear h1;go_enter Tryz.func69,Tryz.ntmps69
  go_upto_region 1 with (fail)
  rw[← HW.out];go_wp2_with (go_at_call 89;refine(HR.out _).mono ?_;rintro e w1 ⟨rfl,hb1⟩;have HB1:=hD hb1;obtain⟨j0,j1⟩:=HC.out w1 hb1;clear hb1)
  go_ret;exact⟨rfl,Wa HB.out HB1.out⟩
 | false =>
  rw[h1]at HR;clear h1;cases h2:Uj op with
  | false =>
   rw[h2]at HO;clear h2;exact ZZ
  | true =>
   rw[h2]at HO;clear h2;cases h3:decide ((0:Int)≤a) <;>
   ·exact ZZ
def Ws.pl (x:Ws):Pl:=⟨x.s,x.f.map Fv.fr⟩
theorem ended_any {F:Wx} {w:World} {x:Ws} (hF:F.prg) (h:Wk F w x):Calls Tryz.prog 44 #[.pointer (some ⟨F.G,0,none⟩)] w (fun e w'=>e=.returned (.bool (x.f.length==0))∧w=w'):=by
 obtain⟨Af,cf,hfv⟩:=Wc h.fo;have p1:=h.p1 hF;rw[hfv]at p1;clear h hfv;generalize x.f.length=k at *;by_cases h0:k=0
 ·subst h0;go_enter Tryz.func44,Tryz.ntmps44;go_wp2;go_ret;exact⟨rfl,rfl⟩
 ·have hk:((k:Int)==0)=false:=by simp;omega
  have hk2:(k==0)=false:=by simp;omega
  rw[hk2];clear h0 hk2;go_enter Tryz.func44,Tryz.ntmps44;go_wp2;go_ret;exact⟨rfl,rfl⟩
theorem inPlace_any {F:Wx} {w:World} {x:Ws} (hF:F.prg) (h:Wk F w x) (op:Int):Calls Tryz.prog 68 #[.pointer (some ⟨F.G,0,none⟩),.int .i64 op] w (Wo (Vt x.pl op) w):=by
 have HEN:Hid (∀ w9:World,w=w9→Calls Tryz.prog 44 #[.pointer (some ⟨F.G,0,none⟩)] w9 (fun e w'=>e=.returned (.bool (x.f.length==0))∧w9=w')):=hD fun w9 e9=>e9 ▸ ended_any hF h;unfold Vt Ws.pl;simp only[List.length_map];rw[← Ws.top_fr];by_cases h0:x.f.length=0
 ·obtain⟨Af,cf,hfv⟩:=Wc h.fo;have p1:=h.p1 hF;rw[hfv,h0]at p1;rw[if_pos h0];clear h hfv;go_enter Tryz.func68,Tryz.ntmps68;rw[h0]at HEN;go_wp2_with (go_at_call 44;refine(HEN.out _ rfl).mono ?_;rintro e w0 ⟨rfl,rfl⟩)
  go_ret;exact⟨rfl,bR _ _⟩
 ·rw[if_neg h0];obtain⟨g,A,c,cf,hc,hsv,hfv⟩:=h.cel hF (by omega);obtain⟨g',cf',he,_,_,_,_,t0,_⟩:=h.tcell (by omega);rw[hfv]at he;simp only[vI,Option.some.injEq,Addr.mk.injEq]at he;obtain⟨⟨rfl,-⟩,-,rfl⟩:=he;have HC:=hD hc;have p1:=hc.p1;have HT:=hD (fun j=>top_at (w.drewN j) F.G g x.f.length cf hc.p1 hc.k0 hc.k1 hc.k2);have HK:=hD (fun w=>known_any op w);obtain⟨k,hk⟩:∃ k,x.f.length=k:=⟨_,rfl⟩;rw[hk]at p1 HT h0 t0 HEN;rw[show(k==0)=false by simp;omega]at HEN;have hk0:((k:Int)==0)=false:=by simp;omega
  rw[show x.top.fr.op=x.top.op from rfl];generalize x.top.op=o at t0 ⊢;clear h hc hsv hfv HC;by_cases h5:op=5
  ·subst h5;rw[if_pos rfl];by_cases h4:o=4
   ·have d4:(o==4)=true:=by simpa using h4
    rw[decide_eq_true h4];exact Zbh
   ·have d4:(o==4)=false:=by simpa using h4
    rw[decide_eq_false h4];exact Zbh
  ·rw[if_neg h5];have d5:(op==5)=false:=by simpa using h5
   generalize VM op=kb at HK ⊢;go_enter Tryz.func68,Tryz.ntmps68;go_wp2_with (first|(go_at_call 44;refine(HEN.out _ rfl).mono ?_;rintro e w0 ⟨rfl,rfl⟩)|(go_at_call 88;refine(HK.out _).mono ?_;rintro e w1 ⟨rfl,hb⟩;have HB:=hD hb;clear hb))
   go_ret;exact⟨rfl,HB.out⟩
def V1 (q:List Int×List Int) (w:World) (e:Ending) (w':World):Prop :=
 ∃ p r:Value,e=.returned (.tuple #[p,r])∧Wg (fun k=>w.heap.size≤k∧k<w'.heap.size) w' p q.1∧Wg (fun k=>w.heap.size≤k∧k<w'.heap.size) w' r q.2∧Below w.heap.size w w'
theorem UB.newInts {w w':World} {v:Value} {l:List Int} (h:UB w' v l) (hn:∀ a k c,v=.slice (some a) k c→w.heap.size≤a.block):Wg (fun k=>w.heap.size≤k∧k<w'.heap.size) w' v l:=by
 rcases h with ⟨rfl,rfl⟩|⟨g,cap,rfl,h2,h3,h4,h5⟩
 ·exact .nil _ _
 ·exact⟨_,cap,rfl,by unfold maxLen;omega,(fun e=>by cases e),fun _=>⟨g,0,rfl,⟨hn _ _ _ rfl,h2⟩,fun j hj=>by rw[Nat.zero_add];exact h5 j hj⟩⟩
theorem Vk (w:World) {W:World} (hb:Below w.heap.size w W) (a:Int):Wg (fun k=>w.heap.size≤k∧k<(W.alloc (.cells #[.int .i64 a] 3)).heap.size) (W.alloc (.cells #[.int .i64 a] 3)) (.slice (some ⟨W.heap.size,0,none⟩) 1 1) [a] :=
 ⟨_,1,rfl,by unfold maxLen;simp,(fun e=>by cases e),fun _=>⟨W.heap.size,0,rfl,⟨hb.size,by rw[Wq];omega⟩,fun j hj=>by
  obtain rfl:j=0:=by simp at hj;omega
  rw[wN];rfl⟩⟩
theorem ints_new2 (w:World) {W:World} (hb:Below w.heap.size w W) (a b:Int):Wg (fun k=>w.heap.size≤k∧k<(W.alloc (.cells #[.int .i64 a,.int .i64 b] 3)).heap.size) (W.alloc (.cells #[.int .i64 a,.int .i64 b] 3)) (.slice (some ⟨W.heap.size,0,none⟩) 2 2) [a,b] :=
 ⟨_,2,rfl,by unfold maxLen;simp,(fun e=>by cases e),fun _=>⟨W.heap.size,0,rfl,⟨hb.size,by rw[Wq];omega⟩,fun j hj=>by
  have hj2:j<2:=hj;rw[wN]
  match j,hj2 with
  | 0,_=>rfl
  | 1,_=>rfl⟩⟩
end
section
open Go.RowKit
set_option maxHeartbeats 2000000
set_option maxRecDepth 100000
theorem fixed_any (op:Int) (w:World):Calls Tryz.prog 115 #[.int .i64 op] w (V1 (fixedC op) w):=by
 have HC:=hD (fun w=>const_any op w);have HN:=hD (fun w=>nnum_any op w);have HA:=hD (fun w=>access_any op w);unfold fixedC;by_cases h1:Uf op≠0
 ·rw[if_pos h1];have d1:(Uf op != 0)=true:=by simpa using h1
  rw[d1]at HC;clear d1 h1;generalize Uf op=t at HC ⊢;go_enter Tryz.func115,Tryz.ntmps115;go_wp2_with (go_at_call 110;refine(HC.out _).mono ?_;rintro e w1 ⟨rfl,rfl⟩)
  go_ret2
  exact⟨_,_,rfl,.nil _ _,Vk _ (bR _ _) _,(bR _ _).alloc (nR _) _⟩
 ·rw[if_neg h1];have d1:(Uf op != 0)=false:=by simpa using h1
  rw[d1]at HC;clear d1 h1;generalize Uf op=t0 at HC;cases h2:WI op with
  | true =>
   rw[if_pos rfl];have HNN:Hid (∀ w,Calls Tryz.prog 121 #[.int .i64 op] w fun e w'=>∃ (Ap:Option Addr) (np cp:Nat) (Aq:Option Addr) (nq cq:Nat),e=.returned (.tuple #[.agg #[.slice Ap np cp,.slice Aq nq cq],.bool true])∧Wg (fun k=>w.heap.size≤k∧k<w'.heap.size) w' (.slice Ap np cp) (Vy op)∧Wg (fun k=>w.heap.size≤k∧k<w'.heap.size) w' (.slice Aq nq cq) (Vg op)∧Below w.heap.size w w'):=hD fun w=>(HN.out w).mono fun e w' h=>by
    obtain⟨p,q,rfl,hp,hq,np,nq,hb⟩:=h;obtain⟨Ap,n1,cp,rfl⟩:=hp.slice;obtain⟨Aq,n2,cq,rfl⟩:=hq.slice;exact⟨Ap,n1,cp,Aq,n2,cq,by rw[h2],hp.newInts np,hq.newInts nq,hb⟩
   clear HN h2;go_enter Tryz.func115,Tryz.ntmps115
   go_upto_region 6 with (first|(go_at_call 110;refine(HC.out _).mono ?_;rintro e w1 ⟨rfl,rfl⟩)|(go_at_call 121;refine(HNN.out _).mono ?_;rintro e w2 ⟨Ap,np,cp,Aq,n2,cq,rfl,hp,hq,hb⟩;have HP:=hD hp;have HQ:=hD hq;have HB:=hD hb;clear hp hq hb))
   go_quiet (fail)
   go_wp2
   go_ret2
   have hb3:∀ (o:Obj) (n:Nat),Below w2.heap.size w2 ((w2.alloc o).drewN n):=fun o n=>Wj ((bR _ _).alloc (nR _) o) n;exact⟨_,_,rfl,HP.out.keep (Wf.below (hb3 _ _) fun k hk=>hk.2) fun k hk=>⟨hk.1,WW hk.2 (hb3 _ _).size⟩,HQ.out.keep (Wf.below (hb3 _ _) fun k hk=>hk.2) fun k hk=>⟨hk.1,WW hk.2 (hb3 _ _).size⟩,Wa HB.out (hb3 _ _)⟩
  | false =>
   rw[if_neg (by decide)];have HNN:Hid (∀ w,Calls Tryz.prog 121 #[.int .i64 op] w fun e w'=>∃ (Ap:Option Addr) (np cp:Nat) (Aq:Option Addr) (nq cq:Nat),e=.returned (.tuple #[.agg #[.slice Ap np cp,.slice Aq nq cq],.bool false])∧Below w.heap.size w w'):=hD fun w=>(HN.out w).mono fun e w' h=>by
    obtain⟨p,q,rfl,hp,hq,np,nq,hb⟩:=h;obtain⟨Ap,n1,cp,rfl⟩:=hp.slice;obtain⟨Aq,n2,cq,rfl⟩:=hq.slice;exact⟨Ap,n1,cp,Aq,n2,cq,by rw[h2],hb⟩
   clear HN h2;obtain⟨⟨a1,a2,a3,a4⟩,ha⟩:∃ q,Ug op=q:=⟨_,rfl⟩;rw[ha]at HA ⊢;unfold AccPost at HA;simp only at HA ⊢;clear ha;cases a4 with
   | false =>
    rw[if_neg (by decide)];go_enter Tryz.func115,Tryz.ntmps115;go_wp2_with (first|(go_at_call 110;refine(HC.out _).mono ?_;rintro e w1 ⟨rfl,rfl⟩)|(go_at_call 121;refine(HNN.out _).mono ?_;rintro e w2 ⟨Ap,np,cp,Aq,n2,cq,rfl,hb⟩;have HB:=hD hb;clear hb)|(go_at_call 92;refine(HA.out _).mono ?_;rintro e w3 ⟨rfl,hb⟩;have HB3:=hD hb;clear hb))
    go_ret2
    have hb3:=Wa HB.out (((bR _ _).alloc (nR _) _).trans (HB3.out.mono (by rw[Wq];omega)));exact⟨_,_,rfl,.nil _ _,.nil _ _,hb3⟩
   | true =>
    rw[if_pos rfl];by_cases h54:54≤op
    ·rw[if_pos h54];have d54:decide ((54:Int)≤op)=true:=decide_eq_true h54;clear h54;go_enter Tryz.func115,Tryz.ntmps115;go_wp2_with (first|(go_at_call 110;refine(HC.out _).mono ?_;rintro e w1 ⟨rfl,rfl⟩)|(go_at_call 121;refine(HNN.out _).mono ?_;rintro e w2 ⟨Ap,np,cp,Aq,n2,cq,rfl,hb⟩;have HB:=hD hb;clear hb)|(go_at_call 92;refine(HA.out _).mono ?_;rintro e w3 ⟨rfl,hb⟩;have HB3:=hD hb;clear hb))
     go_ret2
     have hb3:=Wa HB.out (((bR _ _).alloc (nR _) _).trans (HB3.out.mono (by rw[Wq];omega)));exact⟨_,_,rfl,ints_new2 _ hb3 _ _,.nil _ _,hb3.alloc hb3.size _⟩
    ·rw[if_neg h54];have d54:decide ((54:Int)≤op)=false:=decide_eq_false h54;clear h54;go_enter Tryz.func115,Tryz.ntmps115;go_wp2_with (first|(go_at_call 110;refine(HC.out _).mono ?_;rintro e w1 ⟨rfl,rfl⟩)|(go_at_call 121;refine(HNN.out _).mono ?_;rintro e w2 ⟨Ap,np,cp,Aq,n2,cq,rfl,hb⟩;have HB:=hD hb;clear hb)|(go_at_call 92;refine(HA.out _).mono ?_;rintro e w3 ⟨rfl,hb⟩;have HB3:=hD hb;clear hb))
     go_ret2
     have hb3:=Wa HB.out (((bR _ _).alloc (nR _) _).trans (HB3.out.mono (by rw[Wq];omega)));have hb4:=hb3.alloc hb3.size (.cells #[.int .i64 127] 3);have h1:=Vk w hb3 127;refine⟨_,_,rfl,h1.keep (Wf.below ((bR _ _).alloc (nR _) _) fun k hk=>hk.2) fun k hk=>⟨hk.1,by rw[Wq];have:=hk.2;omega⟩,?_,hb4.alloc hb4.size _⟩;have h2:=Vk w hb4 a2;rw[show(w3.alloc (.cells #[.int .i64 127] 3)).heap.size=w3.heap.size+1 from Wq _ _]at h2;exact h2
end
section
open Go.RowKit
set_option maxHeartbeats 4000000
set_option maxRecDepth 100000
theorem Zu {P:Prop}(h:P:=by
 refine wp_region_held_drew (S:=fun wz=>wz.cell? ⟨w1.heap.size,2,none⟩=some (.slice Ar x.top.rs.length cr)) (by kernel_rfl) HB2.out (fun hS=>?_);show wpAnyH _ _ _ _ _ 7 #[false,false,false,false,false,false,false] _ _;refine mT 0 29 rfl hS ?_;refine mT 1 30 rfl hS ?_;refine mT 2 31 rfl hS ?_;refine mT 3 32 rfl hS ?_;refine mT 4 33 rfl hS ?_;refine mT 5 34 rfl hS ?_ (hy:=by intro wS hSw;go_simp;try with_reducible rfl);have hg3:=HG2.out.1.below ((bR w4.heap.size w4).drew);have HGV:=hD (give_any HF.out hg3.1 _ x.top.rs (hg3.2.ints (HG2.out.2.ints (HS1.out.ints HRV.out))) (by rw[HXS.out];exact HLC.out));rw[HER.out]at HGV;have hlt:w1.heap.size<w4.drew.heap.size:=wL _ _ hS;have HS3:=hD hg3.2;clear hg3;refine mR 6 35 rfl fun K hK=>?_;go_simp;go_at_call 86;refine HGV.out.mono ?_;rintro e w5 ⟨rfl,x5,g5,s5,hf5,hs5⟩;go_wp2_with fail
 refine hK.out _ _ ((s5.keeps.cell (p:=⟨w1.heap.size,2,none⟩) ⟨hlt,HFR.out⟩).trans hS) (fun _=>?_);clear hK K;try simp only[sA,List.set]
 refine wpAnyH_done (by kernel_rfl) ?_ _;have HG5:=hD g5;have HS5:=hD s5;clear g5 s5 hS;go_wp2;go_ret;exact⟨rfl,x5,HG5.out,((HS1.out.trans HG2.out.2).trans HS3.out).trans HS5.out,fun _=>⟨hf5.trans HXF.out,hs5.trans (by rw[HXS.out])⟩⟩):P:=h
def Ws.mayShut (x:Ws):Bool:=x.mayEnd && !(decide (x.top.op=4) && !decide (x.top.ps=x.top.rs))
def Ws.cut (x:Ws):List Int:=x.s.take (max (x.s.length - x.top.rs.length) x.top.h)
theorem close_any {F:Wx} {w:World} {x:Ws} (hF:F.prg) (h:Wk F w x) (h0:0<x.f.length) (hs:x.s.length≤900000) (hrl:x.top.rs.length≤100000) (hh:x.top.h≤x.s.length) :
 Calls Tryz.prog 95 #[.pointer (some ⟨F.G,0,none⟩)] w (WPost F w x (.bool x.mayShut) (fun x'=>x.mayShut=true→x'.f=x.f.take (x.f.length - 1)∧x'.s=x.cut++x.top.rs)):=by
 have HFI:=hD (finish_any hF h h0 (by omega) (by omega) hh);have hmem:x.top ∈ x.f:=by
  exact Z9
 have hrv:=(h.reads.fr _ hmem).2;have hpv:=(h.reads.fr _ hmem).1;obtain⟨Ar,cr,er,_⟩:=hrv.form;obtain⟨Ap,cp,ep,_⟩:=hpv.form;have HRV:=hD hrv;have HPV:=hD hpv;have HER:=hD er;have HEP:=hD ep;have HF:=hD hF;have HLC:Hid (x.cut.length+x.top.rs.length≤1000000):=hD (by unfold Ws.cut;rw[List.length_take];omega);clear hrv hpv er ep h hF hmem;cases hme:x.mayEnd with
 | false =>
  have hms:x.mayShut=false:=by unfold Ws.mayShut;rw[hme];rfl
  have HF2:Hid (Calls Tryz.prog 112 #[.pointer (some ⟨F.G,0,none⟩)] w fun e w'=>∃ x',Wk F w' x'∧WE F w x w' x'∧e=.returned (.tuple #[.agg #[.int .i64 0,.slice none 0 0,.slice none 0 0,.int .i64 0,.bool false],.bool false])):=hD (HFI.out.mono fun e w' hp=>by
   obtain⟨x',g1,s1,e1,_⟩:=hp;rw[hme]at e1;exact⟨x',g1,s1,e1⟩)
  rw[hms];clear HFI hme hms;go_enter Tryz.func95,Tryz.ntmps95;go_wp2_with (go_at_call 112;refine HF2.out.mono ?_;rintro e w1 ⟨x1,g1,s1,rfl⟩;have HG1:=hD g1;have HS1:=hD s1;clear g1 s1)
  go_ret;have h2:=HG1.out.alloc (.cells #[.int .i64 0,.slice none 0 0,.slice none 0 0,.int .i64 0,.bool false] 135);exact⟨rfl,x1,h2.1,HS1.out.trans h2.2,fun hx=>(by cases hx)⟩
 | true =>
  have HF2:Hid (Calls Tryz.prog 112 #[.pointer (some ⟨F.G,0,none⟩)] w fun e w'=>∃ x',Wk F w' x'∧WE F w x w' x'∧e=.returned (.tuple #[.agg #[.int .i64 x.top.op,.slice Ap x.top.ps.length cp,.slice Ar x.top.rs.length cr,.int .i64 (x.top.h:Int),.bool x.top.dead],.bool true])∧x'.f=x.f.take (x.f.length - 1)∧x'.s=x.cut):=hD (HFI.out.mono fun e w' hp=>by
   obtain⟨x',g1,s1,e1,hx⟩:=hp;rw[hme,if_pos rfl]at e1;unfold Fv.cells at e1;rw[HER.out,HEP.out]at e1;exact⟨x',g1,s1,e1,hx hme⟩)
  have hms:x.mayShut=!(decide (x.top.op=4) && !decide (x.top.ps=x.top.rs)):=by unfold Ws.mayShut;rw[hme];rfl
  rw[hms];clear HFI hme hms;have HEQ:Hid (∀ w1 x1,Wk F w1 x1→WE F w x w1 x1→Calls Tryz.prog 99 #[.slice Ap x.top.ps.length cp,.slice Ar x.top.rs.length cr] w1 (Wo (decide (x.top.ps=x.top.rs)) w1)):=hD fun w1 x1 g1 s1=>by
   have h1:=s1.ints HPV.out;have h2:=s1.ints HRV.out;rw[HEP.out]at h1;rw[HER.out]at h2;exact equal_is _ w1 _ _ _ _ h1 h2
  cases h4:decide (x.top.op=4) with
  | false =>
   have d4:(x.top.op==4)=false:=by have:=of_decide_eq_false h4;simpa using this
   clear h4 HEQ;rw[show(!(false && !decide (x.top.ps=x.top.rs)))=true from rfl];go_enter Tryz.func95,Tryz.ntmps95
   go_upto_region 4 with (first|(go_at_call 112;refine HF2.out.mono ?_;rintro e w1 ⟨x1,g1,s1,rfl,hxf,hxs⟩;have HG1:=hD g1;have HS1:=hD s1;have HXF:=hD hxf;have HXS:=hD hxs;clear g1 s1 hxf hxs))
   have hbl:Below w1.heap.size w1 (w1.alloc (.cells #[.int .i64 x.top.op,.slice Ap x.top.ps.length cp,.slice Ar x.top.rs.length cr,.int .i64 (x.top.h:Int),.bool x.top.dead] 135)):=(bR _ _).alloc (nR _) _;have hg2:=HG1.out.below hbl;have b2:((w1.alloc (.cells #[.int .i64 x.top.op,.slice Ap x.top.ps.length cp,.slice Ar x.top.rs.length cr,.int .i64 (x.top.h:Int),.bool x.top.dead] 135))).cell? ⟨w1.heap.size,2,none⟩=some (.slice Ar x.top.rs.length cr):=by rw[wN];rfl
   have hfr:¬ wpriv F x1 w1.heap.size:=HG1.out.new_free (nR _);have HG2:=hD hg2;have HB2:=hD b2;have HFR:=hD hfr;clear hbl hg2 b2 hfr;generalize (w1.alloc (.cells #[.int .i64 x.top.op,.slice Ap x.top.ps.length cp,.slice Ar x.top.rs.length cr,.int .i64 (x.top.h:Int),.bool x.top.dead] 135))=w4 at *;exact Zu
  | true =>
   have d4:(x.top.op==4)=true:=by have:=of_decide_eq_true h4;simpa using this
   clear h4;cases he:decide (x.top.ps=x.top.rs) with
   | false =>
    rw[he]at HEQ;clear he;rw[show(!(true && !false))=false from rfl];go_enter Tryz.func95,Tryz.ntmps95;go_wp2_with (first|(go_at_call 112;refine HF2.out.mono ?_;rintro e w1 ⟨x1,g1,s1,rfl,hxf,hxs⟩;have HG1:=hD g1;have HS1:=hD s1;have HXF:=hD hxf;have HXS:=hD hxs;clear g1 s1 hxf hxs)|(go_at_call 99;refine(HEQ.out _ x1 (HG1.out.alloc _).1 (HS1.out.trans (HG1.out.alloc _).2)).mono ?_;rintro e w3 ⟨rfl,hb3⟩;have HB3:=hD hb3;clear hb3))
    go_ret;have h2:=HG1.out.alloc (.cells #[.int .i64 x.top.op,.slice Ap x.top.ps.length cp,.slice Ar x.top.rs.length cr,.int .i64 (x.top.h:Int),.bool x.top.dead] 135);have h3:=h2.1.below HB3.out;exact⟨rfl,x1,h3.1,(HS1.out.trans h2.2).trans h3.2,fun hx=>(by cases hx)⟩
   | true =>
    rw[he]at HEQ;clear he;rw[show(!(true && !true))=true from rfl];go_enter Tryz.func95,Tryz.ntmps95
    go_upto_region 4 with (first|(go_at_call 112;refine HF2.out.mono ?_;rintro e w1 ⟨x1,g1,s1,rfl,hxf,hxs⟩;have HG1:=hD g1;have HS1:=hD s1;have HXF:=hD hxf;have HXS:=hD hxs;clear g1 s1 hxf hxs)|(go_at_call 99;refine(HEQ.out _ x1 (HG1.out.alloc _).1 (HS1.out.trans (HG1.out.alloc _).2)).mono ?_;rintro e w3 ⟨rfl,hb3⟩;have HB3:=hD hb3;clear hb3))
    have hbl:Below w1.heap.size w1 w3:=((bR _ _).alloc (nR _) (.cells #[.int .i64 x.top.op,.slice Ap x.top.ps.length cp,.slice Ar x.top.rs.length cr,.int .i64 (x.top.h:Int),.bool x.top.dead] 135)).trans (HB3.out.mono (by rw[Wq];omega));have hg2:=HG1.out.below hbl;have b2:(w3).cell? ⟨w1.heap.size,2,none⟩=some (.slice Ar x.top.rs.length cr):=((HB3.out.cell (p:=⟨w1.heap.size,2,none⟩) (by rw[Wq];exact Nat.lt_succ_self _))).trans (by rw[wN];rfl);have hfr:¬ wpriv F x1 w1.heap.size:=HG1.out.new_free (nR _);have HG2:=hD hg2;have HB2:=hD b2;have HFR:=hD hfr;clear hbl hg2 b2 hfr;generalize w3=w4 at *;exact Zu
end
end Go.Proofs.YtepgopnnaeoolaaGreatDoor
