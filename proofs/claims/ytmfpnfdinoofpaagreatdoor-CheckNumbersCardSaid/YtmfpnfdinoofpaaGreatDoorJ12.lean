/- A part of the proof. -/
import Derived.Test.YtmfpnfdinoofpaaGreatDoorJ5
import Derived.Laws.IdiomCopy
namespace Go.Proofs.YtmfpnfdinoofpaaGreatDoor
section
open Go.RowKit
def AccPost (p:Int×Int×Bool×Bool) (w:World) (e:Ending) (w':World):Prop :=
 e=.returned (.tuple #[.int .i64 p.1,.int .i64 p.2.1,.bool p.2.2.1,.bool p.2.2.2])∧Below w.heap.size w w'
theorem access_out (op:Int) (h:op<40∨62<op) (w:World):Calls Tryz.prog 119 #[.int .i64 op] w (AccPost (0,0,false,false) w):=by
 rcases h with h|h
 all_goals
  go_enter Tryz.func119,Tryz.ntmps119;go_wp2;refine bodyPost_ret (v:=.tuple #[.int .i64 0,.int .i64 0,.bool false,.bool false]) (by simp[results,Tryz.results119,go_sem]) rfl ⟨rfl,bR _ _⟩
def tableB:Array Value:=((List.replicate 40 (0,0,false,false)++accL).flatMap fun (p:Int×Int×Bool×Bool)=>[Value.int .i64 p.1,Value.int .i64 p.2.1,Value.bool p.2.2.1]).toArray
theorem table_at (w:World):∀ i:Fin 23,(Instr.index 227 (.agg tableB) (.int .i64 (40+(i.val:Int)))).run Tryz.prog w=.ok (.agg #[.int .i64 (accL.getD i.val (0,0,false,false)).1,.int .i64 (accL.getD i.val (0,0,false,false)).2.1,.bool (accL.getD i.val (0,0,false,false)).2.2.1]) w
 | ⟨0,_⟩=>by kernel_rfl
 | ⟨1,_⟩=>by kernel_rfl
 | ⟨2,_⟩=>by kernel_rfl
 | ⟨3,_⟩=>by kernel_rfl
 | ⟨4,_⟩=>by kernel_rfl
 | ⟨5,_⟩=>by kernel_rfl
 | ⟨6,_⟩=>by kernel_rfl
 | ⟨7,_⟩=>by kernel_rfl
 | ⟨8,_⟩=>by kernel_rfl
 | ⟨9,_⟩=>by kernel_rfl
 | ⟨10,_⟩=>by kernel_rfl
 | ⟨11,_⟩=>by kernel_rfl
 | ⟨12,_⟩=>by kernel_rfl
 | ⟨13,_⟩=>by kernel_rfl
 | ⟨14,_⟩=>by kernel_rfl
 | ⟨15,_⟩=>by kernel_rfl
 | ⟨16,_⟩=>by kernel_rfl
 | ⟨17,_⟩=>by kernel_rfl
 | ⟨18,_⟩=>by kernel_rfl
 | ⟨19,_⟩=>by kernel_rfl
 | ⟨20,_⟩=>by kernel_rfl
 | ⟨21,_⟩=>by kernel_rfl
 | ⟨22,_⟩=>by kernel_rfl
 | ⟨_+23,h⟩=>absurd h (by omega)
theorem triple_built (a b:Int) (c:Bool) (w:World):(Instr.build 226 #[(0,.int .i64 a),(1,.int .i64 b),(2,.bool c)]).run Tryz.prog w=.ok (.agg #[.int .i64 a,.int .i64 b,.bool c]) w:=run_build w _ _ _ (by kernel_rfl)
end
section
open Go.RowKit
set_option maxHeartbeats 1000000
set_option maxRecDepth 100000
theorem access_in (op b k:Int) (s:Bool) (h:40≤op) (g:op≤62) (w:World)
 (hi:∀ w,(Instr.index 227 (.agg tableB) (.int .i64 op)).run Tryz.prog w=.ok (.agg #[.int .i64 b,.int .i64 k,.bool s]) w) :
 Calls Tryz.prog 119 #[.int .i64 op] w (AccPost (b,k,s,decide (0<b)) w):=by
 have ht:=triple_built;go_enter Tryz.func119,Tryz.ntmps119;go_wp2_with (with_reducible refine wpList_buildTo rfl 227 _ rfl (some 34) rfl tableB (by as_aux_lemma=>kernel_rfl) ?_)
 go_quiet (fail)
 go_wp2;refine bodyPost_ret (v:=.tuple #[.int .i64 b,.int .i64 k,.bool s,.bool (decide (0<b))]) (by simp[results,Tryz.results119,go_sem]) rfl ⟨rfl,?_⟩;exact Wt ((bR _ _).alloc (nR _) _) _
theorem access_any (op:Int) (w:World):Calls Tryz.prog 119 #[.int .i64 op] w (AccPost (WK op) w):=by
 by_cases h:40≤op∧op≤62
 ·have e:WK op=accL.getD (op - 40).toNat (0,0,false,false):=by unfold WK;rw[if_pos h]
  have hp:=acc_pos op;have ht:=fun w=>table_at w ⟨(op - 40).toNat,by omega⟩;rw[e]at hp ⊢;simp only[show(40:Int)+((op - 40).toNat:Int)=op by omega]at ht;generalize accL.getD (op - 40).toNat (0,0,false,false)=p at hp ht;obtain⟨b,k,s,d⟩:=p;have hp':d=decide (0<b):=hp;clear hp;subst hp';exact access_in op b k s h.1 h.2 w ht
 ·have e:WK op=(0,0,false,false):=by unfold WK;rw[if_neg h]
  rw[e];exact access_out op (by omega) w
theorem Wn (op:Int) (w:World) :
 Calls Tryz.prog 131 #[.int .i64 op] w fun e w'=>e=.returned (.tuple #[.int .i64 (WK op).1,.int .i64 (WK op).2.1,.bool (WK op).2.2.1])∧w=w':=by
 by_cases h:40≤op∧op≤62
 ·have c:op=40∨op=41∨op=42∨op=43∨op=44∨op=45∨op=46∨op=47∨op=48∨op=49∨op=50∨op=51∨op=52∨op=53∨op=54∨op=55∨op=56∨op=57∨op=58∨op=59∨op=60∨op=61∨op=62:=by omega
  clear h;rcases c with rfl|rfl|rfl|rfl|rfl|rfl|rfl|rfl|rfl|rfl|rfl|rfl|rfl|rfl|rfl|rfl|rfl|rfl|rfl|rfl|rfl|rfl|rfl
  all_goals
   go_enter Tryz.func131,Tryz.ntmps131;go_wp2
   go_ret3
   exact⟨rfl,rfl⟩
 ·have e:WK op=(0,0,false,false):=by unfold WK;rw[if_neg h]
  rw[e];have h':op<40∨62<op:=by omega
  clear h e;rcases h' with h|h
  all_goals
   go_enter Tryz.func131,Tryz.ntmps131;go_wp2
   go_ret3
   exact⟨rfl,rfl⟩
end
section
open Go.RowKit
theorem mul64_few (n:Int) (h:n=1∨n=2) (w:World) :
 Calls Tryz.prog 191 #[.int .u64 1,.int .u64 n] w fun e w'=>e=.returned (.tuple #[.int .u64 0,.int .u64 n])∧w=w':=by
 rcases h with rfl|rfl
 all_goals
  go_enter Tryz.func191,Tryz.ntmps191;go_wp2
  go_ret2
  exact⟨rfl,rfl⟩
theorem mul_1 (w:World):Calls Tryz.prog 183 #[.int .u64 1,.int .u64 1] w fun e w'=>e=.returned (.tuple #[.int .u64 0,.int .u64 1])∧w=w':=by
 go_enter Tryz.func183,Tryz.ntmps183;go_wp2_with (go_at_call 191;refine(mul64_few 1 (.inl rfl) _).mono ?_;rintro e w' ⟨rfl,rfl⟩)
 go_ret2
 exact⟨rfl,rfl⟩
theorem mul_2 (w:World):Calls Tryz.prog 183 #[.int .u64 1,.int .u64 2] w fun e w'=>e=.returned (.tuple #[.int .u64 0,.int .u64 2])∧w=w':=by
 go_enter Tryz.func183,Tryz.ntmps183;go_wp2_with (go_at_call 191;refine(mul64_few 2 (.inr rfl) _).mono ?_;rintro e w' ⟨rfl,rfl⟩)
 go_ret2
 exact⟨rfl,rfl⟩
theorem made_1 (w:World):(Instr.makeSlice 23 (.int .i64 1) (.int .i64 1)).run Tryz.prog w=.ok (.slice (some ⟨w.heap.size,0,none⟩) 1 1) (w.alloc (.cells #[.int .i64 0] 3)):=by kernel_rfl
theorem made_2 (w:World):(Instr.makeSlice 23 (.int .i64 2) (.int .i64 2)).run Tryz.prog w=.ok (.slice (some ⟨w.heap.size,0,none⟩) 2 2) (w.alloc (.cells #[.int .i64 0,.int .i64 0] 3)):=by kernel_rfl
def TimesPost (x:Int) (n:Nat) (w:World) (e:Ending) (w':World):Prop:=∃ v:Value,e=.returned v∧RowOf w' v (List.replicate n x)∧(∀ a k c,v=.slice (some a) k c→w.heap.size≤a.block)∧Below w.heap.size w w'
theorem copied (b o dl dc:Nat) (a:Addr) (sc:Nat) (x:Int) (w:World) (hd:1≤dl) (hx:w.cell? a=some (.int .i64 x)) (hc:(w.cell? ⟨b,o,none⟩).isSome=true) (hf:w.frozen? ⟨b,o,none⟩=false) :
 (Builtin.copy_ #[23,23] 3 #[.slice (some ⟨b,o,none⟩) dl dc,.slice (some a) 1 sc]).run Tryz.prog w=.ok (.int .i64 1) (w.setCell ⟨b,o,none⟩ (.int .i64 x)):=by
 have h:=run_copy_cells (P:=Tryz.prog) w 23 23 3 3 b o dl dc a 1 sc [.int .i64 x] (by kernel_rfl) (by kernel_rfl) (by simp[Nat.min_eq_left hd])
  (by intro j v hj;match j,hj with|0,hj=>simp at hj;subst hj;simpa [Addr.add] using hx) (fun j hj=>by have e:j=0:=(by simpa using hj);subst e;exact hc) (fun j hj=>by have e:j=0:=(by simpa using hj);subst e;exact hf) (by simp[Value.oneCell'])
 exact h
theorem repeat_1 (x:Int) (g:Nat) (w:World) (hg:w.cell? ⟨g,0,none⟩=some (.int .i64 x)) (hs:g<w.heap.size) :
 Calls Tryz.prog 173 #[.slice (some ⟨g,0,none⟩) 1 1,.int .i64 1] w (TimesPost x 1 w):=by
 have hmk:=made_1;have hg':(w.alloc (.cells #[.int .i64 0] 3)).cell? ⟨g,0,none⟩=some (.int .i64 x):=by rw[World.cell?_alloc_lt _ _ _ hs];exact hg
 have hcp:=copied w.heap.size 0 1 1 ⟨g,0,none⟩ 1 x (w.alloc (.cells #[.int .i64 0] 3)) (nR _) hg' (by simp) (by simp[go_sem]);go_enter Tryz.func173,Tryz.ntmps173;go_wp2_with (go_at_call 183;refine(mul_1 _).mono ?_;rintro e w' ⟨rfl,rfl⟩)
 go_loop [8] (fun n=>n=.int .i64 1) (fun _=>0)
 case atStart=>rfl
 case round =>
  subst hrel;go_wp2;go_ret;exact⟨_,rfl,.inr ⟨w.heap.size,1,rfl,by simp,by simp,by simp,fun j hj=>new_cells w 3 [x] j hj⟩,fun a k c e=>by cases e;exact nR _,(bR _ _).alloc (nR _) _⟩
theorem repeat_2 (x:Int) (g:Nat) (w:World) (hg:w.cell? ⟨g,0,none⟩=some (.int .i64 x)) (hs:g<w.heap.size) :
 Calls Tryz.prog 173 #[.slice (some ⟨g,0,none⟩) 1 1,.int .i64 2] w (TimesPost x 2 w):=by
 have hmk:=made_2;have hg':(w.alloc (.cells #[.int .i64 0,.int .i64 0] 3)).cell? ⟨g,0,none⟩=some (.int .i64 x):=by rw[World.cell?_alloc_lt _ _ _ hs];exact hg
 have hcp:=copied w.heap.size 0 2 2 ⟨g,0,none⟩ 1 x (w.alloc (.cells #[.int .i64 0,.int .i64 0] 3)) (by omega) hg' (by simp) (by simp[go_sem]);have hcq:(Builtin.copy_ #[23,23] 3 #[.slice (some ⟨w.heap.size,1,none⟩) 1 1,.slice (some ⟨w.heap.size,0,none⟩) 1 2]).run Tryz.prog (w.alloc (.cells #[.int .i64 x,.int .i64 0] 3)).drew=.ok (.int .i64 1) (w.alloc (.cells #[.int .i64 x,.int .i64 x] 3)).drew:=by
  have h:=copied w.heap.size 1 1 1 ⟨w.heap.size,0,none⟩ 2 x (w.alloc (.cells #[.int .i64 x,.int .i64 0] 3)).drew (by omega) (by simp[go_sem]) (by simp[go_sem]) (by simp[go_sem]);rw[show ∀ (X:World) a v,X.drew.setCell a v=(X.setCell a v).drew from fun _ _ _=>rfl]at h;simpa [go_sem] using h
 go_enter Tryz.func173,Tryz.ntmps173;go_wp2_with (go_at_call 183;refine(mul_2 _).mono ?_;rintro e w' ⟨rfl,rfl⟩)
 go_loopw [8] (fun n wr=>(n=.int .i64 1∧wr=w.alloc (.cells #[.int .i64 x,.int .i64 0] 3))∨(n=.int .i64 2∧∃ m,wr=(w.alloc (.cells #[.int .i64 x,.int .i64 x] 3)).drewN m)) (fun n _=>2 - (intOf n).toNat)
 case atStart=>exact .inl ⟨rfl,rfl⟩
 case round =>
  rcases hrel with ⟨rfl,rfl⟩|⟨rfl,m,rfl⟩
  ·go_wp2_with fail
   go_region
   all_goals
    go_wp2;go_roundw
    case rel=>exact .inr ⟨rfl,1,rfl⟩
    case measure=>simp[intOf]
  ·go_wp2;go_ret;refine⟨_,rfl,.inr ⟨w.heap.size,2,rfl,by simp,by simp,by simp,fun j hj=>new_cells w 3 [x,x] j hj⟩,fun a k c e=>by cases e;exact nR _,Wt ((bR _ _).alloc (nR _) _) _⟩
end
section
open Go.RowKit
set_option maxHeartbeats 1000000
set_option maxRecDepth 100000
theorem quad_built (a b c d:Int) (w:World):(Instr.build 246 #[(0,.int .i64 a),(1,.int .i64 b),(2,.int .i64 c),(3,.int .i64 d)]).run Tryz.prog w=.ok (.agg #[.int .i64 a,.int .i64 b,.int .i64 c,.int .i64 d]) w:=run_build w _ _ _ (by kernel_rfl)
def rowsB:Array Value:=(shapeL.flatMap fun p=>[Value.int .i64 p.1,Value.int .i64 (p.2.1:Int),Value.int .i64 p.2.2.1,Value.int .i64 p.2.2.2]).toArray
theorem rows_at:∀ k:Fin 23,rowsB[k.val * 4]?=some (.int .i64 (shapeL.getD k.val (0,0,0,0)).1)∧rowsB[k.val * 4+1]?=some (.int .i64 ((shapeL.getD k.val (0,0,0,0)).2.1:Int))∧rowsB[k.val * 4+2]?=some (.int .i64 (shapeL.getD k.val (0,0,0,0)).2.2.1)∧rowsB[k.val * 4+3]?=some (.int .i64 (shapeL.getD k.val (0,0,0,0)).2.2.2)
 | ⟨0,_⟩=>⟨rfl,rfl,rfl,rfl⟩
 | ⟨1,_⟩=>⟨rfl,rfl,rfl,rfl⟩
 | ⟨2,_⟩=>⟨rfl,rfl,rfl,rfl⟩
 | ⟨3,_⟩=>⟨rfl,rfl,rfl,rfl⟩
 | ⟨4,_⟩=>⟨rfl,rfl,rfl,rfl⟩
 | ⟨5,_⟩=>⟨rfl,rfl,rfl,rfl⟩
 | ⟨6,_⟩=>⟨rfl,rfl,rfl,rfl⟩
 | ⟨7,_⟩=>⟨rfl,rfl,rfl,rfl⟩
 | ⟨8,_⟩=>⟨rfl,rfl,rfl,rfl⟩
 | ⟨9,_⟩=>⟨rfl,rfl,rfl,rfl⟩
 | ⟨10,_⟩=>⟨rfl,rfl,rfl,rfl⟩
 | ⟨11,_⟩=>⟨rfl,rfl,rfl,rfl⟩
 | ⟨12,_⟩=>⟨rfl,rfl,rfl,rfl⟩
 | ⟨13,_⟩=>⟨rfl,rfl,rfl,rfl⟩
 | ⟨14,_⟩=>⟨rfl,rfl,rfl,rfl⟩
 | ⟨15,_⟩=>⟨rfl,rfl,rfl,rfl⟩
 | ⟨16,_⟩=>⟨rfl,rfl,rfl,rfl⟩
 | ⟨17,_⟩=>⟨rfl,rfl,rfl,rfl⟩
 | ⟨18,_⟩=>⟨rfl,rfl,rfl,rfl⟩
 | ⟨19,_⟩=>⟨rfl,rfl,rfl,rfl⟩
 | ⟨20,_⟩=>⟨rfl,rfl,rfl,rfl⟩
 | ⟨21,_⟩=>⟨rfl,rfl,rfl,rfl⟩
 | ⟨22,_⟩=>⟨rfl,rfl,rfl,rfl⟩
 | ⟨_+23,h⟩=>absurd h (by omega)
theorem Tryz.info_row:(Tryz.prog.info? 246).map (fun i=>(i.zero,i.size))=some (some (.agg #[.int .i64 0,.int .i64 0,.int .i64 0,.int .i64 0]),4):=by kernel_rfl
theorem oshape_any (op:Int) (w:World) :
 Calls Tryz.prog 172 #[.int .i64 op] w fun e w'=>e=.returned (.tuple #[.int .i64 ((UX op 23).1:Int),.int .i64 (UX op 23).2.1,.int .i64 (UX op 23).2.2])∧Below w.heap.size w w':=by
 have hq:=quad_built;go_enter Tryz.func172,Tryz.ntmps172;go_wp2_with (with_reducible refine wpList_buildSliceN rfl 247 246 23 _ rfl rowsB (.agg #[.int .i64 0,.int .i64 0,.int .i64 0,.int .i64 0]) 4 (by kernel_rfl) Tryz.info_row (by decide) (by decide) (by as_aux_lemma=>kernel_rfl) ?_)
 clear hq;go_loopw [2,3,4,32] (fun a b c i wr=>∃ k:Nat,k≤23∧i=.int .i64 (k:Int)∧a=.int .i64 ((UX op k).1:Int)∧b=.int .i64 (UX op k).2.1∧c=.int .i64 (UX op k).2.2∧Below (w.heap.size+1) (w.alloc (.cells rowsB 246)) wr) (fun _ _ _ i _=>23 - (intOf i).toNat)
 case atStart=>exact⟨0,nZ _,rfl,rfl,rfl,rfl,bR _ _⟩
 case round =>
  obtain⟨k,hk,rfl,rfl,rfl,rfl,hb⟩:=hrel;by_cases hlt:k<23
  ·have hc:∀ j v,rowsB[j]?=some v→wr.cell? ⟨w.heap.size,j,none⟩=some v:=fun j v h=>(hb.cell (p:=⟨w.heap.size,j,none⟩) (by simp)).trans (by rw[wN];exact h);obtain⟨c0,c1,c2,c3⟩:=rows_at ⟨k,hlt⟩;replace c0:=hc _ _ c0;replace c1:=hc _ _ c1;replace c2:=hc _ _ c2;replace c3:=hc _ _ c3;have hsz:w.heap.size+1≤wr.heap.size:=by have:=hb.size;simpa using this
   clear hc;have hy:=shape_yes op k;have hn:=shape_no op k;obtain⟨f,n,a,b,hp⟩:∃ f n a b,shapeL.getD k (0,0,0,0)=(f,n,a,b):=⟨_,_,_,_,rfl⟩;rw[hp]at hy hn;simp only[hp]at c0 c1 c2 c3;clear hp;by_cases hle:f≤op
   ·have HY:=hD (hy hle);clear hy hn;go_wp2_with fail
    go_quiet (fail)
    go_wp2;go_roundw
    case rel=>exact⟨k+1,by omega,by go_num,by rw[HY.out],by rw[HY.out],by rw[HY.out],Wt (hb.alloc hsz _) _⟩
    case measure=>simp[intOf];omega
   ·have HN:=hD (hn hle);clear hy hn;go_wp2;go_roundw
    case rel=>exact⟨k+1,by omega,by go_num,by rw[HN.out],by rw[HN.out],by rw[HN.out],hb.alloc hsz _⟩
    case measure=>simp[intOf];omega
  ·obtain rfl:k=23:=by omega
   go_wp2
   go_ret3
   exact⟨rfl,((bR w.heap.size w).alloc (nR _) _).trans (hb.mono (Nat.le_succ _))⟩
end
section
open Go.RowKit
def NumNew (op:Int) (w:World) (e:Ending) (w':World):Prop :=
 ∃ p q:Value,e=.returned (.tuple #[.agg #[p,q],.bool (WS op)])∧RowOf w' p (Vw op)∧RowOf w' q (Vf op)∧(∀ a k c,p=.slice (some a) k c→w.heap.size≤a.block)∧(∀ a k c,q=.slice (some a) k c→w.heap.size≤a.block)∧Below w.heap.size w w'
theorem nnum_no (op:Int) (h:WS op=false) (w:World):Calls Tryz.prog 144 #[.int .i64 op] w (NumNew op w):=by
 have h1:Vw op=[]:=by unfold Vw;rw[h];rfl
 have h2:Vf op=[]:=by unfold Vf;rw[h];rfl
 have C:=fun w=>UC op w;rw[h]at C;have HC:=hD C;have HH:=hD h;have H1:=hD h1;have H2:=hD h2;clear C h h1 h2;go_enter Tryz.func144,Tryz.ntmps144;go_wp2_with (go_at_call 155;refine(HC.out _).mono ?_;rintro e w' ⟨rfl,rfl⟩)
 exact bodyPost_ret (v:=.tuple #[.agg #[.slice none 0 0,.slice none 0 0],.bool false]) (by simp[results,Tryz.results144,go_sem]) rfl
  ⟨_,_,by rw[HH.out],(.inl ⟨rfl,H1.out⟩),(.inl ⟨rfl,H2.out⟩),(fun _ _ _ h=>by cases h),(fun _ _ _ h=>by cases h),(bR _ _).alloc (nR _) _⟩
theorem bcell10 {W w1:World} (hb:Below W.heap.size W w1):(∀ b o,b<W.heap.size→w1.cell? ⟨b,o,none⟩=W.cell? ⟨b,o,none⟩)∧(∀ b o,b<W.heap.size→w1.frozen? ⟨b,o,none⟩=W.frozen? ⟨b,o,none⟩) :=
 ⟨fun b o h=>hb.cell (p:=⟨b,o,none⟩) h,fun b o h=>hb.frozen (p:=⟨b,o,none⟩) h⟩
theorem RowOf.setCell10 {w:World} {ao:Option Addr} {n c:Nat} {xs:List Int} (h:RowOf w (.slice ao n c) xs) (p:Addr) (u:Value) (hp:∀ a,ao=some a→p.block<a.block):RowOf (w.setCell p u) (.slice ao n c) xs:=by
 rcases h with h|⟨g,cap,h1,h2,h3,h4,h5⟩
 ·exact .inl h
 ·refine .inr ⟨g,cap,h1,by simpa [World.setCell] using h2,h3,h4,fun j hj=>?_⟩;rw[← h5 j hj];have hg:p.block<g:=by
   have h6:ao=some ⟨g,0,none⟩:=by cases h1;rfl
   exact hp _ h6
  exact World.cell?_of_block (Below.heap_setCell _ _ _ _ (by simp;omega))
theorem nnum_end (op:Int) (w w2:World) (a b:Int) (n:Nat) (ao:Option Addr) (nn cc:Nat) (h:WS op=true) (h1:Vw op=List.replicate n a) (h2:Vf op=[b])
 (hrow:RowOf w2 (.slice ao nn cc) (List.replicate n a)) (hfrom:∀ x,ao=some x→w.heap.size<x.block) (hB:Below (w.heap.size+1) (w.alloc (.cells #[.slice none 0 0,.slice none 0 0] 217)) w2) :
 NumNew op w (.returned (.tuple #[.agg #[.slice ao nn cc,.slice (some ⟨w2.heap.size,0,none⟩) 1 1],.bool true]))
  (((w2.setCell ⟨w.heap.size,0,none⟩ (.slice ao nn cc)).setCell ⟨w.heap.size,1,none⟩ (.slice (some ⟨w2.heap.size,0,none⟩) 1 1)).alloc (.cells #[.int .i64 b] 3)):=by
 have hs:w.heap.size+1≤w2.heap.size:=by have:=hB.size;simpa using this
 have r1:=(hrow.setCell10 ⟨w.heap.size,0,none⟩ (.slice ao nn cc) hfrom).setCell10 ⟨w.heap.size,1,none⟩ (.slice (some ⟨w2.heap.size,0,none⟩) 1 1) hfrom;have b1:Below w.heap.size w ((w2.setCell ⟨w.heap.size,0,none⟩ (.slice ao nn cc)).setCell ⟨w.heap.size,1,none⟩ (.slice (some ⟨w2.heap.size,0,none⟩) 1 1)) :=
  ((((bR w.heap.size w).alloc (nR _) _).trans (hB.mono (Nat.le_succ _))).setCell (p:=⟨w.heap.size,0,none⟩) (nR _) _).setCell (p:=⟨w.heap.size,1,none⟩) (nR _) _
 have es:((w2.setCell ⟨w.heap.size,0,none⟩ (.slice ao nn cc)).setCell ⟨w.heap.size,1,none⟩ (.slice (some ⟨w2.heap.size,0,none⟩) 1 1)).heap.size=w2.heap.size:=by simp[World.setCell]
 refine⟨_,_,by rw[h],?_,?_,(fun a k c e=>by simp only[vI]at e;exact Nat.le_of_lt (hfrom a e.1)),(fun a k c e=>by simp only[vI,Option.some.injEq]at e;rw[← e.1];show w.heap.size≤w2.heap.size;omega),b1.alloc (by rw[es];omega) _⟩
 ·rw[h1];exact r1.below ((bR _ _).alloc (nR _) _)
 ·rw[h2];refine .inr ⟨w2.heap.size,1,rfl,by simp[es],by simp,by simp,fun j hj=>?_⟩;have nc:=new_cells ((w2.setCell ⟨w.heap.size,0,none⟩ (.slice ao nn cc)).setCell ⟨w.heap.size,1,none⟩ (.slice (some ⟨w2.heap.size,0,none⟩) 1 1)) 3 [b] j hj;rw[es]at nc;exact nc
theorem nnum_yes (op:Int) (h:WS op=true) (w:World):Calls Tryz.prog 144 #[.int .i64 op] w (NumNew op w):=by
 have h1:Vw op=List.replicate (VH op).1 (VH op).2.1:=by unfold Vw;rw[h];rfl
 have h2:Vf op=[(VH op).2.2]:=by unfold Vf;rw[h];rfl
 have h3:=sig_count op h;have C:=fun w=>UC op w;have D:=fun w=>oshape_any op w;rw[h]at C;rw[shape_sig op h]at D;obtain⟨n,a,b,hs⟩:∃ n a b,VH op=(n,a,b):=⟨_,_,_,rfl⟩;rw[hs]at h1 h2 h3;simp only[hs]at D;simp only at h1 h2 h3;have HC:=hD C;have HH:=hD h;have H1:=hD h1;have H2:=hD h2;clear C h h1 h2 hs;rcases h3 with rfl|rfl
 ·have HD:=hD D;clear D;go_enter Tryz.func144,Tryz.ntmps144;go_wp2_with (first|(go_at_call 155;refine(HC.out _).mono ?_;rintro e w' ⟨rfl,rfl⟩)|(go_at_call 172;refine(HD.out _).mono ?_;rintro e w1 ⟨rfl,hb1⟩;obtain⟨hc1,hf1⟩:=bcell10 hb1;have hz1:w.heap.size+1≤w1.heap.size:=(by have:=hb1.size;simpa using this)))
  refine(repeat_1 a w1.heap.size _ (by simp) (by simp)).mono ?_;rintro e w2 ⟨v,rfl,hrow,hnew,hb2⟩;obtain⟨ao,nn,cc,rfl⟩:=hrow.slice;have hB:Below (w.alloc (.cells #[.slice none 0 0,.slice none 0 0] 217)).heap.size (w.alloc (.cells #[.slice none 0 0,.slice none 0 0] 217)) w2 :=
   (hb1.alloc hb1.size _).trans (hb2.mono (by simp;omega))
  have f0:w2.cell? ⟨w.heap.size,0,none⟩=some (.slice none 0 0):=(hB.cell (p:=⟨w.heap.size,0,none⟩) (by simp)).trans (by simp);have f1:w2.cell? ⟨w.heap.size,1,none⟩=some (.slice none 0 0):=(hB.cell (p:=⟨w.heap.size,1,none⟩) (by simp)).trans (by simp);have f2:w2.frozen? ⟨w.heap.size,0,none⟩=false:=(hB.frozen (p:=⟨w.heap.size,0,none⟩) (by simp)).trans (by simp[go_sem]);have f3:w2.frozen? ⟨w.heap.size,1,none⟩=false:=(hB.frozen (p:=⟨w.heap.size,1,none⟩) (by simp)).trans (by simp[go_sem]);have hz2:w1.heap.size+1≤w2.heap.size:=by have:=hb2.size;simpa using this
  have hz3:w.heap.size<w2.heap.size:=by omega
  clear hc1 hf1;have hfrom:∀ x,ao=some x→w.heap.size<x.block:=fun x e=>by have h:=hnew x nn cc (by rw[e]);have e3:w1.heap.size+1≤x.block:=(by simpa using h);omega
  rw[show(w.alloc (.cells #[.slice none 0 0,.slice none 0 0] 217)).heap.size=w.heap.size+1 by simp]at hB;have HB:=hD hB;have HR:=hD hrow;have HF:=hD hfrom;clear hrow hfrom hnew;clear hb1 hb2 hB;go_wp2;exact bodyPost_ret (v:=.tuple #[.agg #[.slice ao nn cc,.slice (some ⟨w2.heap.size,0,none⟩) 1 1],.bool true]) (by simp[results,Tryz.results144,go_sem,hz3,f0,f1]) rfl (nnum_end op w w2 a b 1 ao nn cc HH.out H1.out H2.out HR.out HF.out HB.out)
 ·have HD:=hD D;clear D;go_enter Tryz.func144,Tryz.ntmps144;go_wp2_with (first|(go_at_call 155;refine(HC.out _).mono ?_;rintro e w' ⟨rfl,rfl⟩)|(go_at_call 172;refine(HD.out _).mono ?_;rintro e w1 ⟨rfl,hb1⟩;obtain⟨hc1,hf1⟩:=bcell10 hb1;have hz1:w.heap.size+1≤w1.heap.size:=(by have:=hb1.size;simpa using this)))
  refine(repeat_2 a w1.heap.size _ (by simp) (by simp)).mono ?_;rintro e w2 ⟨v,rfl,hrow,hnew,hb2⟩;obtain⟨ao,nn,cc,rfl⟩:=hrow.slice;have hB:Below (w.alloc (.cells #[.slice none 0 0,.slice none 0 0] 217)).heap.size (w.alloc (.cells #[.slice none 0 0,.slice none 0 0] 217)) w2 :=
   (hb1.alloc hb1.size _).trans (hb2.mono (by simp;omega))
  have f0:w2.cell? ⟨w.heap.size,0,none⟩=some (.slice none 0 0):=(hB.cell (p:=⟨w.heap.size,0,none⟩) (by simp)).trans (by simp);have f1:w2.cell? ⟨w.heap.size,1,none⟩=some (.slice none 0 0):=(hB.cell (p:=⟨w.heap.size,1,none⟩) (by simp)).trans (by simp);have f2:w2.frozen? ⟨w.heap.size,0,none⟩=false:=(hB.frozen (p:=⟨w.heap.size,0,none⟩) (by simp)).trans (by simp[go_sem]);have f3:w2.frozen? ⟨w.heap.size,1,none⟩=false:=(hB.frozen (p:=⟨w.heap.size,1,none⟩) (by simp)).trans (by simp[go_sem]);have hz2:w1.heap.size+1≤w2.heap.size:=by have:=hb2.size;simpa using this
  have hz3:w.heap.size<w2.heap.size:=by omega
  clear hc1 hf1;have hfrom:∀ x,ao=some x→w.heap.size<x.block:=fun x e=>by have h:=hnew x nn cc (by rw[e]);have e3:w1.heap.size+1≤x.block:=(by simpa using h);omega
  rw[show(w.alloc (.cells #[.slice none 0 0,.slice none 0 0] 217)).heap.size=w.heap.size+1 by simp]at hB;have HB:=hD hB;have HR:=hD hrow;have HF:=hD hfrom;clear hrow hfrom hnew;clear hb1 hb2 hB;go_wp2;exact bodyPost_ret (v:=.tuple #[.agg #[.slice ao nn cc,.slice (some ⟨w2.heap.size,0,none⟩) 1 1],.bool true]) (by simp[results,Tryz.results144,go_sem,hz3,f0,f1]) rfl (nnum_end op w w2 a b 2 ao nn cc HH.out H1.out H2.out HR.out HF.out HB.out)
theorem nnum_any (op:Int) (w:World):Calls Tryz.prog 144 #[.int .i64 op] w (NumNew op w):=by
 cases h:WS op with
 | true=>exact nnum_yes op h w
 | false=>exact nnum_no op h w
end
section
open Go.RowKit
theorem known_num (op:Int) (h:WS op=true) (w:World):Calls Tryz.prog 114 #[.int .i64 op] w (Wh true w):=by
 have A:=fun w=>UC op w;rw[h]at A;have HA:=hD A;clear A h;go_enter Tryz.func114,Tryz.ntmps114;go_wp2_with (go_at_call 155;refine(HA.out _).mono ?_;rintro e w' ⟨rfl,rfl⟩)
 go_ret;exact⟨rfl,bR _ _⟩
theorem known_opens (op:Int) (h:WS op=false) (ho:WF op=true) (w:World):Calls Tryz.prog 114 #[.int .i64 op] w (Wh true w):=by
 have A:=fun w=>UC op w;have B:=fun w=>opens_any op w;rw[h]at A;rw[ho]at B;have HA:=hD A;have HB:=hD B;clear A B h ho;go_enter Tryz.func114,Tryz.ntmps114;go_wp2_with (first|(go_at_call 155;refine(HA.out _).mono ?_;rintro e w' ⟨rfl,rfl⟩)|(go_at_call 116;refine(HB.out _).mono ?_;rintro e w' ⟨rfl,rfl⟩))
 go_ret;exact⟨rfl,bR _ _⟩
theorem known_const (op:Int) (h:WS op=false) (ho:WF op=false) (hc:(WZ op != 0)=true) (w:World):Calls Tryz.prog 114 #[.int .i64 op] w (Wh true w):=by
 have A:=fun w=>UC op w;have B:=fun w=>opens_any op w;have C:=fun w=>const_any op w;rw[h]at A;rw[ho]at B;rw[hc]at C;have HA:=hD A;have HB:=hD B;have HC:=hD C;clear A B C h ho hc;go_enter Tryz.func114,Tryz.ntmps114;go_wp2_with (first|(go_at_call 155;refine(HA.out _).mono ?_;rintro e w' ⟨rfl,rfl⟩)|(go_at_call 116;refine(HB.out _).mono ?_;rintro e w' ⟨rfl,rfl⟩)|(go_at_call 143;refine(HC.out _).mono ?_;rintro e w' ⟨rfl,rfl⟩))
 go_ret;exact⟨rfl,bR _ _⟩
theorem known_acc (op:Int) (h:WS op=false) (ho:WF op=false) (hc:(WZ op != 0)=false) (ha:(WK op).2.2.2=true) (w:World):Calls Tryz.prog 114 #[.int .i64 op] w (Wh true w):=by
 have A:=fun w=>UC op w;have B:=fun w=>opens_any op w;have C:=fun w=>const_any op w;have D:=fun w=>access_any op w;rw[h]at A;rw[ho]at B;rw[hc]at C;generalize WK op=p at D ha;obtain⟨x,y,z,d⟩:=p;replace ha:d=true:=ha;subst ha;have HA:=hD A;have HB:=hD B;have HC:=hD C;have HD:=hD D;clear A B C D h ho hc;go_enter Tryz.func114,Tryz.ntmps114;go_wp2_with (first|(go_at_call 155;refine(HA.out _).mono ?_;rintro e w' ⟨rfl,rfl⟩)|(go_at_call 116;refine(HB.out _).mono ?_;rintro e w' ⟨rfl,rfl⟩)|(go_at_call 143;refine(HC.out _).mono ?_;rintro e w' ⟨rfl,rfl⟩)|(go_at_call 119;refine(HD.out _).mono ?_;rintro e w1 ⟨rfl,hb⟩))
 go_ret;exact⟨rfl,hb⟩
theorem known_rest (op:Int) (h:WS op=false) (ho:WF op=false) (hc:(WZ op != 0)=false) (ha:(WK op).2.2.2=false) (w:World):Calls Tryz.prog 114 #[.int .i64 op] w (Wh (restL.contains op) w):=by
 have A:=fun w=>UC op w;have B:=fun w=>opens_any op w;have C:=fun w=>const_any op w;have D:=fun w=>access_any op w;have E:=fun (g:Nat) (w1:World) hg=>contains_any g 23 23 restL op rfl (by omega) w1 hg;rw[h]at A;rw[ho]at B;rw[hc]at C;generalize WK op=p at D ha;obtain⟨x,y,z,d⟩:=p;replace ha:d=false:=ha;subst ha;generalize restL.contains op=r at E;have HA:=hD A;have HB:=hD B;have HC:=hD C;have HD:=hD D;have HE:=hD E;clear A B C D E h ho hc;go_enter Tryz.func114,Tryz.ntmps114;go_wp2_with (first|(go_at_call 155;refine(HA.out _).mono ?_;rintro e w' ⟨rfl,rfl⟩)|(go_at_call 116;refine(HB.out _).mono ?_;rintro e w' ⟨rfl,rfl⟩)|(go_at_call 143;refine(HC.out _).mono ?_;rintro e w' ⟨rfl,rfl⟩)|(go_at_call 119;refine(HD.out _).mono ?_;rintro e w1 ⟨rfl,hb⟩))
 refine(HE.out w1.heap.size _ (fun j hj=>new_cells w1 3 restL j hj)).mono ?_;rintro e w' ⟨rfl,rfl⟩;go_wp2;go_ret;exact⟨rfl,hb.alloc hb.size _⟩
theorem known_any (op:Int) (w:World):Calls Tryz.prog 114 #[.int .i64 op] w (Wh (W9 op) w):=by
 cases h:WS op with
 | true=>rw[show W9 op=true by unfold W9;rw[h];rfl];exact known_num op h w
 | false =>
  cases ho:WF op with
  | true=>rw[show W9 op=true by unfold W9;rw[h,ho];rfl];exact known_opens op h ho w
  | false =>
   cases hc:WZ op != 0 with
   | true=>rw[show W9 op=true by unfold W9;rw[h,ho,hc];rfl];exact known_const op h ho hc w
   | false =>
    cases ha:(WK op).2.2.2 with
    | true=>rw[show W9 op=true by unfold W9;rw[h,ho,hc,ha];rfl];exact known_acc op h ho hc ha w
    | false=>rw[show W9 op=restL.contains op by unfold W9;rw[h,ho,hc,ha];simp];exact known_rest op h ho hc ha w
end
end Go.Proofs.YtmfpnfdinoofpaaGreatDoor
