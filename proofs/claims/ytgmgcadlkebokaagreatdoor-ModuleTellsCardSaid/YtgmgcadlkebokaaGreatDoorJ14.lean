/- A part of the proof. -/
import Derived.Test.YtgmgcadlkebokaaGreatDoorJ6
namespace Go.Proofs.YtgmgcadlkebokaaGreatDoor
open Go.RowKit
set_option maxRecDepth 100000
def RowNew (w w':World) (v:Value) (xs:List Int):Prop:=RowOf w' v xs∧∀ g,v.ownBlock=some g→w.heap.size≤g
theorem RowNew.below {w w1 w':World} {v:Value} {xs:List Int} (h:RowNew w w1 v xs) (hb:Below w1.heap.size w1 w'):RowOf w' v xs:=RowOf.below h.1 hb
theorem RowNew.slice {w w':World} {v:Value} {xs:List Int} (h:RowNew w w' v xs):∃ (ao:Option Addr) (n c:Nat),v=.slice ao n c:=RowOf.slice h.1
def Wx (op:Int) (w:World) (e:Ending) (w':World):Prop :=
 ∃ p q:Value,e=.returned (.tuple #[p,q,.bool (WR op)])∧RowNew w w' p (paramsB op)∧RowNew w w' q (resultsB op)∧Below w.heap.size w w'
theorem rnum_end (op:Int) (n:Nat) (hn:0<n) (hm:n≤2) (a b:Int) (w:World) (h:WR op=true) (hs:VW op=(n,a,b)) :
 Wx op w (.returned (.tuple #[.slice (some ⟨w.heap.size,0,none⟩) n n,.slice (some ⟨w.heap.size+1,0,none⟩) 1 1,.bool true]))
  ((w.alloc (.cells ((List.replicate n a).map (Value.int .i64)).toArray 3)).alloc (.cells #[.int .i64 b] 3)):=by
 have h1:paramsB op=List.replicate n a:=by unfold paramsB;rw[h,hs];rfl
 have h2:resultsB op=[b]:=by unfold resultsB;rw[h,hs];rfl
 refine⟨_,_,by rw[h],?_,?_,((bR _ _).alloc (nR _) _).alloc (by simp) _⟩
 ·rw[h1];refine⟨.inr ⟨w.heap.size,n,by simp,by simp;omega,by simpa using hn,by simp;omega,fun j hj=>?_⟩,fun g hg=>by obtain rfl:=Option.some.inj hg;exact nR _⟩;rw[World.cell?_alloc_lt _ _ _ (by simp)];exact new_cells w 3 (List.replicate n a) j hj
 ·rw[h2];refine⟨.inr ⟨w.heap.size+1,1,rfl,by simp,by simp,by simp,fun j hj=>?_⟩,fun g hg=>by obtain rfl:=Option.some.inj hg;exact Nat.le_succ _⟩;have nc:=new_cells (w.alloc (.cells ((List.replicate n a).map (Value.int .i64)).toArray 3)) 3 [b] j hj;rw[show(w.alloc (.cells ((List.replicate n a).map (Value.int .i64)).toArray 3)).heap.size=w.heap.size+1 by simp]at nc;exact nc
theorem WT (op a b:Int) (w:World) (h:WR op=true) (hs:VW op=(1,a,b)) :
 Wx op w (.returned (.tuple #[.slice (some ⟨w.heap.size,0,none⟩) 1 1,.slice (some ⟨w.heap.size+1,0,none⟩) 1 1,.bool true]))
  ((w.alloc (.cells #[.int .i64 a] 3)).alloc (.cells #[.int .i64 b] 3)):=rnum_end op 1 (by omega) (by omega) a b w h hs
theorem rnum_end2 (op a b:Int) (w:World) (h:WR op=true) (hs:VW op=(2,a,b)) :
 Wx op w (.returned (.tuple #[.slice (some ⟨w.heap.size,0,none⟩) 2 2,.slice (some ⟨w.heap.size+1,0,none⟩) 1 1,.bool true]))
  ((w.alloc (.cells #[.int .i64 a,.int .i64 a] 3)).alloc (.cells #[.int .i64 b] 3)):=rnum_end op 2 (by omega) (by omega) a b w h hs
theorem rnum_no (op:Int) (h:WR op=false) (w:World):Calls Tryz.prog 84 #[.int .i64 op] w (Wx op w):=by
 have h1:paramsB op=[]:=by unfold paramsB;rw[h];rfl
 have h2:resultsB op=[]:=by unfold resultsB;rw[h];rfl
 have e:isB op=false∧isF op=false:=by simpa [WR] using h
 have C:=fun w=>Vf op w;have D:=fun w=>VP op w;rw[e.1]at C;rw[e.2]at D;have HC:=hD C;have HD:=hD D;have HH:=hD h;have H1:=hD h1;have H2:=hD h2;clear C D h h1 h2 e;go_enter Tryz.func84,Tryz.ntmps84;go_wp2_with (first|(go_at_call 115;refine(HC.out _).mono ?_;rintro e w' ⟨rfl,rfl⟩)|(go_at_call 116;refine(HD.out _).mono ?_;rintro e w' ⟨rfl,rfl⟩))
 go_ret3
 exact⟨_,_,by rw[HH.out];rfl,⟨.inl ⟨rfl,H1.out⟩,fun g h=>by cases h⟩,⟨.inl ⟨rfl,H2.out⟩,fun g h=>by cases h⟩,bR _ _⟩
end Go.Proofs.YtgmgcadlkebokaaGreatDoor
