/- A part of the proof. -/
import Derived.Test.YtgmgcadlkebokaaGreatDoorJ5
import Derived.Great.BuildSlice
namespace Go.Proofs.YtgmgcadlkebokaaGreatDoor
section
open Go.RowKit
def RowOf (w:World) (v:Value) (xs:List Int):Prop :=
 (v=.slice none 0 0∧xs=[])∨∃ (g cap:Nat),v=.slice (some ⟨g,0,none⟩) xs.length cap∧g<w.heap.size∧0<xs.length∧xs.length≤1000000∧∀ j,j<xs.length→w.cell? ⟨g,j,none⟩=some (.int .i64 (xs.getD j 0))
theorem RowOf.below {w w':World} {v:Value} {xs:List Int} (h:RowOf w v xs) (hb:Below w.heap.size w w'):RowOf w' v xs:=by
 rcases h with h|⟨g,cap,h1,h2,h3,h4,h5⟩
 ·exact .inl h
 ·exact .inr ⟨g,cap,h1,WK h2 hb.size,h3,h4,fun j hj=>(hb.cell (p:=⟨g,j,none⟩) h2).trans (h5 j hj)⟩
theorem RowOf.slice {w:World} {v:Value} {xs:List Int} (h:RowOf w v xs):∃ (ao:Option Addr) (n c:Nat),v=.slice ao n c:=by
 rcases h with ⟨h,_⟩|⟨g,cap,h,_⟩
 ·exact⟨none,0,0,h⟩
 ·exact⟨_,_,_,h⟩
theorem new_cells (w:World) (t:TypeId) (xs:List Int) (j:Nat) (h:j<xs.length) :
 (w.alloc (.cells (xs.map (Value.int .i64)).toArray t)).cell? ⟨w.heap.size,j,none⟩=some (.int .i64 (xs.getD j 0)):=by
 rw[wN];simp[h]
def PlacePost (b:Bool) (w:World) (e:Ending) (w':World):Prop:=∃ r:Int,-1≤r∧r≤1000000∧decide (0≤r)=b∧e=.returned (.int .i64 r)∧w=w'
theorem contains_stop (xs:List Int) (x:Int) (h:∀ j,j<xs.length→¬ (x=xs.getD j 0)):xs.contains x=false:=by
 apply Bool.eq_false_iff.mpr
 intro hc;have hm:x ∈ xs:=by simpa using hc
 obtain⟨i,hi,e⟩:=List.getElem_of_mem hm;exact h i hi (by simp[hi,e])
theorem contains_hit (xs:List Int) (x:Int) (j:Nat) (hj:j<xs.length) (h:x=xs.getD j 0):xs.contains x=true:=by
 have:xs.getD j 0 ∈ xs:=by simp[hj]
 simpa [h] using this
theorem index_any (g n cap:Nat) (xs:List Int) (x:Int) (hn:xs.length=n) (hm:n≤1000000) (w:World)
 (hg:∀ j,j<n→w.cell? ⟨g,j,none⟩=some (.int .i64 (xs.getD j 0))) :
 Calls Tryz.prog 114 #[.slice (some ⟨g,0,none⟩) n cap,.int .i64 x] w (PlacePost (xs.contains x) w):=by
 have hstop:=contains_stop xs x;have hhit:=contains_hit xs x;rw[hn]at hstop hhit;generalize xs.contains x=b at hstop hhit;have HG:=hD hg;have HS:=hD hstop;have HH:=hD hhit;clear hg hn hstop hhit;go_enter Tryz.func114,Tryz.ntmps114;go_wp2;go_loop [5,8] (fun _ i=>∃ k:Nat,k≤n∧i=.int .i64 (k:Int)∧Hid (∀ j,j<k→¬ (x=xs.getD j 0))) (fun _ i=>n - (intOf i).toNat)
 case atStart=>exact⟨0,nZ _,rfl,hD (fun j hj=>by omega)⟩
 case round =>
  obtain⟨k,hk,rfl,hno⟩:=hrel;by_cases hlt:k<n
  ·have c1:=HG.out k hlt;generalize hy:xs.getD k 0=y at c1;have HY:=hD hy;clear hy;by_cases hxy:x=y
   ·have e1:(x==y)=true:=by simpa using hxy
    have HXY:=hD hxy;clear hxy;go_wp2;go_ret;exact⟨k,by omega,by omega,by rw[HH.out k hlt (by rw[HY.out];exact HXY.out)];simp,rfl,rfl⟩
   ·have e1:(x==y)=false:=by simpa using hxy
    have HXY:=hD hxy;clear hxy;go_wp2;go_round
    case rel =>
     refine⟨k+1,by omega,by go_num,hD (fun j hj=>?_)⟩;by_cases hjk:j=k
     ·subst hjk;rw[HY.out];exact HXY.out
     ·exact hno.out j (by omega)
    case measure=>simp[intOf];omega
  ·go_wp2;go_ret;exact⟨-1,by omega,by omega,by rw[HS.out (fun j hj=>hno.out j (by omega))];decide,rfl,rfl⟩
theorem contains_any (g n cap:Nat) (xs:List Int) (x:Int) (hn:xs.length=n) (hm:n≤1000000) (w:World)
 (hg:∀ j,j<n→w.cell? ⟨g,j,none⟩=some (.int .i64 (xs.getD j 0))) :
 Calls Tryz.prog 83 #[.slice (some ⟨g,0,none⟩) n cap,.int .i64 x] w fun e w'=>e=.returned (.bool (xs.contains x))∧w=w':=by
 have C:=index_any g n cap xs x hn hm w hg;generalize xs.contains x=b at C;have HC:=hD C;clear C hg hn;go_enter Tryz.func83,Tryz.ntmps83;go_wp2_with fail
 go_at_call 114;refine HC.out.mono ?_;rintro e w' ⟨r,r1,r2,hr,rfl,rfl⟩;have HR:=hD hr;clear hr;go_wp2;go_ret;exact⟨WA HR.out,rfl⟩
end
section
open Go.RowKit
def AccPost (p:Int×Int×Bool×Bool) (w:World) (e:Ending) (w':World):Prop :=
 e=.returned (.tuple #[.int .i64 p.1,.int .i64 p.2.1,.bool p.2.2.1,.bool p.2.2.2])∧Below w.heap.size w w'
theorem access_out (op:Int) (h:op<40∨62<op) (w:World):Calls Tryz.prog 82 #[.int .i64 op] w (AccPost (0,0,false,false) w):=by
 rcases h with h|h
 all_goals
  go_enter Tryz.func82,Tryz.ntmps82;go_wp2;refine bodyPost_ret (v:=.tuple #[.int .i64 0,.int .i64 0,.bool false,.bool false]) (by simp[results,Tryz.results82,go_sem]) rfl ⟨rfl,bR _ _⟩
def tableB:Array Value:=((List.replicate 40 (0,0,false,false)++accL).flatMap fun (p:Int×Int×Bool×Bool)=>[Value.int .i64 p.1,Value.int .i64 p.2.1,Value.bool p.2.2.1]).toArray
theorem table_at (w:World):∀ i:Fin 23,(Instr.index 145 (.agg tableB) (.int .i64 (40+(i.val:Int)))).run Tryz.prog w=.ok (.agg #[.int .i64 (accL.getD i.val (0,0,false,false)).1,.int .i64 (accL.getD i.val (0,0,false,false)).2.1,.bool (accL.getD i.val (0,0,false,false)).2.2.1]) w
 | ⟨0,_⟩=>by kernel_rfl
 | ⟨1,_⟩=>by kernel_rfl
 | ⟨2,_⟩=>by kernel_rfl
 | ⟨3,_⟩=>by kernel_rfl
 | ⟨4,_⟩=>by kernel_rfl
 | ⟨5,_⟩=>by kernel_rfl
 | ⟨6,_⟩=>by kernel_rfl
 | ⟨7,_⟩=>by kernel_rfl
 | ⟨8,_⟩=>by kernel_rfl
 | ⟨9,_⟩=>by kernel_rfl
 | ⟨10,_⟩=>by kernel_rfl
 | ⟨11,_⟩=>by kernel_rfl
 | ⟨12,_⟩=>by kernel_rfl
 | ⟨13,_⟩=>by kernel_rfl
 | ⟨14,_⟩=>by kernel_rfl
 | ⟨15,_⟩=>by kernel_rfl
 | ⟨16,_⟩=>by kernel_rfl
 | ⟨17,_⟩=>by kernel_rfl
 | ⟨18,_⟩=>by kernel_rfl
 | ⟨19,_⟩=>by kernel_rfl
 | ⟨20,_⟩=>by kernel_rfl
 | ⟨21,_⟩=>by kernel_rfl
 | ⟨22,_⟩=>by kernel_rfl
 | ⟨_+23,h⟩=>absurd h (by omega)
theorem triple_built (a b:Int) (c:Bool) (w:World):(Instr.build 144 #[(0,.int .i64 a),(1,.int .i64 b),(2,.bool c)]).run Tryz.prog w=.ok (.agg #[.int .i64 a,.int .i64 b,.bool c]) w:=run_build w _ _ _ (by kernel_rfl)
end
end Go.Proofs.YtgmgcadlkebokaaGreatDoor
