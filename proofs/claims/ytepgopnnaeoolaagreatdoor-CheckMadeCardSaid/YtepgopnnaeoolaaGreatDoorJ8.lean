/- A part of the proof. -/
import Derived.Great.BuildSlice
import Derived.Test.YtepgopnnaeoolaaGreatDoorJ7
namespace Go.Proofs.YtepgopnnaeoolaaGreatDoor
section
open Go.RowKit
set_option maxHeartbeats 1000000
theorem Zbl {P:Prop}(h:P:=by
 go_enter Tryz.func73,Tryz.ntmps73;go_wp2;go_ret;exact⟨rfl,rfl⟩):P:=h
theorem ii_any (op:Int) (w:World) :
 Calls Tryz.prog 118 #[.int .i64 op] w fun e w'=>e=.returned (.bool (isB op))∧w=w':=by
 by_cases c:69≤op∧op≤90∨103≤op∧op≤138∨op=167∨op=172∨op=173∨192≤op∧op≤196
 ·have E:isB op=true:=decide_eq_true c;rw[E];clear E;rcases c with ⟨h,g⟩|⟨h,g⟩|rfl|rfl|rfl|⟨h,g⟩
  case inr.inr.inr.inr.inr =>
   have e1:(op==167)=false:=by simp;omega
   have e2:(op==172)=false:=by simp;omega
   have e3:(op==173)=false:=by simp;omega
   go_enter Tryz.func118,Tryz.ntmps118;go_wp2;go_ret;exact⟨rfl,rfl⟩
  all_goals
   go_enter Tryz.func118,Tryz.ntmps118;go_wp2;go_ret;exact⟨rfl,rfl⟩
 ·have E:isB op=false:=decide_eq_false c;have c':op<69∨90<op∧op<103∨138<op∧op<167∨167<op∧op<172∨173<op∧op<192∨196<op:=by omega
  have e1:(op==167)=false:=by simp;omega
  have e2:(op==172)=false:=by simp;omega
  have e3:(op==173)=false:=by simp;omega
  rw[E];clear E c;rcases c' with h|⟨h,g⟩|⟨h,g⟩|⟨h,g⟩|⟨h,g⟩|h
  all_goals
   go_enter Tryz.func118,Tryz.ntmps118;go_wp2;go_ret;first|exact⟨rfl,rfl⟩|exact⟨WM (decide_eq_false (by omega)),rfl⟩
theorem ri_yes (op:Int) (c:69≤op∧op≤90∨103≤op∧op≤138∨op=167∨op=172∨op=173) (w:World) :
 Calls Tryz.prog 72 #[.int .i64 op] w fun e w'=>e=.returned (.bool true)∧w=w':=by
 rcases c with ⟨h,g⟩|⟨h,g⟩|rfl|rfl|rfl
 all_goals
  go_enter Tryz.func72,Tryz.ntmps72;go_wp2;go_ret;exact⟨rfl,rfl⟩
theorem ri_top (op:Int) (h:192≤op) (b:Bool) (hb:decide (op≤196)=b) (w:World) :
 Calls Tryz.prog 72 #[.int .i64 op] w fun e w'=>e=.returned (.bool b)∧w=w':=by
 have e1:(op==167)=false:=by simp;omega
 have e2:(op==172)=false:=by simp;omega
 have e3:(op==173)=false:=by simp;omega
 have d2:decide (op≤138)=false:=by simp;omega
 have d3:decide (op≤90)=false:=by simp;omega
 have HB:=hD hb;clear hb;go_enter Tryz.func72,Tryz.ntmps72;go_wp2
 all_goals go_ret
 all_goals exact⟨WM HB.out,rfl⟩
theorem ri_no (op:Int) (c:op<69∨90<op∧op<103∨138<op∧op<167∨167<op∧op<172∨173<op∧op<192) (w:World) :
 Calls Tryz.prog 72 #[.int .i64 op] w fun e w'=>e=.returned (.bool false)∧w=w':=by
 have e1:(op==167)=false:=by simp;omega
 have e2:(op==172)=false:=by simp;omega
 have e3:(op==173)=false:=by simp;omega
 rcases c with h|⟨h,g⟩|⟨h,g⟩|⟨h,g⟩|⟨h,g⟩
 all_goals
  go_enter Tryz.func72,Tryz.ntmps72;go_wp2;go_ret;first|exact⟨rfl,rfl⟩|exact⟨WM (by simp;omega),rfl⟩
theorem WZ (op:Int) (w:World) :
 Calls Tryz.prog 72 #[.int .i64 op] w fun e w'=>e=.returned (.bool (isB op))∧w=w':=by
 by_cases h:192≤op
 ·exact ri_top op h _ (by unfold isB;rw[decide_eq_decide];omega) w
 ·by_cases c:69≤op∧op≤90∨103≤op∧op≤138∨op=167∨op=172∨op=173
  ·rw[show isB op=true from decide_eq_true (by omega)];exact ri_yes op c w
  ·rw[show isB op=false from decide_eq_false (by omega)];exact ri_no op (by omega) w
theorem if_any (op:Int) (w:World) :
 Calls Tryz.prog 119 #[.int .i64 op] w fun e w'=>e=.returned (.bool (isF op))∧w=w':=by
 by_cases c:97≤op∧op≤102∨153≤op∧op≤166∨183≤op∧op≤186∨op=170∨op=171∨op=176∨op=177∨op=189∨op=191∨op=64514∨op=64515∨op=64518∨op=64519
 ·rw[show isF op=true from decide_eq_true (by omega)];rcases c with ⟨h,g⟩|⟨h,g⟩|⟨h,g⟩|rfl|rfl|rfl|rfl|rfl|rfl|rfl|rfl|rfl|rfl
  all_goals
   go_enter Tryz.func119,Tryz.ntmps119;go_wp2;go_ret;exact⟨rfl,rfl⟩
 ·rw[show isF op=false from decide_eq_false (by omega)];have e1:(op==170)=false:=by simp;omega
  have e2:(op==171)=false:=by simp;omega
  have e3:(op==176)=false:=by simp;omega
  have e4:(op==177)=false:=by simp;omega
  have e5:(op==189)=false:=by simp;omega
  have e6:(op==191)=false:=by simp;omega
  have e7:(op==64514)=false:=by simp;omega
  have e8:(op==64515)=false:=by simp;omega
  have e9:(op==64518)=false:=by simp;omega
  have e0:(op==64519)=false:=by simp;omega
  have c':op<97∨102<op∧op<153∨166<op∧op<183∨186<op:=by omega
  clear c;rcases c' with h|⟨h,g⟩|⟨h,g⟩|h
  all_goals
   go_enter Tryz.func119,Tryz.ntmps119;go_wp2;go_ret;exact⟨rfl,rfl⟩
theorem VD (op:Int) (w:World) :
 Calls Tryz.prog 73 #[.int .i64 op] w fun e w'=>e=.returned (.bool (isF op))∧w=w':=by
 by_cases c:97≤op∧op≤102∨153≤op∧op≤166∨op=170∨op=171∨op=176∨op=177∨op=189∨op=191∨op=64514∨op=64515∨op=64518∨op=64519
 ·rw[show isF op=true from decide_eq_true (by omega)];rcases c with ⟨h,g⟩|⟨h,g⟩|rfl|rfl|rfl|rfl|rfl|rfl|rfl|rfl|rfl|rfl
  all_goals
   go_enter Tryz.func73,Tryz.ntmps73;go_wp2;go_ret;exact⟨rfl,rfl⟩
 ·have e1:(op==170)=false:=by simp;omega
  have e2:(op==171)=false:=by simp;omega
  have e3:(op==176)=false:=by simp;omega
  have e4:(op==177)=false:=by simp;omega
  have e5:(op==189)=false:=by simp;omega
  have e6:(op==191)=false:=by simp;omega
  have e7:(op==64514)=false:=by simp;omega
  have e8:(op==64515)=false:=by simp;omega
  have e9:(op==64518)=false:=by simp;omega
  have e0:(op==64519)=false:=by simp;omega
  by_cases c':183≤op∧op≤186
  ·rw[show isF op=true from decide_eq_true (by omega)];obtain⟨h,g⟩:=c';clear c;exact Zbl
  ·rw[show isF op=false from decide_eq_false (by omega)];have c'':op<97∨102<op∧op<153∨166<op∧op<183∨186<op:=by omega
   clear c c';rcases c'' with h|⟨h,g⟩|⟨h,g⟩|h
   ·exact Zbl
   ·have d102:decide (op≤102)=false:=by simp;omega
    exact Zbl
   ·have d102:decide (op≤102)=false:=by simp;omega
    have d166:decide (op≤166)=false:=by simp;omega
    exact Zbl
   ·have d102:decide (op≤102)=false:=by simp;omega
    have d166:decide (op≤166)=false:=by simp;omega
    have d186:decide (op≤186)=false:=by simp;omega
    exact Zbl
theorem V8 (op:Int) (w:World) :
 Calls Tryz.prog 109 #[.int .i64 op] w fun e w'=>e=.returned (.bool (WI op))∧w=w':=by
 cases h:isB op with
 | true =>
  rw[show WI op=true by unfold WI;rw[h];rfl];go_enter Tryz.func109,Tryz.ntmps109;go_wp2_with (go_at_call 118;refine(ii_any _ _).mono ?_;rintro e w' ⟨rfl,rfl⟩)
  go_ret;exact⟨rfl,rfl⟩
 | false =>
  rw[show WI op=isF op by unfold WI;rw[h];rfl];go_enter Tryz.func109,Tryz.ntmps109;go_wp2_with (first|(go_at_call 118;refine(ii_any _ _).mono ?_;rintro e w' ⟨rfl,rfl⟩)|(go_at_call 119;refine(if_any _ _).mono ?_;rintro e w' ⟨rfl,rfl⟩))
  go_ret;exact⟨rfl,rfl⟩
theorem const_ways (op:Int):op=65∨op=66∨op=68∨Uf op=0∧(op==65)=false∧(op==66)=false∧(op==68)=false:=by
 by_cases a:op=65
 ·exact .inl a
 ·by_cases b:op=66
  ·exact .inr (.inl b)
  ·by_cases c:op=68
   ·exact .inr (.inr (.inl c))
   ·refine .inr (.inr (.inr ⟨?_,by simp;omega,by simp;omega,by simp;omega⟩));unfold Uf;rw[if_neg a,if_neg b,if_neg c]
theorem const_any (op:Int) (w:World) :
 Calls Tryz.prog 110 #[.int .i64 op] w fun e w'=>e=.returned (.tuple #[.int .i64 (Uf op),.bool (Uf op != 0)])∧w=w':=by
 rcases const_ways op with rfl|rfl|rfl|⟨h,e1,e2,e3⟩
 case inr.inr.inr =>
  rw[h];go_enter Tryz.func110,Tryz.ntmps110;go_wp2
  go_ret2
  exact⟨rfl,rfl⟩
 all_goals
  go_enter Tryz.func110,Tryz.ntmps110;go_wp2
  go_ret2
  exact⟨rfl,rfl⟩
theorem opens_any (op:Int) (w:World) :
 Calls Tryz.prog 82 #[.int .i64 op] w fun e w'=>e=.returned (.bool (Uj op))∧w=w':=by
 by_cases c:op=2∨op=3∨op=4
 ·rw[show Uj op=true from decide_eq_true (by omega)];rcases c with rfl|rfl|rfl
  all_goals
   go_enter Tryz.func82,Tryz.ntmps82;go_wp2;go_ret;exact⟨rfl,rfl⟩
 ·rw[show Uj op=false from decide_eq_false (by omega)];have e1:(op==2)=false:=by simp;omega
  have e2:(op==3)=false:=by simp;omega
  have e3:(op==4)=false:=by simp;omega
  clear c;go_enter Tryz.func82,Tryz.ntmps82;go_wp2;go_ret;exact⟨rfl,rfl⟩
end
section
open Go.RowKit
theorem wpList_buildSliceN {P:Program} {ops:Array Oper} {rest:List Oper} {o:Oper} {a:Act} {w:World} {Q:Exit→Act→World→Prop} (hg:o.guard=none) (t e:TypeId) (len:Nat) (parts:Array (Nat×Operand)) (ho:o.op=.buildSlice t len parts)
 (cells:Array Value) (z:Value) (n:Nat) (hu:P.underlying t=some (.slice e)) (hi:(P.info? e).map (fun i=>(i.zero,i.size))=some (some z,n)) (hsmall:¬ len * n>2 ^ 24) (hpos:¬ len * n=0)
 (hf:Instr.fill (fun i=>some (i * n,n)) ((Array.range (len * n)).map (z.cells[· % z.cells.size]!)) (parts.map fun (i,x)=>(i,a.eval x)).toList=some cells)
 (h:wpList P ops Q rest (a.put o.dst (.slice (some ⟨w.heap.size,0,none⟩) len len)) (w.alloc (.cells cells e))):wpList P ops Q (o :: rest) a w:=by
 cases hie:P.info? e with
 | none=>rw[hie]at hi;cases hi
 | some ie =>
  rw[hie]at hi;have hz:(ie.zero,ie.size)=(some z,n):=by simpa using hi
  have hz0:ie.zero=some z:=congrArg Prod.fst hz;have hz1:ie.size=n:=congrArg Prod.snd hz;exact wpList_buildSlice hg t e len parts ho cells ie z hu hie hz0 (by rw[hz1];exact hsmall) (by rw[hz1];exact hpos) (by rw[hz1];exact hf) h
def UB (w:World) (v:Value) (xs:List Int):Prop :=
 (v=.slice none 0 0∧xs=[])∨∃ (g cap:Nat),v=.slice (some ⟨g,0,none⟩) xs.length cap∧g<w.heap.size∧0<xs.length∧xs.length≤1000000∧∀ j,j<xs.length→w.cell? ⟨g,j,none⟩=some (.int .i64 (xs.getD j 0))
theorem UB.below {w w':World} {v:Value} {xs:List Int} (h:UB w v xs) (hb:Below w.heap.size w w'):UB w' v xs:=by
 rcases h with h|⟨g,cap,h1,h2,h3,h4,h5⟩
 ·exact .inl h
 ·exact .inr ⟨g,cap,h1,WW h2 hb.size,h3,h4,fun j hj=>(hb.cell (p:=⟨g,j,none⟩) h2).trans (h5 j hj)⟩
theorem UB.slice {w:World} {v:Value} {xs:List Int} (h:UB w v xs):∃ (ao:Option Addr) (n c:Nat),v=.slice ao n c:=by
 rcases h with ⟨h,_⟩|⟨g,cap,h,_⟩
 ·exact⟨none,0,0,h⟩
 ·exact⟨_,_,_,h⟩
theorem new_cells (w:World) (t:TypeId) (xs:List Int) (j:Nat) (h:j<xs.length) :
 (w.alloc (.cells (xs.map (Value.int .i64)).toArray t)).cell? ⟨w.heap.size,j,none⟩=some (.int .i64 (xs.getD j 0)):=by
 rw[wN];simp[h]
def PlacePost (b:Bool) (w:World) (e:Ending) (w':World):Prop:=∃ r:Int,-1≤r∧r≤1000000∧decide (0≤r)=b∧e=.returned (.int .i64 r)∧w=w'
theorem contains_stop (xs:List Int) (x:Int) (h:∀ j,j<xs.length→¬ (x=xs.getD j 0)):xs.contains x=false:=by
 apply Bool.eq_false_iff.mpr
 intro hc;have hm:x ∈ xs:=by simpa using hc
 obtain⟨i,hi,e⟩:=List.getElem_of_mem hm;exact h i hi (by simp[hi,e])
theorem contains_hit (xs:List Int) (x:Int) (j:Nat) (hj:j<xs.length) (h:x=xs.getD j 0):xs.contains x=true:=by
 have:xs.getD j 0 ∈ xs:=by simp[hj]
 simpa [h] using this
theorem index_any (g n cap:Nat) (xs:List Int) (x:Int) (hn:xs.length=n) (hm:n≤1000000) (w:World)
 (hg:∀ j,j<n→w.cell? ⟨g,j,none⟩=some (.int .i64 (xs.getD j 0))) :
 Calls Tryz.prog 120 #[.slice (some ⟨g,0,none⟩) n cap,.int .i64 x] w (PlacePost (xs.contains x) w):=by
 have hstop:=contains_stop xs x;have hhit:=contains_hit xs x;rw[hn]at hstop hhit;generalize xs.contains x=b at hstop hhit;have HG:=hD hg;have HS:=hD hstop;have HH:=hD hhit;clear hg hn hstop hhit;go_enter Tryz.func120,Tryz.ntmps120;go_wp2;go_loop [5,8] (fun _ i=>∃ k:Nat,k≤n∧i=.int .i64 (k:Int)∧Hid (∀ j,j<k→¬ (x=xs.getD j 0))) (fun _ i=>n - (intOf i).toNat)
 case atStart=>exact⟨0,nZ _,rfl,hD (fun j hj=>by omega)⟩
 case round =>
  obtain⟨k,hk,rfl,hno⟩:=hrel;by_cases hlt:k<n
  ·have c1:=HG.out k hlt;generalize hy:xs.getD k 0=y at c1;have HY:=hD hy;clear hy;by_cases hxy:x=y
   ·have e1:(x==y)=true:=by simpa using hxy
    have HXY:=hD hxy;clear hxy;go_wp2;go_ret;exact⟨k,by omega,by omega,by rw[HH.out k hlt (by rw[HY.out];exact HXY.out)];simp,rfl,rfl⟩
   ·have e1:(x==y)=false:=by simpa using hxy
    have HXY:=hD hxy;clear hxy;go_wp2;go_round
    case rel =>
     refine⟨k+1,by omega,by go_num,hD (fun j hj=>?_)⟩;by_cases hjk:j=k
     ·subst hjk;rw[HY.out];exact HXY.out
     ·exact hno.out j (by omega)
    case measure=>simp[intOf];omega
  ·go_wp2;go_ret;exact⟨-1,by omega,by omega,by rw[HS.out (fun j hj=>hno.out j (by omega))];decide,rfl,rfl⟩
theorem contains_any (g n cap:Nat) (xs:List Int) (x:Int) (hn:xs.length=n) (hm:n≤1000000) (w:World)
 (hg:∀ j,j<n→w.cell? ⟨g,j,none⟩=some (.int .i64 (xs.getD j 0))) :
 Calls Tryz.prog 111 #[.slice (some ⟨g,0,none⟩) n cap,.int .i64 x] w fun e w'=>e=.returned (.bool (xs.contains x))∧w=w':=by
 have C:=index_any g n cap xs x hn hm w hg;generalize xs.contains x=b at C;have HC:=hD C;clear C hg hn;go_enter Tryz.func111,Tryz.ntmps111;go_wp2_with fail
 go_at_call 120;refine HC.out.mono ?_;rintro e w' ⟨r,r1,r2,hr,rfl,rfl⟩;have HR:=hD hr;clear hr;go_wp2;go_ret;exact⟨WM HR.out,rfl⟩
end
section
open Go.RowKit
def AccPost (p:Int×Int×Bool×Bool) (w:World) (e:Ending) (w':World):Prop :=
 e=.returned (.tuple #[.int .i64 p.1,.int .i64 p.2.1,.bool p.2.2.1,.bool p.2.2.2])∧Below w.heap.size w w'
theorem access_out (op:Int) (h:op<40∨62<op) (w:World):Calls Tryz.prog 92 #[.int .i64 op] w (AccPost (0,0,false,false) w):=by
 rcases h with h|h
 all_goals
  go_enter Tryz.func92,Tryz.ntmps92;go_wp2;refine bodyPost_ret (v:=.tuple #[.int .i64 0,.int .i64 0,.bool false,.bool false]) (by simp[results,Tryz.results92,go_sem]) rfl ⟨rfl,bR _ _⟩
def tableB:Array Value:=((List.replicate 40 (0,0,false,false)++accL).flatMap fun (p:Int×Int×Bool×Bool)=>[Value.int .i64 p.1,Value.int .i64 p.2.1,Value.bool p.2.2.1]).toArray
theorem table_at (w:World):∀ i:Fin 23,(Instr.index 156 (.agg tableB) (.int .i64 (40+(i.val:Int)))).run Tryz.prog w=.ok (.agg #[.int .i64 (accL.getD i.val (0,0,false,false)).1,.int .i64 (accL.getD i.val (0,0,false,false)).2.1,.bool (accL.getD i.val (0,0,false,false)).2.2.1]) w
 | ⟨0,_⟩=>by kernel_rfl
 | ⟨1,_⟩=>by kernel_rfl
 | ⟨2,_⟩=>by kernel_rfl
 | ⟨3,_⟩=>by kernel_rfl
 | ⟨4,_⟩=>by kernel_rfl
 | ⟨5,_⟩=>by kernel_rfl
 | ⟨6,_⟩=>by kernel_rfl
 | ⟨7,_⟩=>by kernel_rfl
 | ⟨8,_⟩=>by kernel_rfl
 | ⟨9,_⟩=>by kernel_rfl
 | ⟨10,_⟩=>by kernel_rfl
 | ⟨11,_⟩=>by kernel_rfl
 | ⟨12,_⟩=>by kernel_rfl
 | ⟨13,_⟩=>by kernel_rfl
 | ⟨14,_⟩=>by kernel_rfl
 | ⟨15,_⟩=>by kernel_rfl
 | ⟨16,_⟩=>by kernel_rfl
 | ⟨17,_⟩=>by kernel_rfl
 | ⟨18,_⟩=>by kernel_rfl
 | ⟨19,_⟩=>by kernel_rfl
 | ⟨20,_⟩=>by kernel_rfl
 | ⟨21,_⟩=>by kernel_rfl
 | ⟨22,_⟩=>by kernel_rfl
 | ⟨_+23,h⟩=>absurd h (by omega)
theorem triple_built (a b:Int) (c:Bool) (w:World):(Instr.build 155 #[(0,.int .i64 a),(1,.int .i64 b),(2,.bool c)]).run Tryz.prog w=.ok (.agg #[.int .i64 a,.int .i64 b,.bool c]) w:=run_build w _ _ _ (by kernel_rfl)
end
section
open Go.RowKit
set_option maxHeartbeats 1000000
set_option maxRecDepth 100000
theorem access_in (op b k:Int) (s:Bool) (h:40≤op) (g:op≤62) (w:World)
 (hi:∀ w,(Instr.index 156 (.agg tableB) (.int .i64 op)).run Tryz.prog w=.ok (.agg #[.int .i64 b,.int .i64 k,.bool s]) w) :
 Calls Tryz.prog 92 #[.int .i64 op] w (AccPost (b,k,s,decide (0<b)) w):=by
 have ht:=triple_built;go_enter Tryz.func92,Tryz.ntmps92;go_wp2_with (with_reducible refine wpList_buildTo rfl 156 _ rfl (some 34) rfl tableB (by as_aux_lemma=>kernel_rfl) ?_)
 go_quiet (fail)
 go_wp2;refine bodyPost_ret (v:=.tuple #[.int .i64 b,.int .i64 k,.bool s,.bool (decide (0<b))]) (by simp[results,Tryz.results92,go_sem]) rfl ⟨rfl,?_⟩;exact Wj ((bR _ _).alloc (nR _) _) _
theorem access_any (op:Int) (w:World):Calls Tryz.prog 92 #[.int .i64 op] w (AccPost (Ug op) w):=by
 by_cases h:40≤op∧op≤62
 ·have e:Ug op=accL.getD (op - 40).toNat (0,0,false,false):=by unfold Ug;rw[if_pos h]
  have hp:=acc_pos op;have ht:=fun w=>table_at w ⟨(op - 40).toNat,by omega⟩;rw[e]at hp ⊢;simp only[show(40:Int)+((op - 40).toNat:Int)=op by omega]at ht;generalize accL.getD (op - 40).toNat (0,0,false,false)=p at hp ht;obtain⟨b,k,s,d⟩:=p;have hp':d=decide (0<b):=hp;clear hp;subst hp';exact access_in op b k s h.1 h.2 w ht
 ·have e:Ug op=(0,0,false,false):=by unfold Ug;rw[if_neg h]
  rw[e];exact access_out op (by omega) w
theorem raccess_any (op:Int) (w:World) :
 Calls Tryz.prog 74 #[.int .i64 op] w fun e w'=>e=.returned (.tuple #[.int .i64 (Ug op).1,.int .i64 (Ug op).2.1,.bool (Ug op).2.2.1])∧w=w':=by
 by_cases h:40≤op∧op≤62
 ·have c:op=40∨op=41∨op=42∨op=43∨op=44∨op=45∨op=46∨op=47∨op=48∨op=49∨op=50∨op=51∨op=52∨op=53∨op=54∨op=55∨op=56∨op=57∨op=58∨op=59∨op=60∨op=61∨op=62:=by omega
  clear h;rcases c with rfl|rfl|rfl|rfl|rfl|rfl|rfl|rfl|rfl|rfl|rfl|rfl|rfl|rfl|rfl|rfl|rfl|rfl|rfl|rfl|rfl|rfl|rfl
  all_goals
   go_enter Tryz.func74,Tryz.ntmps74;go_wp2
   go_ret3
   exact⟨rfl,rfl⟩
 ·have e:Ug op=(0,0,false,false):=by unfold Ug;rw[if_neg h]
  rw[e];have h':op<40∨62<op:=by omega
  clear h e;rcases h' with h|h
  all_goals
   go_enter Tryz.func74,Tryz.ntmps74;go_wp2
   go_ret3
   exact⟨rfl,rfl⟩
end
section
open Go.RowKit
set_option maxHeartbeats 2000000
set_option maxRecDepth 100000
theorem ZbG {P:Prop}(h:P:=by
 obtain⟨z1,z2,z3,z4⟩:=HZ8.out;refine bodyPost_end (results_none rfl _ _ _) rfl ⟨rfl,_,HG8.out,HS8.out,by omega,by omega,z3.trans f3,z4.trans f4⟩):P:=h
theorem ZbV {P:Prop}(h:P:=by
 go_wp2;refine bodyPost_ret (results_none rfl _ _ _) rfl ⟨rfl,_,H.out,Wv.refl _ _ _,(V3.refl HH.out).le (by omega)⟩):P:=h
theorem lit_at (l:List Int) (r:Nat) (h:r<l.length):(l.map (Value.int .i64)).toArray[r]?=some (.int .i64 (l.getD r 0)):=by simp[h]
theorem getD_mem (l:List Int) (r:Nat) (d:Int) (h:r<l.length):l.getD r d ∈ l:=by
 rw[List.getD_eq_getElem?_getD,List.getElem?_eq_getElem h];exact List.getElem_mem h
theorem lit23 (r:Nat) (hr:r<23):∃ v:Int,#[Value.int .i64 40,.int .i64 41,.int .i64 43,.int .i64 44,.int .i64 45,.int .i64 46,.int .i64 47,.int .i64 48,.int .i64 49,.int .i64 50,.int .i64 51,.int .i64 52,.int .i64 53,.int .i64 54,.int .i64 55,.int .i64 57,.int .i64 58,.int .i64 59,.int .i64 60,.int .i64 61,.int .i64 62,.int .i64 63,.int .i64 64][r]?=some (.int .i64 v)∧plain v∧∀ a n:Int,0≤a→a≤3→0≤n→n≤4294967295→v≠63→v≠64→okB v a 0 n []=true :=
 ⟨_,lit_at [40,41,43,44,45,46,47,48,49,50,51,52,53,54,55,57,58,59,60,61,62,63,64] r hr,plain_of (by
  have hall:∀ v ∈ ([40,41,43,44,45,46,47,48,49,50,51,52,53,54,55,57,58,59,60,61,62,63,64]:List Int),40≤v:=by decide
  have:=hall _ (getD_mem _ r 0 hr);omega),fun a n h1 h2 h3 h4 h5 h6=>by
  have hall:∀ v ∈ ([40,41,43,44,45,46,47,48,49,50,51,52,53,54,55,57,58,59,60,61,62,63,64]:List Int),v≠63→v≠64→VM v=true∧Wp v=(0,3,0,4294967295,0,0):=by decide +kernel
  obtain⟨k1,k2⟩:=hall _ (getD_mem _ r 0 hr) h5 h6;exact ok_i 0 3 0 4294967295 k1 k2 h1 h2 (by omega) (by omega) h3 h4⟩
theorem store_any (op:Int) (w:World):Calls Tryz.prog 75 #[.int .i64 op] w fun e w'=>e=.returned (.bool (decide (54≤op) && decide (op≤62)))∧w'=w:=by
 go_enter Tryz.func75,Tryz.ntmps75;go_wp2
 all_goals go_ret
 all_goals exact⟨WM (by simp;omega),rfl⟩
theorem WD.lit {F:Fx} {w:World} {x:St} (h:WD F w x) (l:List Int) (t:TypeId) (hl:l.length≤1000):Wg (Ud F (w.alloc (.cells (l.map (Value.int .i64)).toArray t)) x) (w.alloc (.cells (l.map (Value.int .i64)).toArray t)) (.slice (some ⟨w.heap.size,0,none⟩) l.length l.length) l :=
 ⟨_,_,rfl,by unfold maxLen;omega,(fun h=>by cases h),fun _=>⟨w.heap.size,0,rfl,⟨by simp,h.new_free (nR _)⟩,fun j hj=>by rw[Nat.zero_add,wN];simp[hj]⟩⟩
theorem memory_any {F:Fx} {w:World} {x:St} (h:WD F w x) (ht:Nat) (hh:ht≤x.s.length) (hm:Vs x 860000) :
 Calls Tryz.prog 49 #[.pointer (some ⟨F.G,0,none⟩),.int .i64 (ht:Int)] w (GPost F w x (.tuple #[]) (fun x'=>V3 x x' ht 20)):=by
 obtain⟨A3,c3,hm3,hl3,hc3⟩:=h.reads.mems.1;have hnm:=h.reads.mems.2;have c0:=h.c0;have HC4:Hid (∀ (wy:World) (y:St),WD F wy y→wy.cell? ⟨F.G,4,none⟩=some (.slice A3 F.nm c3)):=fun wy y hy=>by rw[hy.c4,hm3]
 have c4:=HC4.out _ _ h;have H:=hD h;have HH:=hD hh;clear h hm3 hh hl3 hc3;generalize F.nm=nm at *;go_enter Tryz.func49,Tryz.ntmps49;by_cases h0:nm=0
 ·subst h0;exact ZbV
 ·have hd0:((nm:Int)==0)=false:=by simp;omega
  go_wp2_with fail
  go_region_held3 (fun w'=>w'.cell? ⟨F.G,0,none⟩=some (.pointer (some ⟨F.T,0,none⟩))∧w'.cell? ⟨F.G,4,none⟩=some (.slice A3 nm c3))
   (first|go_keep|exact⟨hg1.c0,HC4.out _ _ hg1⟩)
   ((go_at_call 9;refine(WA H.out.drew.1 nm (by omega) (by omega)).mono ?_;rintro e w1 ⟨r1,hr1,rfl,x1,hg1,hs1,hn1⟩))
  have H1:=hD hg1;have HS1:=hD (H.out.drew.2.trans hs1);have HF1:=hD (hn1.fine (ht:=ht) HH.out);have hm1:=hm.num hn1;have hal:=fun o=>(hg1.alloc o).1.c0;clear hg1 hs1 hn1 c0 c4 H;go_wp2_with fail
  go_at_call 9;refine(WA (x:=x1) (H1.out.alloc _).1 23 (by omega) (by omega)).mono ?_;rintro e w2 ⟨r2,hr2,rfl,x2,hg2,hs2,hn2⟩;obtain⟨v,hv,hpl,hok⟩:=lit23 r2 hr2;have HPL:=hD hpl;have HOK:=hD hok;clear hpl hok;have hcv:=(H1.out.new_cell _ _ hs2 r2).trans hv;have H2:=hD hg2;have HS2:=hD (HS1.out.trans ((H1.out.alloc _).2.trans hs2));have HF2:=hD (HF1.out.trans (hn2.fine (ht:=ht) HF1.out.1));have hm2:=hm1.num hn2;have HACC:=hD (fun w=>raccess_any v w);generalize Ug v=acc at HACC;obtain⟨a1,a2,a3,a4⟩:=acc;clear hg2 hs2 hn2 hv hal H1 HS1 HF1 hm1;go_wp2_with fail
  go_at_call 74;refine(HACC.out _).mono ?_;rintro e w' ⟨rfl,rfl⟩;have c0:=H2.out.c0;by_cases h63:v=63
  ·subst h63;go_wp2_with fail
   go_at_call 14;refine(WU H2.out _ _ _ _ (hm2.le (by omega))).mono ?_;rintro e w3 ⟨rfl,x3,hg3,hs3,hn3⟩;have H3:=hD hg3;have HS3:=hD (HS2.out.trans hs3);have HF3:=hD (HF2.out.trans (hn3.fine (ht:=ht) HF2.out.1));have hm3:=hm2.num hn3;have c0:=H3.out.c0;clear hg3 hs3 H2 HS2 HF2 hm2;have hmk3:=hm3.s;have c12:=H3.out.c12;have c12b:=(H3.out.pushf (.cells #[.int .i64 127] 3)).1;go_wp2_with (at_builtin;refine Wl rfl (.tmp 75) (.tmp 76) 22 3 rfl _ 1 8 Tryz.underlying22 Tryz.infoInt rfl (by decide) (by decide) x3.sv x3.s.length (x3.s.map (Value.int .i64)) (by rfl) (H3.out.so.alloc _) _ 1 [.int .i64 127] (by rfl) (by rfl) (WS w3 _ _ 1 1) (WP [127]) (by omega) ?_;intro v' w' hown hgr hat;obtain⟨e12,f12⟩:=(H3.out.pushf _).2 w' hgr;obtain⟨A',c',rfl⟩:=Wc hown)
   have hgs:=H3.out.pushS _ hgr 127 _ hown hat;clear hgr hown hat e12 f12 c12 c12b;have HGS:=hD hgs;clear hgs;try go_wp2
   refine bodyPost_end (results_none rfl _ _ _) rfl ⟨rfl,_,HGS.out.1,HS3.out.trans HGS.out.2,?_⟩;obtain⟨f1,f2,f3,f4⟩:=HF3.out;exact⟨by show _≤(x3.s++[_]).length;rw[List.length_append];omega,by show(x3.s++[_]).length+x3.c.length≤_;rw[List.length_append];simp only[List.length_singleton];omega,f3,f4⟩
  ·have hd63:(v==63)=false:=by simpa using h63
   by_cases h64:v=64
   ·subst h64;go_wp2_with fail
    go_at_call 9;refine(WA H2.out 3 (by omega) (by omega)).mono ?_;rintro e w3 ⟨r3,hr3,rfl,x3,hg3,hs3,hn3⟩;have H3:=hD hg3;have HS3:=hD (HS2.out.trans hs3);have HF3:=hD (HF2.out.trans (hn3.fine (ht:=ht) HF2.out.1));have hm3:=hm2.num hn3;have c0:=H3.out.c0;clear hg3 hs3 H2 HS2 HF2 hm2;go_wp2_with fail
    go_at_call 14;refine(WU H3.out _ _ _ _ (hm3.le (by omega))).mono ?_;rintro e w4 ⟨rfl,x4,hg4,hs4,hn4⟩;have H4:=hD hg4;have HS4:=hD (HS3.out.trans hs4);have HF4:=hD (HF3.out.trans (hn4.fine (ht:=ht) HF3.out.1));have hm4:=hm3.num hn4;have c0:=H4.out.c0;clear hg4 hs4 H3 HS3 HF3 hm3;go_wp2_with fail
    go_at_call 14;refine(WU H4.out _ _ _ _ (hm4.le (by omega))).mono ?_;rintro e w5 ⟨rfl,x5,hg5,hs5,hn5⟩;have H5:=hD hg5;have HS5:=hD (HS4.out.trans hs5);have HF5:=hD (HF4.out.trans (hn5.fine (ht:=ht) HF4.out.1));have hm5:=hm4.num hn5;have c0:=H5.out.c0;clear hg5 hs5 H4 HS4 HF4 hm4;have hmk5:=hm5.s;have c12:=H5.out.c12;have c12b:=(H5.out.pushf (.cells #[.int .i64 127] 3)).1;go_wp2_with (at_builtin;refine Wl rfl (.tmp 101) (.tmp 102) 22 3 rfl _ 1 8 Tryz.underlying22 Tryz.infoInt rfl (by decide) (by decide) x5.sv x5.s.length (x5.s.map (Value.int .i64)) (by rfl) (H5.out.so.alloc _) _ 1 [.int .i64 127] (by rfl) (by rfl) (WS w5 _ _ 1 1) (WP [127]) (by omega) ?_;intro v' w' hown hgr hat;obtain⟨e12,f12⟩:=(H5.out.pushf _).2 w' hgr;obtain⟨A',c',rfl⟩:=Wc hown)
    have hgs:=H5.out.pushS _ hgr 127 _ hown hat;clear hgr hown hat e12 f12 c12 c12b;have HGS:=hD hgs;clear hgs;try go_wp2
    refine bodyPost_end (results_none rfl _ _ _) rfl ⟨rfl,_,HGS.out.1,HS5.out.trans HGS.out.2,?_⟩;obtain⟨f1,f2,f3,f4⟩:=HF5.out;exact⟨by show _≤(x5.s++[_]).length;rw[List.length_append];omega,by show(x5.s++[_]).length+x5.c.length≤_;rw[List.length_append];simp only[List.length_singleton];omega,f3,f4⟩
   ·have hd64:(v==64)=false:=by simpa using h64
    have HST:=hD (fun w=>store_any v w);generalize (decide (54≤v) && decide (v≤62))=sb at HST;cases sb
    case' true =>
     go_wp2_with fail
     go_at_call 75;refine(HST.out _).mono ?_;rintro e w' ⟨rfl,rfl⟩;go_wp2_with fail
     go_at_call 76;refine(near_any H2.out (hm2.le (by omega))).mono ?_;rintro e w3 ⟨rfl,x3,hg3,hs3,hn3⟩;have hz3:ht+1≤x3.s.length:=by rw[hn3.1];have:=HF2.out.1;omega
     have H3:=hD hg3;have HS3:=hD (HS2.out.trans hs3);have HF3:=hD (HF2.out.trans (hn3.fine (ht:=ht) HF2.out.1));have hm3:=hm2.num hn3;have c0:=H3.out.c0;clear hg3 hs3 H2 HS2 HF2 hm2;go_wp2_with fail
     go_at_call 27;refine(value_any H3.out a2 (hm3.le (by omega))).mono ?_;rintro e w4 ⟨rfl,x4,hg4,hs4,hn4⟩;have hz4:ht+2≤x4.s.length:=by rw[hn4.1];omega
     have H4:=hD hg4;have HS4:=hD (HS3.out.trans hs4);have HF4:=hD (HF3.out.trans (hn4.fine (ht:=ht) HF3.out.1));have hm4:=hm3.num hn4;have c0:=H4.out.c0;clear hg4 hs4 H3 HS3 HF3 hm3;go_wp2_with fail
     go_at_call 9;refine(WA H4.out 20 (by omega) (by omega)).mono ?_;rintro e w5 ⟨r5,hr5,rfl,x5,hg5,hs5,hn5⟩;have hz5:ht+2≤x5.s.length:=by rw[hn5.1];omega
     have H5:=hD hg5;have HS5:=hD (HS4.out.trans hs5);have HF5:=hD (HF4.out.trans (hn5.fine (ht:=ht) HF4.out.1));have hm5:=hm4.num hn5;have c0:=H5.out.c0;clear hg5 hs5 H4 HS4 HF4 hm4;go_wp2_with fail
     go_at_call 14;refine(WU H5.out _ _ _ _ (hm5.le (by omega)) HPL.out (HOK.out _ _ (by omega) (by omega) (by omega) (by omega) h63 h64)).mono ?_;rintro e w6 ⟨rfl,x6,hg6,hs6,hn6⟩;have hz6:ht+2≤x6.s.length:=by rw[hn6.1];omega
     have H6:=hD hg6;have HS6:=hD (HS5.out.trans hs6);have HF6:=hD (HF5.out.trans (hn6.fine (ht:=ht) HF5.out.1));have hm6:=hm5.num hn6;have c0:=H6.out.c0;clear hg6 hs6 H5 HS5 HF5 hm5;have hli:=H6.out.lit [127,a2] 3 (by simp);obtain⟨hg7,hs7⟩:=H6.out.alloc (.cells ([127,a2].map (Value.int .i64)).toArray 3);go_wp2_with fail
     go_at_call 48;refine(swap_any hg7 _ _ [127,a2] [] hli (Wg.nil _ _) (by show 2≤_;omega) (by simp) (hm6.le (by omega))).mono ?_;rintro e w8 ⟨rfl,x8,hg8,hs8,z1,z2,z3,z4⟩;have HS8:=hD (HS6.out.trans (hs7.trans hs8));have HG8:=hD hg8;clear hli hg7 hs7 hg8 hs8 c0;have HZ8:Hid (x8.s.length+2=x6.s.length∧x8.c.length=x6.c.length∧x8.nl=x6.nl∧x8.left=x6.left):=⟨z1,z2,z3,z4⟩;clear z1 z2 z3 z4;go_wp2;obtain⟨f1,f2,f3,f4⟩:=HF6.out;exact ZbG
    case' false =>
     go_wp2_with fail
     go_at_call 75;refine(HST.out _).mono ?_;rintro e w' ⟨rfl,rfl⟩;go_wp2_with fail
     go_at_call 76;refine(near_any H2.out (hm2.le (by omega))).mono ?_;rintro e w3 ⟨rfl,x3,hg3,hs3,hn3⟩;have hz3:ht+1≤x3.s.length:=by rw[hn3.1];have:=HF2.out.1;omega
     have H3:=hD hg3;have HS3:=hD (HS2.out.trans hs3);have HF3:=hD (HF2.out.trans (hn3.fine (ht:=ht) HF2.out.1));have hm3:=hm2.num hn3;have c0:=H3.out.c0;clear hg3 hs3 H2 HS2 HF2 hm2;go_wp2_with fail
     go_at_call 9;refine(WA H3.out 20 (by omega) (by omega)).mono ?_;rintro e w4 ⟨r4,hr4,rfl,x4,hg4,hs4,hn4⟩;have hz4:ht+1≤x4.s.length:=by rw[hn4.1];omega
     have H4:=hD hg4;have HS4:=hD (HS3.out.trans hs4);have HF4:=hD (HF3.out.trans (hn4.fine (ht:=ht) HF3.out.1));have hm4:=hm3.num hn4;have c0:=H4.out.c0;clear hg4 hs4 H3 HS3 HF3 hm3;go_wp2_with fail
     go_at_call 14;refine(WU H4.out _ _ _ _ (hm4.le (by omega)) HPL.out (HOK.out _ _ (by omega) (by omega) (by omega) (by omega) h63 h64)).mono ?_;rintro e w5 ⟨rfl,x5,hg5,hs5,hn5⟩;have hz5:ht+1≤x5.s.length:=by rw[hn5.1];omega
     have H5:=hD hg5;have HS5:=hD (HS4.out.trans hs5);have HF5:=hD (HF4.out.trans (hn5.fine (ht:=ht) HF4.out.1));have hm5:=hm4.num hn5;have c0:=H5.out.c0;clear hg5 hs5 H4 HS4 HF4 hm4;have hli:=H5.out.lit [127] 3 (by simp);obtain⟨hg6,hs6⟩:=H5.out.alloc (.cells ([127].map (Value.int .i64)).toArray 3);have hlj:=hg6.lit [a2] 3 (by simp);rw[show(w5.alloc (.cells ([127].map (Value.int .i64)).toArray 3)).heap.size=w5.heap.size+1 by simp]at hlj;obtain⟨hg7,hs7⟩:=hg6.alloc (.cells ([a2].map (Value.int .i64)).toArray 3);go_wp2_with fail
     go_at_call 48;refine(swap_any hg7 _ _ [127] [a2] (hs7.ints hli) hlj (by show 1≤_;omega) (by simp) (hm5.le (by omega))).mono ?_;rintro e w8 ⟨rfl,x8,hg8,hs8,z1,z2,z3,z4⟩;have HS8:=hD (HS5.out.trans (hs6.trans (hs7.trans hs8)));have HG8:=hD hg8;clear hli hlj hg6 hs6 hg7 hs7 hg8 hs8 c0;have HZ8:Hid (x8.s.length+1=x5.s.length+1∧x8.c.length=x5.c.length∧x8.nl=x5.nl∧x8.left=x5.left):=⟨z1,z2,z3,z4⟩;clear z1 z2 z3 z4;go_wp2;obtain⟨f1,f2,f3,f4⟩:=HF5.out;exact ZbG
end
end Go.Proofs.YtepgopnnaeoolaaGreatDoor
