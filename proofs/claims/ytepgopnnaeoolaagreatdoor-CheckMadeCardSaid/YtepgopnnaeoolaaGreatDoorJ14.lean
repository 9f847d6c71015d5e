/- A part of the proof. -/
import Derived.Test.YtepgopnnaeoolaaGreatDoorJ8
namespace Go.Proofs.YtepgopnnaeoolaaGreatDoor
section
open Go.RowKit
set_option maxRecDepth 100000
def RowNew (w w':World) (v:Value) (xs:List Int):Prop:=UB w' v xs∧∀ g,v.ownBlock=some g→w.heap.size≤g
theorem RowNew.below {w w1 w':World} {v:Value} {xs:List Int} (h:RowNew w w1 v xs) (hb:Below w1.heap.size w1 w'):UB w' v xs:=UB.below h.1 hb
theorem RowNew.slice {w w':World} {v:Value} {xs:List Int} (h:RowNew w w' v xs):∃ (ao:Option Addr) (n c:Nat),v=.slice ao n c:=UB.slice h.1
def Wz (op:Int) (w:World) (e:Ending) (w':World):Prop :=
 ∃ p q:Value,e=.returned (.tuple #[p,q,.bool (WI op)])∧RowNew w w' p (Vy op)∧RowNew w w' q (Vg op)∧Below w.heap.size w w'
theorem rnum_end (op:Int) (n:Nat) (hn:0<n) (hm:n≤2) (a b:Int) (w:World) (h:WI op=true) (hs:Vr op=(n,a,b)) :
 Wz op w (.returned (.tuple #[.slice (some ⟨w.heap.size,0,none⟩) n n,.slice (some ⟨w.heap.size+1,0,none⟩) 1 1,.bool true]))
  ((w.alloc (.cells ((List.replicate n a).map (Value.int .i64)).toArray 3)).alloc (.cells #[.int .i64 b] 3)):=by
 have h1:Vy op=List.replicate n a:=by unfold Vy;rw[h,hs];rfl
 have h2:Vg op=[b]:=by unfold Vg;rw[h,hs];rfl
 refine⟨_,_,by rw[h],?_,?_,((bR _ _).alloc (nR _) _).alloc (by simp) _⟩
 ·rw[h1];refine⟨.inr ⟨w.heap.size,n,by simp,by simp;omega,by simpa using hn,by simp;omega,fun j hj=>?_⟩,fun g hg=>by obtain rfl:=Option.some.inj hg;exact nR _⟩;rw[World.cell?_alloc_lt _ _ _ (by simp)];exact new_cells w 3 (List.replicate n a) j hj
 ·rw[h2];refine⟨.inr ⟨w.heap.size+1,1,rfl,by simp,by simp,by simp,fun j hj=>?_⟩,fun g hg=>by obtain rfl:=Option.some.inj hg;exact Nat.le_succ _⟩;have nc:=new_cells (w.alloc (.cells ((List.replicate n a).map (Value.int .i64)).toArray 3)) 3 [b] j hj;rw[show(w.alloc (.cells ((List.replicate n a).map (Value.int .i64)).toArray 3)).heap.size=w.heap.size+1 by simp]at nc;exact nc
theorem WJ (op a b:Int) (w:World) (h:WI op=true) (hs:Vr op=(1,a,b)) :
 Wz op w (.returned (.tuple #[.slice (some ⟨w.heap.size,0,none⟩) 1 1,.slice (some ⟨w.heap.size+1,0,none⟩) 1 1,.bool true]))
  ((w.alloc (.cells #[.int .i64 a] 3)).alloc (.cells #[.int .i64 b] 3)):=rnum_end op 1 (by omega) (by omega) a b w h hs
theorem rnum_end2 (op a b:Int) (w:World) (h:WI op=true) (hs:Vr op=(2,a,b)) :
 Wz op w (.returned (.tuple #[.slice (some ⟨w.heap.size,0,none⟩) 2 2,.slice (some ⟨w.heap.size+1,0,none⟩) 1 1,.bool true]))
  ((w.alloc (.cells #[.int .i64 a,.int .i64 a] 3)).alloc (.cells #[.int .i64 b] 3)):=rnum_end op 2 (by omega) (by omega) a b w h hs
theorem rnum_no (op:Int) (h:WI op=false) (w:World):Calls Tryz.prog 46 #[.int .i64 op] w (Wz op w):=by
 have h1:Vy op=[]:=by unfold Vy;rw[h];rfl
 have h2:Vg op=[]:=by unfold Vg;rw[h];rfl
 have e:isB op=false∧isF op=false:=by simpa [WI] using h
 have C:=fun w=>WZ op w;have D:=fun w=>VD op w;rw[e.1]at C;rw[e.2]at D;have HC:=hD C;have HD:=hD D;have HH:=hD h;have H1:=hD h1;have H2:=hD h2;clear C D h h1 h2 e;go_enter Tryz.func46,Tryz.ntmps46;go_wp2_with (first|(go_at_call 72;refine(HC.out _).mono ?_;rintro e w' ⟨rfl,rfl⟩)|(go_at_call 73;refine(HD.out _).mono ?_;rintro e w' ⟨rfl,rfl⟩))
 go_ret3
 exact⟨_,_,by rw[HH.out];rfl,⟨.inl ⟨rfl,H1.out⟩,fun g h=>by cases h⟩,⟨.inl ⟨rfl,H2.out⟩,fun g h=>by cases h⟩,bR _ _⟩
end
section
open Go.RowKit
set_option maxHeartbeats 1000000
set_option maxRecDepth 100000
theorem Zw {P:Prop}(h:P:=by
 have p69:(op==69)=false:=by simp;omega
 have p80:(op==80)=false:=by simp;omega
 have p167:(op==167)=false:=by simp;omega
 have p170:(op==170)=false:=by simp;omega
 have p171:(op==171)=false:=by simp;omega
 have p172:(op==172)=false:=by simp;omega
 have p173:(op==173)=false:=by simp;omega
 have p176:(op==176)=false:=by simp;omega
 have p177:(op==177)=false:=by simp;omega
 have p183:(op==183)=false:=by simp;omega
 have p184:(op==184)=false:=by simp;omega
 have p189:(op==189)=false:=by simp;omega
 have p192:(op==192)=false:=by simp;omega
 have p193:(op==193)=false:=by simp;omega
 have p64514:(op==64514)=false:=by simp;omega
 have p64515:(op==64515)=false:=by simp;omega
 have p64518:(op==64518)=false:=by simp;omega
 have p64519:(op==64519)=false:=by simp;omega
 have HC:=hD C;have HN:=hD hn;have HS:=hD hs;clear C hn hs;go_enter Tryz.func46,Tryz.ntmps46;go_wp2_with (go_at_call 72;refine(HC.out _).mono ?_;rintro e w' ⟨rfl,rfl⟩)
 go_ret3
 exact rnum_end2 op 127 127 w HN.out HS.out):P:=h
theorem ZH {P:Prop}(h:P:=by
 unfold Vr
 repeat (first|rw[if_pos (by omega)]|rw[if_neg (by omega)])):P:=h
theorem rnum_69 (w:World):Calls Tryz.prog 46 #[.int .i64 69] w (Wz 69 w):=by
 have hn:WI 69=true:=by decide +kernel
 have hs:Vr 69=(1,127,127):=by decide +kernel
 have C:=fun w=>WZ 69 w;rw[show isB 69=true by decide +kernel]at C;have HC:=hD C;have HN:=hD hn;have HS:=hD hs;clear C hn hs;go_enter Tryz.func46,Tryz.ntmps46;go_wp2_with (go_at_call 72;refine(HC.out _).mono ?_;rintro e w' ⟨rfl,rfl⟩)
 go_ret3
 exact WJ 69 127 127 w HN.out HS.out
theorem rnum_80 (w:World):Calls Tryz.prog 46 #[.int .i64 80] w (Wz 80 w):=by
 have hn:WI 80=true:=by decide +kernel
 have hs:Vr 80=(1,126,127):=by decide +kernel
 have C:=fun w=>WZ 80 w;rw[show isB 80=true by decide +kernel]at C;have HC:=hD C;have HN:=hD hn;have HS:=hD hs;clear C hn hs;go_enter Tryz.func46,Tryz.ntmps46;go_wp2_with (go_at_call 72;refine(HC.out _).mono ?_;rintro e w' ⟨rfl,rfl⟩)
 go_ret3
 exact WJ 80 126 127 w HN.out HS.out
theorem rnum_97 (op:Int) (h0:97≤op) (h1:op≤102) (w:World):Calls Tryz.prog 46 #[.int .i64 op] w (Wz op w):=by
 have e1:isB op=false:=decide_eq_false (by omega);have e2:isF op=true:=decide_eq_true (by omega);have hn:WI op=true:=by unfold WI;rw[e1,e2];rfl
 have hs:Vr op=(2,124,127):=by
  exact ZH
 have C:=fun w=>VD op w;rw[e2]at C;have D:=fun w=>WZ op w;rw[e1]at D;clear e1 e2;have d79:decide (op≤79)=false:=by simp;omega
 have d90:decide (op≤90)=false:=by simp;omega
 have p69:(op==69)=false:=by simp;omega
 have p80:(op==80)=false:=by simp;omega
 have p167:(op==167)=false:=by simp;omega
 have p170:(op==170)=false:=by simp;omega
 have p171:(op==171)=false:=by simp;omega
 have p172:(op==172)=false:=by simp;omega
 have p173:(op==173)=false:=by simp;omega
 have p176:(op==176)=false:=by simp;omega
 have p177:(op==177)=false:=by simp;omega
 have p183:(op==183)=false:=by simp;omega
 have p184:(op==184)=false:=by simp;omega
 have p189:(op==189)=false:=by simp;omega
 have p192:(op==192)=false:=by simp;omega
 have p193:(op==193)=false:=by simp;omega
 have p64514:(op==64514)=false:=by simp;omega
 have p64515:(op==64515)=false:=by simp;omega
 have p64518:(op==64518)=false:=by simp;omega
 have p64519:(op==64519)=false:=by simp;omega
 have HC:=hD C;have HN:=hD hn;have HS:=hD hs;clear C hn hs;have HD:=hD D;clear D;go_enter Tryz.func46,Tryz.ntmps46;go_wp2_with (first|(go_at_call 72;refine(HD.out _).mono ?_;rintro e w' ⟨rfl,rfl⟩)|(go_at_call 73;refine(HC.out _).mono ?_;rintro e w' ⟨rfl,rfl⟩))
 go_ret3
 exact rnum_end2 op 124 127 w HN.out HS.out
theorem rnum_106 (op:Int) (h0:106≤op) (h1:op≤120) (w:World):Calls Tryz.prog 46 #[.int .i64 op] w (Wz op w):=by
 have e1:isB op=true:=decide_eq_true (by omega);have e2:isF op=false:=decide_eq_false (by omega);have hn:WI op=true:=by unfold WI;rw[e1,e2];rfl
 have hs:Vr op=(2,127,127):=by
  exact ZH
 have C:=fun w=>WZ op w;rw[e1]at C;clear e1 e2;have d79:decide (op≤79)=false:=by simp;omega
 have d90:decide (op≤90)=false:=by simp;omega
 have d102:decide (op≤102)=false:=by simp;omega
 have d105:decide (op≤105)=false:=by simp;omega
 exact Zw
theorem rnum_124 (op:Int) (h0:124≤op) (h1:op≤138) (w:World):Calls Tryz.prog 46 #[.int .i64 op] w (Wz op w):=by
 have e1:isB op=true:=decide_eq_true (by omega);have e2:isF op=false:=decide_eq_false (by omega);have hn:WI op=true:=by unfold WI;rw[e1,e2];rfl
 have hs:Vr op=(2,126,126):=by
  exact ZH
 have C:=fun w=>WZ op w;rw[e1]at C;clear e1 e2;have d79:decide (op≤79)=false:=by simp;omega
 have d90:decide (op≤90)=false:=by simp;omega
 have d102:decide (op≤102)=false:=by simp;omega
 have d105:decide (op≤105)=false:=by simp;omega
 have d120:decide (op≤120)=false:=by simp;omega
 have d123:decide (op≤123)=false:=by simp;omega
 have p69:(op==69)=false:=by simp;omega
 have p80:(op==80)=false:=by simp;omega
 have p167:(op==167)=false:=by simp;omega
 have p170:(op==170)=false:=by simp;omega
 have p171:(op==171)=false:=by simp;omega
 have p172:(op==172)=false:=by simp;omega
 have p173:(op==173)=false:=by simp;omega
 have p176:(op==176)=false:=by simp;omega
 have p177:(op==177)=false:=by simp;omega
 have p183:(op==183)=false:=by simp;omega
 have p184:(op==184)=false:=by simp;omega
 have p189:(op==189)=false:=by simp;omega
 have p192:(op==192)=false:=by simp;omega
 have p193:(op==193)=false:=by simp;omega
 have p64514:(op==64514)=false:=by simp;omega
 have p64515:(op==64515)=false:=by simp;omega
 have p64518:(op==64518)=false:=by simp;omega
 have p64519:(op==64519)=false:=by simp;omega
 have HC:=hD C;have HN:=hD hn;have HS:=hD hs;clear C hn hs;go_enter Tryz.func46,Tryz.ntmps46;go_wp2_with (go_at_call 72;refine(HC.out _).mono ?_;rintro e w' ⟨rfl,rfl⟩)
 go_ret3
 exact rnum_end2 op 126 126 w HN.out HS.out
theorem rnum_160 (op:Int) (h0:160≤op) (h1:op≤166) (w:World):Calls Tryz.prog 46 #[.int .i64 op] w (Wz op w):=by
 have e1:isB op=false:=decide_eq_false (by omega);have e2:isF op=true:=decide_eq_true (by omega);have hn:WI op=true:=by unfold WI;rw[e1,e2];rfl
 have hs:Vr op=(2,124,124):=by
  exact ZH
 have C:=fun w=>VD op w;rw[e2]at C;have D:=fun w=>WZ op w;rw[e1]at D;clear e1 e2;have d79:decide (op≤79)=false:=by simp;omega
 have d90:decide (op≤90)=false:=by simp;omega
 have d102:decide (op≤102)=false:=by simp;omega
 have d105:decide (op≤105)=false:=by simp;omega
 have d120:decide (op≤120)=false:=by simp;omega
 have d123:decide (op≤123)=false:=by simp;omega
 have d138:decide (op≤138)=false:=by simp;omega
 have d159:decide (op≤159)=false:=by simp;omega
 have p69:(op==69)=false:=by simp;omega
 have p80:(op==80)=false:=by simp;omega
 have p167:(op==167)=false:=by simp;omega
 have p170:(op==170)=false:=by simp;omega
 have p171:(op==171)=false:=by simp;omega
 have p172:(op==172)=false:=by simp;omega
 have p173:(op==173)=false:=by simp;omega
 have p176:(op==176)=false:=by simp;omega
 have p177:(op==177)=false:=by simp;omega
 have p183:(op==183)=false:=by simp;omega
 have p184:(op==184)=false:=by simp;omega
 have p189:(op==189)=false:=by simp;omega
 have p192:(op==192)=false:=by simp;omega
 have p193:(op==193)=false:=by simp;omega
 have p64514:(op==64514)=false:=by simp;omega
 have p64515:(op==64515)=false:=by simp;omega
 have p64518:(op==64518)=false:=by simp;omega
 have p64519:(op==64519)=false:=by simp;omega
 have HC:=hD C;have HN:=hD hn;have HS:=hD hs;clear C hn hs;have HD:=hD D;clear D;go_enter Tryz.func46,Tryz.ntmps46;go_wp2_with (first|(go_at_call 72;refine(HD.out _).mono ?_;rintro e w' ⟨rfl,rfl⟩)|(go_at_call 73;refine(HC.out _).mono ?_;rintro e w' ⟨rfl,rfl⟩))
 go_ret3
 exact rnum_end2 op 124 124 w HN.out HS.out
theorem rnum_170 (w:World):Calls Tryz.prog 46 #[.int .i64 170] w (Wz 170 w):=by
 have hn:WI 170=true:=by decide +kernel
 have hs:Vr 170=(1,124,127):=by decide +kernel
 have C:=fun w=>VD 170 w;rw[show isF 170=true by decide +kernel]at C;have D:=fun w=>WZ 170 w;rw[show isB 170=false by decide +kernel]at D;have HC:=hD C;have HN:=hD hn;have HS:=hD hs;clear C hn hs;have HD:=hD D;clear D;go_enter Tryz.func46,Tryz.ntmps46;go_wp2_with (first|(go_at_call 72;refine(HD.out _).mono ?_;rintro e w' ⟨rfl,rfl⟩)|(go_at_call 73;refine(HC.out _).mono ?_;rintro e w' ⟨rfl,rfl⟩))
 go_ret3
 exact WJ 170 124 127 w HN.out HS.out
theorem rnum_172 (w:World):Calls Tryz.prog 46 #[.int .i64 172] w (Wz 172 w):=by
 have hn:WI 172=true:=by decide +kernel
 have hs:Vr 172=(1,127,126):=by decide +kernel
 have C:=fun w=>WZ 172 w;rw[show isB 172=true by decide +kernel]at C;have HC:=hD C;have HN:=hD hn;have HS:=hD hs;clear C hn hs;go_enter Tryz.func46,Tryz.ntmps46;go_wp2_with (go_at_call 72;refine(HC.out _).mono ?_;rintro e w' ⟨rfl,rfl⟩)
 go_ret3
 exact WJ 172 127 126 w HN.out HS.out
theorem rnum_176 (w:World):Calls Tryz.prog 46 #[.int .i64 176] w (Wz 176 w):=by
 have hn:WI 176=true:=by decide +kernel
 have hs:Vr 176=(1,124,126):=by decide +kernel
 have C:=fun w=>VD 176 w;rw[show isF 176=true by decide +kernel]at C;have D:=fun w=>WZ 176 w;rw[show isB 176=false by decide +kernel]at D;have HC:=hD C;have HN:=hD hn;have HS:=hD hs;clear C hn hs;have HD:=hD D;clear D;go_enter Tryz.func46,Tryz.ntmps46;go_wp2_with (first|(go_at_call 72;refine(HD.out _).mono ?_;rintro e w' ⟨rfl,rfl⟩)|(go_at_call 73;refine(HC.out _).mono ?_;rintro e w' ⟨rfl,rfl⟩))
 go_ret3
 exact WJ 176 124 126 w HN.out HS.out
theorem rnum_183 (w:World):Calls Tryz.prog 46 #[.int .i64 183] w (Wz 183 w):=by
 have hn:WI 183=true:=by decide +kernel
 have hs:Vr 183=(1,127,124):=by decide +kernel
 have C:=fun w=>VD 183 w;rw[show isF 183=true by decide +kernel]at C;have D:=fun w=>WZ 183 w;rw[show isB 183=false by decide +kernel]at D;have HC:=hD C;have HN:=hD hn;have HS:=hD hs;clear C hn hs;have HD:=hD D;clear D;go_enter Tryz.func46,Tryz.ntmps46;go_wp2_with (first|(go_at_call 72;refine(HD.out _).mono ?_;rintro e w' ⟨rfl,rfl⟩)|(go_at_call 73;refine(HC.out _).mono ?_;rintro e w' ⟨rfl,rfl⟩))
 go_ret3
 exact WJ 183 127 124 w HN.out HS.out
theorem rnum_185 (op:Int) (h0:185≤op) (h1:op≤186) (w:World):Calls Tryz.prog 46 #[.int .i64 op] w (Wz op w):=by
 have e1:isB op=false:=decide_eq_false (by omega);have e2:isF op=true:=decide_eq_true (by omega);have hn:WI op=true:=by unfold WI;rw[e1,e2];rfl
 have hs:Vr op=(1,126,124):=by
  exact ZH
 have C:=fun w=>VD op w;rw[e2]at C;have D:=fun w=>WZ op w;rw[e1]at D;clear e1 e2;have d79:decide (op≤79)=false:=by simp;omega
 have d90:decide (op≤90)=false:=by simp;omega
 have d102:decide (op≤102)=false:=by simp;omega
 have d105:decide (op≤105)=false:=by simp;omega
 have d120:decide (op≤120)=false:=by simp;omega
 have d123:decide (op≤123)=false:=by simp;omega
 have d138:decide (op≤138)=false:=by simp;omega
 have d159:decide (op≤159)=false:=by simp;omega
 have d166:decide (op≤166)=false:=by simp;omega
 have p69:(op==69)=false:=by simp;omega
 have p80:(op==80)=false:=by simp;omega
 have p167:(op==167)=false:=by simp;omega
 have p170:(op==170)=false:=by simp;omega
 have p171:(op==171)=false:=by simp;omega
 have p172:(op==172)=false:=by simp;omega
 have p173:(op==173)=false:=by simp;omega
 have p176:(op==176)=false:=by simp;omega
 have p177:(op==177)=false:=by simp;omega
 have p183:(op==183)=false:=by simp;omega
 have p184:(op==184)=false:=by simp;omega
 have p189:(op==189)=false:=by simp;omega
 have p192:(op==192)=false:=by simp;omega
 have p193:(op==193)=false:=by simp;omega
 have p64514:(op==64514)=false:=by simp;omega
 have p64515:(op==64515)=false:=by simp;omega
 have p64518:(op==64518)=false:=by simp;omega
 have p64519:(op==64519)=false:=by simp;omega
 have HC:=hD C;have HN:=hD hn;have HS:=hD hs;clear C hn hs;have HD:=hD D;clear D;go_enter Tryz.func46,Tryz.ntmps46;go_wp2_with (first|(go_at_call 72;refine(HD.out _).mono ?_;rintro e w' ⟨rfl,rfl⟩)|(go_at_call 73;refine(HC.out _).mono ?_;rintro e w' ⟨rfl,rfl⟩))
 go_ret3
 exact WJ op 126 124 w HN.out HS.out
theorem rnum_191 (w:World):Calls Tryz.prog 46 #[.int .i64 191] w (Wz 191 w):=by
 have hn:WI 191=true:=by decide +kernel
 have hs:Vr 191=(1,126,124):=by decide +kernel
 have C:=fun w=>VD 191 w;rw[show isF 191=true by decide +kernel]at C;have D:=fun w=>WZ 191 w;rw[show isB 191=false by decide +kernel]at D;have HC:=hD C;have HN:=hD hn;have HS:=hD hs;clear C hn hs;have HD:=hD D;clear D;go_enter Tryz.func46,Tryz.ntmps46;go_wp2_with (first|(go_at_call 72;refine(HD.out _).mono ?_;rintro e w' ⟨rfl,rfl⟩)|(go_at_call 73;refine(HC.out _).mono ?_;rintro e w' ⟨rfl,rfl⟩))
 go_ret3
 exact WJ 191 126 124 w HN.out HS.out
theorem rnum_193 (w:World):Calls Tryz.prog 46 #[.int .i64 193] w (Wz 193 w):=by
 have hn:WI 193=true:=by decide +kernel
 have hs:Vr 193=(1,127,127):=by decide +kernel
 have C:=fun w=>WZ 193 w;rw[show isB 193=true by decide +kernel]at C;have HC:=hD C;have HN:=hD hn;have HS:=hD hs;clear C hn hs;go_enter Tryz.func46,Tryz.ntmps46;go_wp2_with (go_at_call 72;refine(HC.out _).mono ?_;rintro e w' ⟨rfl,rfl⟩)
 go_ret3
 exact WJ 193 127 127 w HN.out HS.out
theorem rnum_64514 (w:World):Calls Tryz.prog 46 #[.int .i64 64514] w (Wz 64514 w):=by
 have hn:WI 64514=true:=by decide +kernel
 have hs:Vr 64514=(1,124,127):=by decide +kernel
 have C:=fun w=>VD 64514 w;rw[show isF 64514=true by decide +kernel]at C;have D:=fun w=>WZ 64514 w;rw[show isB 64514=false by decide +kernel]at D;have HC:=hD C;have HN:=hD hn;have HS:=hD hs;clear C hn hs;have HD:=hD D;clear D;go_enter Tryz.func46,Tryz.ntmps46;go_wp2_with (first|(go_at_call 72;refine(HD.out _).mono ?_;rintro e w' ⟨rfl,rfl⟩)|(go_at_call 73;refine(HC.out _).mono ?_;rintro e w' ⟨rfl,rfl⟩))
 go_ret3
 exact WJ 64514 124 127 w HN.out HS.out
theorem rnum_64518 (w:World):Calls Tryz.prog 46 #[.int .i64 64518] w (Wz 64518 w):=by
 have hn:WI 64518=true:=by decide +kernel
 have hs:Vr 64518=(1,124,126):=by decide +kernel
 have C:=fun w=>VD 64518 w;rw[show isF 64518=true by decide +kernel]at C;have D:=fun w=>WZ 64518 w;rw[show isB 64518=false by decide +kernel]at D;have HC:=hD C;have HN:=hD hn;have HS:=hD hs;clear C hn hs;have HD:=hD D;clear D;go_enter Tryz.func46,Tryz.ntmps46;go_wp2_with (first|(go_at_call 72;refine(HD.out _).mono ?_;rintro e w' ⟨rfl,rfl⟩)|(go_at_call 73;refine(HC.out _).mono ?_;rintro e w' ⟨rfl,rfl⟩))
 go_ret3
 exact WJ 64518 124 126 w HN.out HS.out
end
section
open Go.RowKit
set_option maxHeartbeats 1000000
set_option maxRecDepth 100000
theorem Zx {P:Prop}(h:P:=by
 have p69:(op==69)=false:=by simp;omega
 have p80:(op==80)=false:=by simp;omega
 have p167:(op==167)=false:=by simp;omega
 have p170:(op==170)=false:=by simp;omega
 have p171:(op==171)=false:=by simp;omega
 have p172:(op==172)=false:=by simp;omega
 have p173:(op==173)=false:=by simp;omega
 have p176:(op==176)=false:=by simp;omega
 have p177:(op==177)=false:=by simp;omega
 have p183:(op==183)=false:=by simp;omega
 have p184:(op==184)=false:=by simp;omega
 have p189:(op==189)=false:=by simp;omega
 have p192:(op==192)=false:=by simp;omega
 have p193:(op==193)=false:=by simp;omega
 have p64514:(op==64514)=false:=by simp;omega
 have p64515:(op==64515)=false:=by simp;omega
 have p64518:(op==64518)=false:=by simp;omega
 have p64519:(op==64519)=false:=by simp;omega
 have HC:=hD C;have HN:=hD hn;have HS:=hD hs;clear C hn hs;go_enter Tryz.func46,Tryz.ntmps46;go_wp2_with (go_at_call 72;refine(HC.out _).mono ?_;rintro e w' ⟨rfl,rfl⟩)
 go_ret3
 exact WJ op 126 126 w HN.out HS.out):P:=h
theorem rnum_70 (op:Int) (h0:70≤op) (h1:op≤79) (w:World):Calls Tryz.prog 46 #[.int .i64 op] w (Wz op w):=by
 have e1:isB op=true:=decide_eq_true (by omega);have e2:isF op=false:=decide_eq_false (by omega);have hn:WI op=true:=by unfold WI;rw[e1,e2];rfl
 have hs:Vr op=(2,127,127):=by
  exact ZH
 have C:=fun w=>WZ op w;rw[e1]at C;clear e1 e2;exact Zw
theorem rnum_81 (op:Int) (h0:81≤op) (h1:op≤90) (w:World):Calls Tryz.prog 46 #[.int .i64 op] w (Wz op w):=by
 have e1:isB op=true:=decide_eq_true (by omega);have e2:isF op=false:=decide_eq_false (by omega);have hn:WI op=true:=by unfold WI;rw[e1,e2];rfl
 have hs:Vr op=(2,126,127):=by
  exact ZH
 have C:=fun w=>WZ op w;rw[e1]at C;clear e1 e2;have d79:decide (op≤79)=false:=by simp;omega
 have p69:(op==69)=false:=by simp;omega
 have p80:(op==80)=false:=by simp;omega
 have p167:(op==167)=false:=by simp;omega
 have p170:(op==170)=false:=by simp;omega
 have p171:(op==171)=false:=by simp;omega
 have p172:(op==172)=false:=by simp;omega
 have p173:(op==173)=false:=by simp;omega
 have p176:(op==176)=false:=by simp;omega
 have p177:(op==177)=false:=by simp;omega
 have p183:(op==183)=false:=by simp;omega
 have p184:(op==184)=false:=by simp;omega
 have p189:(op==189)=false:=by simp;omega
 have p192:(op==192)=false:=by simp;omega
 have p193:(op==193)=false:=by simp;omega
 have p64514:(op==64514)=false:=by simp;omega
 have p64515:(op==64515)=false:=by simp;omega
 have p64518:(op==64518)=false:=by simp;omega
 have p64519:(op==64519)=false:=by simp;omega
 have HC:=hD C;have HN:=hD hn;have HS:=hD hs;clear C hn hs;go_enter Tryz.func46,Tryz.ntmps46;go_wp2_with (go_at_call 72;refine(HC.out _).mono ?_;rintro e w' ⟨rfl,rfl⟩)
 go_ret3
 exact rnum_end2 op 126 127 w HN.out HS.out
theorem rnum_103 (op:Int) (h0:103≤op) (h1:op≤105) (w:World):Calls Tryz.prog 46 #[.int .i64 op] w (Wz op w):=by
 have e1:isB op=true:=decide_eq_true (by omega);have e2:isF op=false:=decide_eq_false (by omega);have hn:WI op=true:=by unfold WI;rw[e1,e2];rfl
 have hs:Vr op=(1,127,127):=by
  exact ZH
 have C:=fun w=>WZ op w;rw[e1]at C;clear e1 e2;have d79:decide (op≤79)=false:=by simp;omega
 have d90:decide (op≤90)=false:=by simp;omega
 have d102:decide (op≤102)=false:=by simp;omega
 have p69:(op==69)=false:=by simp;omega
 have p80:(op==80)=false:=by simp;omega
 have p167:(op==167)=false:=by simp;omega
 have p170:(op==170)=false:=by simp;omega
 have p171:(op==171)=false:=by simp;omega
 have p172:(op==172)=false:=by simp;omega
 have p173:(op==173)=false:=by simp;omega
 have p176:(op==176)=false:=by simp;omega
 have p177:(op==177)=false:=by simp;omega
 have p183:(op==183)=false:=by simp;omega
 have p184:(op==184)=false:=by simp;omega
 have p189:(op==189)=false:=by simp;omega
 have p192:(op==192)=false:=by simp;omega
 have p193:(op==193)=false:=by simp;omega
 have p64514:(op==64514)=false:=by simp;omega
 have p64515:(op==64515)=false:=by simp;omega
 have p64518:(op==64518)=false:=by simp;omega
 have p64519:(op==64519)=false:=by simp;omega
 have HC:=hD C;have HN:=hD hn;have HS:=hD hs;clear C hn hs;go_enter Tryz.func46,Tryz.ntmps46;go_wp2_with (go_at_call 72;refine(HC.out _).mono ?_;rintro e w' ⟨rfl,rfl⟩)
 go_ret3
 exact WJ op 127 127 w HN.out HS.out
theorem rnum_121 (op:Int) (h0:121≤op) (h1:op≤123) (w:World):Calls Tryz.prog 46 #[.int .i64 op] w (Wz op w):=by
 have e1:isB op=true:=decide_eq_true (by omega);have e2:isF op=false:=decide_eq_false (by omega);have hn:WI op=true:=by unfold WI;rw[e1,e2];rfl
 have hs:Vr op=(1,126,126):=by
  exact ZH
 have C:=fun w=>WZ op w;rw[e1]at C;clear e1 e2;have d79:decide (op≤79)=false:=by simp;omega
 have d90:decide (op≤90)=false:=by simp;omega
 have d102:decide (op≤102)=false:=by simp;omega
 have d105:decide (op≤105)=false:=by simp;omega
 have d120:decide (op≤120)=false:=by simp;omega
 exact Zx
theorem rnum_153 (op:Int) (h0:153≤op) (h1:op≤159) (w:World):Calls Tryz.prog 46 #[.int .i64 op] w (Wz op w):=by
 have e1:isB op=false:=decide_eq_false (by omega);have e2:isF op=true:=decide_eq_true (by omega);have hn:WI op=true:=by unfold WI;rw[e1,e2];rfl
 have hs:Vr op=(1,124,124):=by
  exact ZH
 have C:=fun w=>VD op w;rw[e2]at C;have D:=fun w=>WZ op w;rw[e1]at D;clear e1 e2;have d79:decide (op≤79)=false:=by simp;omega
 have d90:decide (op≤90)=false:=by simp;omega
 have d102:decide (op≤102)=false:=by simp;omega
 have d105:decide (op≤105)=false:=by simp;omega
 have d120:decide (op≤120)=false:=by simp;omega
 have d123:decide (op≤123)=false:=by simp;omega
 have d138:decide (op≤138)=false:=by simp;omega
 have p69:(op==69)=false:=by simp;omega
 have p80:(op==80)=false:=by simp;omega
 have p167:(op==167)=false:=by simp;omega
 have p170:(op==170)=false:=by simp;omega
 have p171:(op==171)=false:=by simp;omega
 have p172:(op==172)=false:=by simp;omega
 have p173:(op==173)=false:=by simp;omega
 have p176:(op==176)=false:=by simp;omega
 have p177:(op==177)=false:=by simp;omega
 have p183:(op==183)=false:=by simp;omega
 have p184:(op==184)=false:=by simp;omega
 have p189:(op==189)=false:=by simp;omega
 have p192:(op==192)=false:=by simp;omega
 have p193:(op==193)=false:=by simp;omega
 have p64514:(op==64514)=false:=by simp;omega
 have p64515:(op==64515)=false:=by simp;omega
 have p64518:(op==64518)=false:=by simp;omega
 have p64519:(op==64519)=false:=by simp;omega
 have HC:=hD C;have HN:=hD hn;have HS:=hD hs;clear C hn hs;have HD:=hD D;clear D;go_enter Tryz.func46,Tryz.ntmps46;go_wp2_with (first|(go_at_call 72;refine(HD.out _).mono ?_;rintro e w' ⟨rfl,rfl⟩)|(go_at_call 73;refine(HC.out _).mono ?_;rintro e w' ⟨rfl,rfl⟩))
 go_ret3
 exact WJ op 124 124 w HN.out HS.out
theorem rnum_167 (w:World):Calls Tryz.prog 46 #[.int .i64 167] w (Wz 167 w):=by
 have hn:WI 167=true:=by decide +kernel
 have hs:Vr 167=(1,126,127):=by decide +kernel
 have C:=fun w=>WZ 167 w;rw[show isB 167=true by decide +kernel]at C;have HC:=hD C;have HN:=hD hn;have HS:=hD hs;clear C hn hs;go_enter Tryz.func46,Tryz.ntmps46;go_wp2_with (go_at_call 72;refine(HC.out _).mono ?_;rintro e w' ⟨rfl,rfl⟩)
 go_ret3
 exact WJ 167 126 127 w HN.out HS.out
theorem rnum_171 (w:World):Calls Tryz.prog 46 #[.int .i64 171] w (Wz 171 w):=by
 have hn:WI 171=true:=by decide +kernel
 have hs:Vr 171=(1,124,127):=by decide +kernel
 have C:=fun w=>VD 171 w;rw[show isF 171=true by decide +kernel]at C;have D:=fun w=>WZ 171 w;rw[show isB 171=false by decide +kernel]at D;have HC:=hD C;have HN:=hD hn;have HS:=hD hs;clear C hn hs;have HD:=hD D;clear D;go_enter Tryz.func46,Tryz.ntmps46;go_wp2_with (first|(go_at_call 72;refine(HD.out _).mono ?_;rintro e w' ⟨rfl,rfl⟩)|(go_at_call 73;refine(HC.out _).mono ?_;rintro e w' ⟨rfl,rfl⟩))
 go_ret3
 exact WJ 171 124 127 w HN.out HS.out
theorem rnum_173 (w:World):Calls Tryz.prog 46 #[.int .i64 173] w (Wz 173 w):=by
 have hn:WI 173=true:=by decide +kernel
 have hs:Vr 173=(1,127,126):=by decide +kernel
 have C:=fun w=>WZ 173 w;rw[show isB 173=true by decide +kernel]at C;have HC:=hD C;have HN:=hD hn;have HS:=hD hs;clear C hn hs;go_enter Tryz.func46,Tryz.ntmps46;go_wp2_with (go_at_call 72;refine(HC.out _).mono ?_;rintro e w' ⟨rfl,rfl⟩)
 go_ret3
 exact WJ 173 127 126 w HN.out HS.out
theorem rnum_177 (w:World):Calls Tryz.prog 46 #[.int .i64 177] w (Wz 177 w):=by
 have hn:WI 177=true:=by decide +kernel
 have hs:Vr 177=(1,124,126):=by decide +kernel
 have C:=fun w=>VD 177 w;rw[show isF 177=true by decide +kernel]at C;have D:=fun w=>WZ 177 w;rw[show isB 177=false by decide +kernel]at D;have HC:=hD C;have HN:=hD hn;have HS:=hD hs;clear C hn hs;have HD:=hD D;clear D;go_enter Tryz.func46,Tryz.ntmps46;go_wp2_with (first|(go_at_call 72;refine(HD.out _).mono ?_;rintro e w' ⟨rfl,rfl⟩)|(go_at_call 73;refine(HC.out _).mono ?_;rintro e w' ⟨rfl,rfl⟩))
 go_ret3
 exact WJ 177 124 126 w HN.out HS.out
theorem rnum_184 (w:World):Calls Tryz.prog 46 #[.int .i64 184] w (Wz 184 w):=by
 have hn:WI 184=true:=by decide +kernel
 have hs:Vr 184=(1,127,124):=by decide +kernel
 have C:=fun w=>VD 184 w;rw[show isF 184=true by decide +kernel]at C;have D:=fun w=>WZ 184 w;rw[show isB 184=false by decide +kernel]at D;have HC:=hD C;have HN:=hD hn;have HS:=hD hs;clear C hn hs;have HD:=hD D;clear D;go_enter Tryz.func46,Tryz.ntmps46;go_wp2_with (first|(go_at_call 72;refine(HD.out _).mono ?_;rintro e w' ⟨rfl,rfl⟩)|(go_at_call 73;refine(HC.out _).mono ?_;rintro e w' ⟨rfl,rfl⟩))
 go_ret3
 exact WJ 184 127 124 w HN.out HS.out
theorem rnum_189 (w:World):Calls Tryz.prog 46 #[.int .i64 189] w (Wz 189 w):=by
 have hn:WI 189=true:=by decide +kernel
 have hs:Vr 189=(1,124,126):=by decide +kernel
 have C:=fun w=>VD 189 w;rw[show isF 189=true by decide +kernel]at C;have D:=fun w=>WZ 189 w;rw[show isB 189=false by decide +kernel]at D;have HC:=hD C;have HN:=hD hn;have HS:=hD hs;clear C hn hs;have HD:=hD D;clear D;go_enter Tryz.func46,Tryz.ntmps46;go_wp2_with (first|(go_at_call 72;refine(HD.out _).mono ?_;rintro e w' ⟨rfl,rfl⟩)|(go_at_call 73;refine(HC.out _).mono ?_;rintro e w' ⟨rfl,rfl⟩))
 go_ret3
 exact WJ 189 124 126 w HN.out HS.out
theorem rnum_192 (w:World):Calls Tryz.prog 46 #[.int .i64 192] w (Wz 192 w):=by
 have hn:WI 192=true:=by decide +kernel
 have hs:Vr 192=(1,127,127):=by decide +kernel
 have C:=fun w=>WZ 192 w;rw[show isB 192=true by decide +kernel]at C;have HC:=hD C;have HN:=hD hn;have HS:=hD hs;clear C hn hs;go_enter Tryz.func46,Tryz.ntmps46;go_wp2_with (go_at_call 72;refine(HC.out _).mono ?_;rintro e w' ⟨rfl,rfl⟩)
 go_ret3
 exact WJ 192 127 127 w HN.out HS.out
theorem rnum_194 (op:Int) (h0:194≤op) (h1:op≤196) (w:World):Calls Tryz.prog 46 #[.int .i64 op] w (Wz op w):=by
 have e1:isB op=true:=decide_eq_true (by omega);have e2:isF op=false:=decide_eq_false (by omega);have hn:WI op=true:=by unfold WI;rw[e1,e2];rfl
 have hs:Vr op=(1,126,126):=by
  exact ZH
 have C:=fun w=>WZ op w;rw[e1]at C;clear e1 e2;have d79:decide (op≤79)=false:=by simp;omega
 have d90:decide (op≤90)=false:=by simp;omega
 have d102:decide (op≤102)=false:=by simp;omega
 have d105:decide (op≤105)=false:=by simp;omega
 have d120:decide (op≤120)=false:=by simp;omega
 have d123:decide (op≤123)=false:=by simp;omega
 have d138:decide (op≤138)=false:=by simp;omega
 have d159:decide (op≤159)=false:=by simp;omega
 have d166:decide (op≤166)=false:=by simp;omega
 exact Zx
theorem rnum_64515 (w:World):Calls Tryz.prog 46 #[.int .i64 64515] w (Wz 64515 w):=by
 have hn:WI 64515=true:=by decide +kernel
 have hs:Vr 64515=(1,124,127):=by decide +kernel
 have C:=fun w=>VD 64515 w;rw[show isF 64515=true by decide +kernel]at C;have D:=fun w=>WZ 64515 w;rw[show isB 64515=false by decide +kernel]at D;have HC:=hD C;have HN:=hD hn;have HS:=hD hs;clear C hn hs;have HD:=hD D;clear D;go_enter Tryz.func46,Tryz.ntmps46;go_wp2_with (first|(go_at_call 72;refine(HD.out _).mono ?_;rintro e w' ⟨rfl,rfl⟩)|(go_at_call 73;refine(HC.out _).mono ?_;rintro e w' ⟨rfl,rfl⟩))
 go_ret3
 exact WJ 64515 124 127 w HN.out HS.out
theorem rnum_64519 (w:World):Calls Tryz.prog 46 #[.int .i64 64519] w (Wz 64519 w):=by
 have hn:WI 64519=true:=by decide +kernel
 have hs:Vr 64519=(1,124,126):=by decide +kernel
 have C:=fun w=>VD 64519 w;rw[show isF 64519=true by decide +kernel]at C;have D:=fun w=>WZ 64519 w;rw[show isB 64519=false by decide +kernel]at D;have HC:=hD C;have HN:=hD hn;have HS:=hD hs;clear C hn hs;have HD:=hD D;clear D;go_enter Tryz.func46,Tryz.ntmps46;go_wp2_with (first|(go_at_call 72;refine(HD.out _).mono ?_;rintro e w' ⟨rfl,rfl⟩)|(go_at_call 73;refine(HC.out _).mono ?_;rintro e w' ⟨rfl,rfl⟩))
 go_ret3
 exact WJ 64519 124 126 w HN.out HS.out
end
section
open Go.RowKit
theorem num_ways (op:Int) (h:WI op=true):op=69∨(70≤op∧op≤79)∨op=80∨(81≤op∧op≤90)∨(97≤op∧op≤102)∨(103≤op∧op≤105)∨(106≤op∧op≤120)∨(121≤op∧op≤123)∨(124≤op∧op≤138)∨(153≤op∧op≤159)∨(160≤op∧op≤166)∨op=167∨op=170∨op=171∨op=172∨op=173∨op=176∨op=177∨op=183∨op=184∨(185≤op∧op≤186)∨op=189∨op=191∨op=192∨op=193∨(194≤op∧op≤196)∨op=64514∨op=64515∨op=64518∨op=64519:=by
 have e:isB op=true∨isF op=true:=by simpa [WI] using h
 rcases e with e|e
 ·have:=of_decide_eq_true e;omega
 ·have:=of_decide_eq_true e;omega
theorem rnum_any (op:Int) (w:World):Calls Tryz.prog 46 #[.int .i64 op] w (Wz op w):=by
 by_cases h:WI op=true
 case neg=>exact rnum_no op (by simpa using h) w
 rcases num_ways op h with rfl|⟨h0,h1⟩|rfl|⟨h0,h1⟩|⟨h0,h1⟩|⟨h0,h1⟩|⟨h0,h1⟩|⟨h0,h1⟩|⟨h0,h1⟩|⟨h0,h1⟩|⟨h0,h1⟩|rfl|rfl|rfl|rfl|rfl|rfl|rfl|rfl|rfl|⟨h0,h1⟩|rfl|rfl|rfl|rfl|⟨h0,h1⟩|rfl|rfl|rfl|rfl
 ·exact rnum_69 w
 ·exact rnum_70 op h0 h1 w
 ·exact rnum_80 w
 ·exact rnum_81 op h0 h1 w
 ·exact rnum_97 op h0 h1 w
 ·exact rnum_103 op h0 h1 w
 ·exact rnum_106 op h0 h1 w
 ·exact rnum_121 op h0 h1 w
 ·exact rnum_124 op h0 h1 w
 ·exact rnum_153 op h0 h1 w
 ·exact rnum_160 op h0 h1 w
 ·exact rnum_167 w
 ·exact rnum_170 w
 ·exact rnum_171 w
 ·exact rnum_172 w
 ·exact rnum_173 w
 ·exact rnum_176 w
 ·exact rnum_177 w
 ·exact rnum_183 w
 ·exact rnum_184 w
 ·exact rnum_185 op h0 h1 w
 ·exact rnum_189 w
 ·exact rnum_191 w
 ·exact rnum_192 w
 ·exact rnum_193 w
 ·exact rnum_194 op h0 h1 w
 ·exact rnum_64514 w
 ·exact rnum_64515 w
 ·exact rnum_64518 w
 ·exact rnum_64519 w
end
end Go.Proofs.YtepgopnnaeoolaaGreatDoor
