/- A part of the proof. -/
import Derived.Test.YtmfpnfdinoofpaaGreatDoorProg
import Derived.Test.YtmfpnfdinoofpaaGreatDoorJ1
namespace Go.Proofs.YtmfpnfdinoofpaaGreatDoor
open Go.RowKit
set_option maxHeartbeats 1000000
theorem ZbY {P:Prop}(h:P:=by
 go_enter Tryz.func162,Tryz.ntmps162;go_wp2;go_ret;exact⟨rfl,rfl⟩):P:=h
theorem ii_any (op:Int) (w:World) :
 Calls Tryz.prog 145 #[.int .i64 op] w fun e w'=>e=.returned (.bool (isB op))∧w=w':=by
 by_cases c:69≤op∧op≤90∨103≤op∧op≤138∨op=167∨op=172∨op=173∨192≤op∧op≤196
 ·have E:isB op=true:=decide_eq_true c;rw[E];clear E;rcases c with ⟨h,g⟩|⟨h,g⟩|rfl|rfl|rfl|⟨h,g⟩
  case inr.inr.inr.inr.inr =>
   have e1:(op==167)=false:=by simp;omega
   have e2:(op==172)=false:=by simp;omega
   have e3:(op==173)=false:=by simp;omega
   go_enter Tryz.func145,Tryz.ntmps145;go_wp2;go_ret;exact⟨rfl,rfl⟩
  all_goals
   go_enter Tryz.func145,Tryz.ntmps145;go_wp2;go_ret;exact⟨rfl,rfl⟩
 ·have E:isB op=false:=decide_eq_false c;have c':op<69∨90<op∧op<103∨138<op∧op<167∨167<op∧op<172∨173<op∧op<192∨196<op:=by omega
  have e1:(op==167)=false:=by simp;omega
  have e2:(op==172)=false:=by simp;omega
  have e3:(op==173)=false:=by simp;omega
  rw[E];clear E c;rcases c' with h|⟨h,g⟩|⟨h,g⟩|⟨h,g⟩|⟨h,g⟩|h
  all_goals
   go_enter Tryz.func145,Tryz.ntmps145;go_wp2;go_ret;first|exact⟨rfl,rfl⟩|exact⟨WV (decide_eq_false (by omega)),rfl⟩
theorem ri_yes (op:Int) (c:69≤op∧op≤90∨103≤op∧op≤138∨op=167∨op=172∨op=173) (w:World) :
 Calls Tryz.prog 161 #[.int .i64 op] w fun e w'=>e=.returned (.bool true)∧w=w':=by
 rcases c with ⟨h,g⟩|⟨h,g⟩|rfl|rfl|rfl
 all_goals
  go_enter Tryz.func161,Tryz.ntmps161;go_wp2;go_ret;exact⟨rfl,rfl⟩
theorem ri_top (op:Int) (h:192≤op) (b:Bool) (hb:decide (op≤196)=b) (w:World) :
 Calls Tryz.prog 161 #[.int .i64 op] w fun e w'=>e=.returned (.bool b)∧w=w':=by
 have e1:(op==167)=false:=by simp;omega
 have e2:(op==172)=false:=by simp;omega
 have e3:(op==173)=false:=by simp;omega
 have d2:decide (op≤138)=false:=by simp;omega
 have d3:decide (op≤90)=false:=by simp;omega
 have HB:=hD hb;clear hb;go_enter Tryz.func161,Tryz.ntmps161;go_wp2
 all_goals go_ret
 all_goals exact⟨WV HB.out,rfl⟩
theorem ri_no (op:Int) (c:op<69∨90<op∧op<103∨138<op∧op<167∨167<op∧op<172∨173<op∧op<192) (w:World) :
 Calls Tryz.prog 161 #[.int .i64 op] w fun e w'=>e=.returned (.bool false)∧w=w':=by
 have e1:(op==167)=false:=by simp;omega
 have e2:(op==172)=false:=by simp;omega
 have e3:(op==173)=false:=by simp;omega
 rcases c with h|⟨h,g⟩|⟨h,g⟩|⟨h,g⟩|⟨h,g⟩
 all_goals
  go_enter Tryz.func161,Tryz.ntmps161;go_wp2;go_ret;first|exact⟨rfl,rfl⟩|exact⟨WV (by simp;omega),rfl⟩
theorem Vu (op:Int) (w:World) :
 Calls Tryz.prog 161 #[.int .i64 op] w fun e w'=>e=.returned (.bool (isB op))∧w=w':=by
 by_cases h:192≤op
 ·exact ri_top op h _ (by unfold isB;rw[decide_eq_decide];omega) w
 ·by_cases c:69≤op∧op≤90∨103≤op∧op≤138∨op=167∨op=172∨op=173
  ·rw[show isB op=true from decide_eq_true (by omega)];exact ri_yes op c w
  ·rw[show isB op=false from decide_eq_false (by omega)];exact ri_no op (by omega) w
theorem if_any (op:Int) (w:World) :
 Calls Tryz.prog 180 #[.int .i64 op] w fun e w'=>e=.returned (.bool (isF op))∧w=w':=by
 by_cases c:97≤op∧op≤102∨153≤op∧op≤166∨183≤op∧op≤186∨op=170∨op=171∨op=176∨op=177∨op=189∨op=191∨op=64514∨op=64515∨op=64518∨op=64519
 ·rw[show isF op=true from decide_eq_true (by omega)];rcases c with ⟨h,g⟩|⟨h,g⟩|⟨h,g⟩|rfl|rfl|rfl|rfl|rfl|rfl|rfl|rfl|rfl|rfl
  all_goals
   go_enter Tryz.func180,Tryz.ntmps180;go_wp2;go_ret;exact⟨rfl,rfl⟩
 ·rw[show isF op=false from decide_eq_false (by omega)];have e1:(op==170)=false:=by simp;omega
  have e2:(op==171)=false:=by simp;omega
  have e3:(op==176)=false:=by simp;omega
  have e4:(op==177)=false:=by simp;omega
  have e5:(op==189)=false:=by simp;omega
  have e6:(op==191)=false:=by simp;omega
  have e7:(op==64514)=false:=by simp;omega
  have e8:(op==64515)=false:=by simp;omega
  have e9:(op==64518)=false:=by simp;omega
  have e0:(op==64519)=false:=by simp;omega
  have c':op<97∨102<op∧op<153∨166<op∧op<183∨186<op:=by omega
  clear c;rcases c' with h|⟨h,g⟩|⟨h,g⟩|h
  all_goals
   go_enter Tryz.func180,Tryz.ntmps180;go_wp2;go_ret;exact⟨rfl,rfl⟩
theorem V5 (op:Int) (w:World) :
 Calls Tryz.prog 162 #[.int .i64 op] w fun e w'=>e=.returned (.bool (isF op))∧w=w':=by
 by_cases c:97≤op∧op≤102∨153≤op∧op≤166∨op=170∨op=171∨op=176∨op=177∨op=189∨op=191∨op=64514∨op=64515∨op=64518∨op=64519
 ·rw[show isF op=true from decide_eq_true (by omega)];rcases c with ⟨h,g⟩|⟨h,g⟩|rfl|rfl|rfl|rfl|rfl|rfl|rfl|rfl|rfl|rfl
  all_goals
   go_enter Tryz.func162,Tryz.ntmps162;go_wp2;go_ret;exact⟨rfl,rfl⟩
 ·have e1:(op==170)=false:=by simp;omega
  have e2:(op==171)=false:=by simp;omega
  have e3:(op==176)=false:=by simp;omega
  have e4:(op==177)=false:=by simp;omega
  have e5:(op==189)=false:=by simp;omega
  have e6:(op==191)=false:=by simp;omega
  have e7:(op==64514)=false:=by simp;omega
  have e8:(op==64515)=false:=by simp;omega
  have e9:(op==64518)=false:=by simp;omega
  have e0:(op==64519)=false:=by simp;omega
  by_cases c':183≤op∧op≤186
  ·rw[show isF op=true from decide_eq_true (by omega)];obtain⟨h,g⟩:=c';clear c;exact ZbY
  ·rw[show isF op=false from decide_eq_false (by omega)];have c'':op<97∨102<op∧op<153∨166<op∧op<183∨186<op:=by omega
   clear c c';rcases c'' with h|⟨h,g⟩|⟨h,g⟩|h
   ·exact ZbY
   ·have d102:decide (op≤102)=false:=by simp;omega
    exact ZbY
   ·have d102:decide (op≤102)=false:=by simp;omega
    have d166:decide (op≤166)=false:=by simp;omega
    exact ZbY
   ·have d102:decide (op≤102)=false:=by simp;omega
    have d166:decide (op≤166)=false:=by simp;omega
    have d186:decide (op≤186)=false:=by simp;omega
    exact ZbY
theorem UC (op:Int) (w:World) :
 Calls Tryz.prog 155 #[.int .i64 op] w fun e w'=>e=.returned (.bool (WS op))∧w=w':=by
 cases h:isB op with
 | true =>
  rw[show WS op=true by unfold WS;rw[h];rfl];go_enter Tryz.func155,Tryz.ntmps155;go_wp2_with (go_at_call 145;refine(ii_any _ _).mono ?_;rintro e w' ⟨rfl,rfl⟩)
  go_ret;exact⟨rfl,rfl⟩
 | false =>
  rw[show WS op=isF op by unfold WS;rw[h];rfl];go_enter Tryz.func155,Tryz.ntmps155;go_wp2_with (first|(go_at_call 145;refine(ii_any _ _).mono ?_;rintro e w' ⟨rfl,rfl⟩)|(go_at_call 180;refine(if_any _ _).mono ?_;rintro e w' ⟨rfl,rfl⟩))
  go_ret;exact⟨rfl,rfl⟩
theorem const_ways (op:Int):op=65∨op=66∨op=68∨WZ op=0∧(op==65)=false∧(op==66)=false∧(op==68)=false:=by
 by_cases a:op=65
 ·exact .inl a
 ·by_cases b:op=66
  ·exact .inr (.inl b)
  ·by_cases c:op=68
   ·exact .inr (.inr (.inl c))
   ·refine .inr (.inr (.inr ⟨?_,by simp;omega,by simp;omega,by simp;omega⟩));unfold WZ;rw[if_neg a,if_neg b,if_neg c]
theorem const_any (op:Int) (w:World) :
 Calls Tryz.prog 143 #[.int .i64 op] w fun e w'=>e=.returned (.tuple #[.int .i64 (WZ op),.bool (WZ op != 0)])∧w=w':=by
 rcases const_ways op with rfl|rfl|rfl|⟨h,e1,e2,e3⟩
 case inr.inr.inr =>
  rw[h];go_enter Tryz.func143,Tryz.ntmps143;go_wp2
  go_ret2
  exact⟨rfl,rfl⟩
 all_goals
  go_enter Tryz.func143,Tryz.ntmps143;go_wp2
  go_ret2
  exact⟨rfl,rfl⟩
theorem opens_any (op:Int) (w:World) :
 Calls Tryz.prog 116 #[.int .i64 op] w fun e w'=>e=.returned (.bool (WF op))∧w=w':=by
 by_cases c:op=2∨op=3∨op=4
 ·rw[show WF op=true from decide_eq_true (by omega)];rcases c with rfl|rfl|rfl
  all_goals
   go_enter Tryz.func116,Tryz.ntmps116;go_wp2;go_ret;exact⟨rfl,rfl⟩
 ·rw[show WF op=false from decide_eq_false (by omega)];have e1:(op==2)=false:=by simp;omega
  have e2:(op==3)=false:=by simp;omega
  have e3:(op==4)=false:=by simp;omega
  clear c;go_enter Tryz.func116,Tryz.ntmps116;go_wp2;go_ret;exact⟨rfl,rfl⟩
end Go.Proofs.YtmfpnfdinoofpaaGreatDoor
