/- A part of the proof. -/
import Derived.Test.YtmfpnfdinoofpaaGreatDoorJ11
namespace Go.Proofs.YtmfpnfdinoofpaaGreatDoor
open Go.RowKit
set_option maxHeartbeats 1000000
set_option maxRecDepth 100000
theorem ZM {P:Prop}(h:P:=by
 have p69:(op==69)=false:=by simp;omega
 have p80:(op==80)=false:=by simp;omega
 have p167:(op==167)=false:=by simp;omega
 have p170:(op==170)=false:=by simp;omega
 have p171:(op==171)=false:=by simp;omega
 have p172:(op==172)=false:=by simp;omega
 have p173:(op==173)=false:=by simp;omega
 have p176:(op==176)=false:=by simp;omega
 have p177:(op==177)=false:=by simp;omega
 have p183:(op==183)=false:=by simp;omega
 have p184:(op==184)=false:=by simp;omega
 have p189:(op==189)=false:=by simp;omega
 have p192:(op==192)=false:=by simp;omega
 have p193:(op==193)=false:=by simp;omega
 have p64514:(op==64514)=false:=by simp;omega
 have p64515:(op==64515)=false:=by simp;omega
 have p64518:(op==64518)=false:=by simp;omega
 have p64519:(op==64519)=false:=by simp;omega
 have HC:=hD C;have HN:=hD hn;have HS:=hD hs;clear C hn hs;go_enter Tryz.func134,Tryz.ntmps134;go_wp2_with (go_at_call 161;refine(HC.out _).mono ?_;rintro e w' ⟨rfl,rfl⟩)
 go_ret3
 exact Vb op 126 126 w HN.out HS.out):P:=h
theorem rnum_70 (op:Int) (h0:70≤op) (h1:op≤79) (w:World):Calls Tryz.prog 134 #[.int .i64 op] w (WJ op w):=by
 have e1:isB op=true:=decide_eq_true (by omega);have e2:isF op=false:=decide_eq_false (by omega);have hn:WS op=true:=by unfold WS;rw[e1,e2];rfl
 have hs:VH op=(2,127,127):=by
  exact Z4
 have C:=fun w=>Vu op w;rw[e1]at C;clear e1 e2;exact ZL
theorem rnum_81 (op:Int) (h0:81≤op) (h1:op≤90) (w:World):Calls Tryz.prog 134 #[.int .i64 op] w (WJ op w):=by
 have e1:isB op=true:=decide_eq_true (by omega);have e2:isF op=false:=decide_eq_false (by omega);have hn:WS op=true:=by unfold WS;rw[e1,e2];rfl
 have hs:VH op=(2,126,127):=by
  exact Z4
 have C:=fun w=>Vu op w;rw[e1]at C;clear e1 e2;have d79:decide (op≤79)=false:=by simp;omega
 have p69:(op==69)=false:=by simp;omega
 have p80:(op==80)=false:=by simp;omega
 have p167:(op==167)=false:=by simp;omega
 have p170:(op==170)=false:=by simp;omega
 have p171:(op==171)=false:=by simp;omega
 have p172:(op==172)=false:=by simp;omega
 have p173:(op==173)=false:=by simp;omega
 have p176:(op==176)=false:=by simp;omega
 have p177:(op==177)=false:=by simp;omega
 have p183:(op==183)=false:=by simp;omega
 have p184:(op==184)=false:=by simp;omega
 have p189:(op==189)=false:=by simp;omega
 have p192:(op==192)=false:=by simp;omega
 have p193:(op==193)=false:=by simp;omega
 have p64514:(op==64514)=false:=by simp;omega
 have p64515:(op==64515)=false:=by simp;omega
 have p64518:(op==64518)=false:=by simp;omega
 have p64519:(op==64519)=false:=by simp;omega
 have HC:=hD C;have HN:=hD hn;have HS:=hD hs;clear C hn hs;go_enter Tryz.func134,Tryz.ntmps134;go_wp2_with (go_at_call 161;refine(HC.out _).mono ?_;rintro e w' ⟨rfl,rfl⟩)
 go_ret3
 exact rnum_end2 op 126 127 w HN.out HS.out
theorem rnum_103 (op:Int) (h0:103≤op) (h1:op≤105) (w:World):Calls Tryz.prog 134 #[.int .i64 op] w (WJ op w):=by
 have e1:isB op=true:=decide_eq_true (by omega);have e2:isF op=false:=decide_eq_false (by omega);have hn:WS op=true:=by unfold WS;rw[e1,e2];rfl
 have hs:VH op=(1,127,127):=by
  exact Z4
 have C:=fun w=>Vu op w;rw[e1]at C;clear e1 e2;have d79:decide (op≤79)=false:=by simp;omega
 have d90:decide (op≤90)=false:=by simp;omega
 have d102:decide (op≤102)=false:=by simp;omega
 have p69:(op==69)=false:=by simp;omega
 have p80:(op==80)=false:=by simp;omega
 have p167:(op==167)=false:=by simp;omega
 have p170:(op==170)=false:=by simp;omega
 have p171:(op==171)=false:=by simp;omega
 have p172:(op==172)=false:=by simp;omega
 have p173:(op==173)=false:=by simp;omega
 have p176:(op==176)=false:=by simp;omega
 have p177:(op==177)=false:=by simp;omega
 have p183:(op==183)=false:=by simp;omega
 have p184:(op==184)=false:=by simp;omega
 have p189:(op==189)=false:=by simp;omega
 have p192:(op==192)=false:=by simp;omega
 have p193:(op==193)=false:=by simp;omega
 have p64514:(op==64514)=false:=by simp;omega
 have p64515:(op==64515)=false:=by simp;omega
 have p64518:(op==64518)=false:=by simp;omega
 have p64519:(op==64519)=false:=by simp;omega
 have HC:=hD C;have HN:=hD hn;have HS:=hD hs;clear C hn hs;go_enter Tryz.func134,Tryz.ntmps134;go_wp2_with (go_at_call 161;refine(HC.out _).mono ?_;rintro e w' ⟨rfl,rfl⟩)
 go_ret3
 exact Vb op 127 127 w HN.out HS.out
theorem rnum_121 (op:Int) (h0:121≤op) (h1:op≤123) (w:World):Calls Tryz.prog 134 #[.int .i64 op] w (WJ op w):=by
 have e1:isB op=true:=decide_eq_true (by omega);have e2:isF op=false:=decide_eq_false (by omega);have hn:WS op=true:=by unfold WS;rw[e1,e2];rfl
 have hs:VH op=(1,126,126):=by
  exact Z4
 have C:=fun w=>Vu op w;rw[e1]at C;clear e1 e2;have d79:decide (op≤79)=false:=by simp;omega
 have d90:decide (op≤90)=false:=by simp;omega
 have d102:decide (op≤102)=false:=by simp;omega
 have d105:decide (op≤105)=false:=by simp;omega
 have d120:decide (op≤120)=false:=by simp;omega
 exact ZM
theorem rnum_153 (op:Int) (h0:153≤op) (h1:op≤159) (w:World):Calls Tryz.prog 134 #[.int .i64 op] w (WJ op w):=by
 have e1:isB op=false:=decide_eq_false (by omega);have e2:isF op=true:=decide_eq_true (by omega);have hn:WS op=true:=by unfold WS;rw[e1,e2];rfl
 have hs:VH op=(1,124,124):=by
  exact Z4
 have C:=fun w=>V5 op w;rw[e2]at C;have D:=fun w=>Vu op w;rw[e1]at D;clear e1 e2;have d79:decide (op≤79)=false:=by simp;omega
 have d90:decide (op≤90)=false:=by simp;omega
 have d102:decide (op≤102)=false:=by simp;omega
 have d105:decide (op≤105)=false:=by simp;omega
 have d120:decide (op≤120)=false:=by simp;omega
 have d123:decide (op≤123)=false:=by simp;omega
 have d138:decide (op≤138)=false:=by simp;omega
 have p69:(op==69)=false:=by simp;omega
 have p80:(op==80)=false:=by simp;omega
 have p167:(op==167)=false:=by simp;omega
 have p170:(op==170)=false:=by simp;omega
 have p171:(op==171)=false:=by simp;omega
 have p172:(op==172)=false:=by simp;omega
 have p173:(op==173)=false:=by simp;omega
 have p176:(op==176)=false:=by simp;omega
 have p177:(op==177)=false:=by simp;omega
 have p183:(op==183)=false:=by simp;omega
 have p184:(op==184)=false:=by simp;omega
 have p189:(op==189)=false:=by simp;omega
 have p192:(op==192)=false:=by simp;omega
 have p193:(op==193)=false:=by simp;omega
 have p64514:(op==64514)=false:=by simp;omega
 have p64515:(op==64515)=false:=by simp;omega
 have p64518:(op==64518)=false:=by simp;omega
 have p64519:(op==64519)=false:=by simp;omega
 have HC:=hD C;have HN:=hD hn;have HS:=hD hs;clear C hn hs;have HD:=hD D;clear D;go_enter Tryz.func134,Tryz.ntmps134;go_wp2_with (first|(go_at_call 161;refine(HD.out _).mono ?_;rintro e w' ⟨rfl,rfl⟩)|(go_at_call 162;refine(HC.out _).mono ?_;rintro e w' ⟨rfl,rfl⟩))
 go_ret3
 exact Vb op 124 124 w HN.out HS.out
theorem rnum_167 (w:World):Calls Tryz.prog 134 #[.int .i64 167] w (WJ 167 w):=by
 have hn:WS 167=true:=by decide +kernel
 have hs:VH 167=(1,126,127):=by decide +kernel
 have C:=fun w=>Vu 167 w;rw[show isB 167=true by decide +kernel]at C;have HC:=hD C;have HN:=hD hn;have HS:=hD hs;clear C hn hs;go_enter Tryz.func134,Tryz.ntmps134;go_wp2_with (go_at_call 161;refine(HC.out _).mono ?_;rintro e w' ⟨rfl,rfl⟩)
 go_ret3
 exact Vb 167 126 127 w HN.out HS.out
theorem rnum_171 (w:World):Calls Tryz.prog 134 #[.int .i64 171] w (WJ 171 w):=by
 have hn:WS 171=true:=by decide +kernel
 have hs:VH 171=(1,124,127):=by decide +kernel
 have C:=fun w=>V5 171 w;rw[show isF 171=true by decide +kernel]at C;have D:=fun w=>Vu 171 w;rw[show isB 171=false by decide +kernel]at D;have HC:=hD C;have HN:=hD hn;have HS:=hD hs;clear C hn hs;have HD:=hD D;clear D;go_enter Tryz.func134,Tryz.ntmps134;go_wp2_with (first|(go_at_call 161;refine(HD.out _).mono ?_;rintro e w' ⟨rfl,rfl⟩)|(go_at_call 162;refine(HC.out _).mono ?_;rintro e w' ⟨rfl,rfl⟩))
 go_ret3
 exact Vb 171 124 127 w HN.out HS.out
theorem rnum_173 (w:World):Calls Tryz.prog 134 #[.int .i64 173] w (WJ 173 w):=by
 have hn:WS 173=true:=by decide +kernel
 have hs:VH 173=(1,127,126):=by decide +kernel
 have C:=fun w=>Vu 173 w;rw[show isB 173=true by decide +kernel]at C;have HC:=hD C;have HN:=hD hn;have HS:=hD hs;clear C hn hs;go_enter Tryz.func134,Tryz.ntmps134;go_wp2_with (go_at_call 161;refine(HC.out _).mono ?_;rintro e w' ⟨rfl,rfl⟩)
 go_ret3
 exact Vb 173 127 126 w HN.out HS.out
theorem rnum_177 (w:World):Calls Tryz.prog 134 #[.int .i64 177] w (WJ 177 w):=by
 have hn:WS 177=true:=by decide +kernel
 have hs:VH 177=(1,124,126):=by decide +kernel
 have C:=fun w=>V5 177 w;rw[show isF 177=true by decide +kernel]at C;have D:=fun w=>Vu 177 w;rw[show isB 177=false by decide +kernel]at D;have HC:=hD C;have HN:=hD hn;have HS:=hD hs;clear C hn hs;have HD:=hD D;clear D;go_enter Tryz.func134,Tryz.ntmps134;go_wp2_with (first|(go_at_call 161;refine(HD.out _).mono ?_;rintro e w' ⟨rfl,rfl⟩)|(go_at_call 162;refine(HC.out _).mono ?_;rintro e w' ⟨rfl,rfl⟩))
 go_ret3
 exact Vb 177 124 126 w HN.out HS.out
theorem rnum_184 (w:World):Calls Tryz.prog 134 #[.int .i64 184] w (WJ 184 w):=by
 have hn:WS 184=true:=by decide +kernel
 have hs:VH 184=(1,127,124):=by decide +kernel
 have C:=fun w=>V5 184 w;rw[show isF 184=true by decide +kernel]at C;have D:=fun w=>Vu 184 w;rw[show isB 184=false by decide +kernel]at D;have HC:=hD C;have HN:=hD hn;have HS:=hD hs;clear C hn hs;have HD:=hD D;clear D;go_enter Tryz.func134,Tryz.ntmps134;go_wp2_with (first|(go_at_call 161;refine(HD.out _).mono ?_;rintro e w' ⟨rfl,rfl⟩)|(go_at_call 162;refine(HC.out _).mono ?_;rintro e w' ⟨rfl,rfl⟩))
 go_ret3
 exact Vb 184 127 124 w HN.out HS.out
theorem rnum_189 (w:World):Calls Tryz.prog 134 #[.int .i64 189] w (WJ 189 w):=by
 have hn:WS 189=true:=by decide +kernel
 have hs:VH 189=(1,124,126):=by decide +kernel
 have C:=fun w=>V5 189 w;rw[show isF 189=true by decide +kernel]at C;have D:=fun w=>Vu 189 w;rw[show isB 189=false by decide +kernel]at D;have HC:=hD C;have HN:=hD hn;have HS:=hD hs;clear C hn hs;have HD:=hD D;clear D;go_enter Tryz.func134,Tryz.ntmps134;go_wp2_with (first|(go_at_call 161;refine(HD.out _).mono ?_;rintro e w' ⟨rfl,rfl⟩)|(go_at_call 162;refine(HC.out _).mono ?_;rintro e w' ⟨rfl,rfl⟩))
 go_ret3
 exact Vb 189 124 126 w HN.out HS.out
theorem rnum_192 (w:World):Calls Tryz.prog 134 #[.int .i64 192] w (WJ 192 w):=by
 have hn:WS 192=true:=by decide +kernel
 have hs:VH 192=(1,127,127):=by decide +kernel
 have C:=fun w=>Vu 192 w;rw[show isB 192=true by decide +kernel]at C;have HC:=hD C;have HN:=hD hn;have HS:=hD hs;clear C hn hs;go_enter Tryz.func134,Tryz.ntmps134;go_wp2_with (go_at_call 161;refine(HC.out _).mono ?_;rintro e w' ⟨rfl,rfl⟩)
 go_ret3
 exact Vb 192 127 127 w HN.out HS.out
theorem rnum_194 (op:Int) (h0:194≤op) (h1:op≤196) (w:World):Calls Tryz.prog 134 #[.int .i64 op] w (WJ op w):=by
 have e1:isB op=true:=decide_eq_true (by omega);have e2:isF op=false:=decide_eq_false (by omega);have hn:WS op=true:=by unfold WS;rw[e1,e2];rfl
 have hs:VH op=(1,126,126):=by
  exact Z4
 have C:=fun w=>Vu op w;rw[e1]at C;clear e1 e2;have d79:decide (op≤79)=false:=by simp;omega
 have d90:decide (op≤90)=false:=by simp;omega
 have d102:decide (op≤102)=false:=by simp;omega
 have d105:decide (op≤105)=false:=by simp;omega
 have d120:decide (op≤120)=false:=by simp;omega
 have d123:decide (op≤123)=false:=by simp;omega
 have d138:decide (op≤138)=false:=by simp;omega
 have d159:decide (op≤159)=false:=by simp;omega
 have d166:decide (op≤166)=false:=by simp;omega
 exact ZM
theorem rnum_64515 (w:World):Calls Tryz.prog 134 #[.int .i64 64515] w (WJ 64515 w):=by
 have hn:WS 64515=true:=by decide +kernel
 have hs:VH 64515=(1,124,127):=by decide +kernel
 have C:=fun w=>V5 64515 w;rw[show isF 64515=true by decide +kernel]at C;have D:=fun w=>Vu 64515 w;rw[show isB 64515=false by decide +kernel]at D;have HC:=hD C;have HN:=hD hn;have HS:=hD hs;clear C hn hs;have HD:=hD D;clear D;go_enter Tryz.func134,Tryz.ntmps134;go_wp2_with (first|(go_at_call 161;refine(HD.out _).mono ?_;rintro e w' ⟨rfl,rfl⟩)|(go_at_call 162;refine(HC.out _).mono ?_;rintro e w' ⟨rfl,rfl⟩))
 go_ret3
 exact Vb 64515 124 127 w HN.out HS.out
theorem rnum_64519 (w:World):Calls Tryz.prog 134 #[.int .i64 64519] w (WJ 64519 w):=by
 have hn:WS 64519=true:=by decide +kernel
 have hs:VH 64519=(1,124,126):=by decide +kernel
 have C:=fun w=>V5 64519 w;rw[show isF 64519=true by decide +kernel]at C;have D:=fun w=>Vu 64519 w;rw[show isB 64519=false by decide +kernel]at D;have HC:=hD C;have HN:=hD hn;have HS:=hD hs;clear C hn hs;have HD:=hD D;clear D;go_enter Tryz.func134,Tryz.ntmps134;go_wp2_with (first|(go_at_call 161;refine(HD.out _).mono ?_;rintro e w' ⟨rfl,rfl⟩)|(go_at_call 162;refine(HC.out _).mono ?_;rintro e w' ⟨rfl,rfl⟩))
 go_ret3
 exact Vb 64519 124 126 w HN.out HS.out
end Go.Proofs.YtmfpnfdinoofpaaGreatDoor
