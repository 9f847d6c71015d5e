/- A part of the proof. -/
import Derived.Test.YtmfpnfdinoofpaaGreatDoorJ5
namespace Go.Proofs.YtmfpnfdinoofpaaGreatDoor
open Go.RowKit
set_option maxHeartbeats 1000000
set_option maxRecDepth 100000
theorem ZL {P:Prop}(h:P:=by
 have p69:(op==69)=false:=by simp;omega
 have p80:(op==80)=false:=by simp;omega
 have p167:(op==167)=false:=by simp;omega
 have p170:(op==170)=false:=by simp;omega
 have p171:(op==171)=false:=by simp;omega
 have p172:(op==172)=false:=by simp;omega
 have p173:(op==173)=false:=by simp;omega
 have p176:(op==176)=false:=by simp;omega
 have p177:(op==177)=false:=by simp;omega
 have p183:(op==183)=false:=by simp;omega
 have p184:(op==184)=false:=by simp;omega
 have p189:(op==189)=false:=by simp;omega
 have p192:(op==192)=false:=by simp;omega
 have p193:(op==193)=false:=by simp;omega
 have p64514:(op==64514)=false:=by simp;omega
 have p64515:(op==64515)=false:=by simp;omega
 have p64518:(op==64518)=false:=by simp;omega
 have p64519:(op==64519)=false:=by simp;omega
 have HC:=hD C;have HN:=hD hn;have HS:=hD hs;clear C hn hs;go_enter Tryz.func134,Tryz.ntmps134;go_wp2_with (go_at_call 161;refine(HC.out _).mono ?_;rintro e w' ⟨rfl,rfl⟩)
 go_ret3
 exact rnum_end2 op 127 127 w HN.out HS.out):P:=h
theorem Z4 {P:Prop}(h:P:=by
 unfold VH
 repeat (first|rw[if_pos (by omega)]|rw[if_neg (by omega)])):P:=h
theorem rnum_69 (w:World):Calls Tryz.prog 134 #[.int .i64 69] w (WJ 69 w):=by
 have hn:WS 69=true:=by decide +kernel
 have hs:VH 69=(1,127,127):=by decide +kernel
 have C:=fun w=>Vu 69 w;rw[show isB 69=true by decide +kernel]at C;have HC:=hD C;have HN:=hD hn;have HS:=hD hs;clear C hn hs;go_enter Tryz.func134,Tryz.ntmps134;go_wp2_with (go_at_call 161;refine(HC.out _).mono ?_;rintro e w' ⟨rfl,rfl⟩)
 go_ret3
 exact Vb 69 127 127 w HN.out HS.out
theorem rnum_80 (w:World):Calls Tryz.prog 134 #[.int .i64 80] w (WJ 80 w):=by
 have hn:WS 80=true:=by decide +kernel
 have hs:VH 80=(1,126,127):=by decide +kernel
 have C:=fun w=>Vu 80 w;rw[show isB 80=true by decide +kernel]at C;have HC:=hD C;have HN:=hD hn;have HS:=hD hs;clear C hn hs;go_enter Tryz.func134,Tryz.ntmps134;go_wp2_with (go_at_call 161;refine(HC.out _).mono ?_;rintro e w' ⟨rfl,rfl⟩)
 go_ret3
 exact Vb 80 126 127 w HN.out HS.out
theorem rnum_97 (op:Int) (h0:97≤op) (h1:op≤102) (w:World):Calls Tryz.prog 134 #[.int .i64 op] w (WJ op w):=by
 have e1:isB op=false:=decide_eq_false (by omega);have e2:isF op=true:=decide_eq_true (by omega);have hn:WS op=true:=by unfold WS;rw[e1,e2];rfl
 have hs:VH op=(2,124,127):=by
  exact Z4
 have C:=fun w=>V5 op w;rw[e2]at C;have D:=fun w=>Vu op w;rw[e1]at D;clear e1 e2;have d79:decide (op≤79)=false:=by simp;omega
 have d90:decide (op≤90)=false:=by simp;omega
 have p69:(op==69)=false:=by simp;omega
 have p80:(op==80)=false:=by simp;omega
 have p167:(op==167)=false:=by simp;omega
 have p170:(op==170)=false:=by simp;omega
 have p171:(op==171)=false:=by simp;omega
 have p172:(op==172)=false:=by simp;omega
 have p173:(op==173)=false:=by simp;omega
 have p176:(op==176)=false:=by simp;omega
 have p177:(op==177)=false:=by simp;omega
 have p183:(op==183)=false:=by simp;omega
 have p184:(op==184)=false:=by simp;omega
 have p189:(op==189)=false:=by simp;omega
 have p192:(op==192)=false:=by simp;omega
 have p193:(op==193)=false:=by simp;omega
 have p64514:(op==64514)=false:=by simp;omega
 have p64515:(op==64515)=false:=by simp;omega
 have p64518:(op==64518)=false:=by simp;omega
 have p64519:(op==64519)=false:=by simp;omega
 have HC:=hD C;have HN:=hD hn;have HS:=hD hs;clear C hn hs;have HD:=hD D;clear D;go_enter Tryz.func134,Tryz.ntmps134;go_wp2_with (first|(go_at_call 161;refine(HD.out _).mono ?_;rintro e w' ⟨rfl,rfl⟩)|(go_at_call 162;refine(HC.out _).mono ?_;rintro e w' ⟨rfl,rfl⟩))
 go_ret3
 exact rnum_end2 op 124 127 w HN.out HS.out
theorem rnum_106 (op:Int) (h0:106≤op) (h1:op≤120) (w:World):Calls Tryz.prog 134 #[.int .i64 op] w (WJ op w):=by
 have e1:isB op=true:=decide_eq_true (by omega);have e2:isF op=false:=decide_eq_false (by omega);have hn:WS op=true:=by unfold WS;rw[e1,e2];rfl
 have hs:VH op=(2,127,127):=by
  exact Z4
 have C:=fun w=>Vu op w;rw[e1]at C;clear e1 e2;have d79:decide (op≤79)=false:=by simp;omega
 have d90:decide (op≤90)=false:=by simp;omega
 have d102:decide (op≤102)=false:=by simp;omega
 have d105:decide (op≤105)=false:=by simp;omega
 exact ZL
theorem rnum_124 (op:Int) (h0:124≤op) (h1:op≤138) (w:World):Calls Tryz.prog 134 #[.int .i64 op] w (WJ op w):=by
 have e1:isB op=true:=decide_eq_true (by omega);have e2:isF op=false:=decide_eq_false (by omega);have hn:WS op=true:=by unfold WS;rw[e1,e2];rfl
 have hs:VH op=(2,126,126):=by
  exact Z4
 have C:=fun w=>Vu op w;rw[e1]at C;clear e1 e2;have d79:decide (op≤79)=false:=by simp;omega
 have d90:decide (op≤90)=false:=by simp;omega
 have d102:decide (op≤102)=false:=by simp;omega
 have d105:decide (op≤105)=false:=by simp;omega
 have d120:decide (op≤120)=false:=by simp;omega
 have d123:decide (op≤123)=false:=by simp;omega
 have p69:(op==69)=false:=by simp;omega
 have p80:(op==80)=false:=by simp;omega
 have p167:(op==167)=false:=by simp;omega
 have p170:(op==170)=false:=by simp;omega
 have p171:(op==171)=false:=by simp;omega
 have p172:(op==172)=false:=by simp;omega
 have p173:(op==173)=false:=by simp;omega
 have p176:(op==176)=false:=by simp;omega
 have p177:(op==177)=false:=by simp;omega
 have p183:(op==183)=false:=by simp;omega
 have p184:(op==184)=false:=by simp;omega
 have p189:(op==189)=false:=by simp;omega
 have p192:(op==192)=false:=by simp;omega
 have p193:(op==193)=false:=by simp;omega
 have p64514:(op==64514)=false:=by simp;omega
 have p64515:(op==64515)=false:=by simp;omega
 have p64518:(op==64518)=false:=by simp;omega
 have p64519:(op==64519)=false:=by simp;omega
 have HC:=hD C;have HN:=hD hn;have HS:=hD hs;clear C hn hs;go_enter Tryz.func134,Tryz.ntmps134;go_wp2_with (go_at_call 161;refine(HC.out _).mono ?_;rintro e w' ⟨rfl,rfl⟩)
 go_ret3
 exact rnum_end2 op 126 126 w HN.out HS.out
theorem rnum_160 (op:Int) (h0:160≤op) (h1:op≤166) (w:World):Calls Tryz.prog 134 #[.int .i64 op] w (WJ op w):=by
 have e1:isB op=false:=decide_eq_false (by omega);have e2:isF op=true:=decide_eq_true (by omega);have hn:WS op=true:=by unfold WS;rw[e1,e2];rfl
 have hs:VH op=(2,124,124):=by
  exact Z4
 have C:=fun w=>V5 op w;rw[e2]at C;have D:=fun w=>Vu op w;rw[e1]at D;clear e1 e2;have d79:decide (op≤79)=false:=by simp;omega
 have d90:decide (op≤90)=false:=by simp;omega
 have d102:decide (op≤102)=false:=by simp;omega
 have d105:decide (op≤105)=false:=by simp;omega
 have d120:decide (op≤120)=false:=by simp;omega
 have d123:decide (op≤123)=false:=by simp;omega
 have d138:decide (op≤138)=false:=by simp;omega
 have d159:decide (op≤159)=false:=by simp;omega
 have p69:(op==69)=false:=by simp;omega
 have p80:(op==80)=false:=by simp;omega
 have p167:(op==167)=false:=by simp;omega
 have p170:(op==170)=false:=by simp;omega
 have p171:(op==171)=false:=by simp;omega
 have p172:(op==172)=false:=by simp;omega
 have p173:(op==173)=false:=by simp;omega
 have p176:(op==176)=false:=by simp;omega
 have p177:(op==177)=false:=by simp;omega
 have p183:(op==183)=false:=by simp;omega
 have p184:(op==184)=false:=by simp;omega
 have p189:(op==189)=false:=by simp;omega
 have p192:(op==192)=false:=by simp;omega
 have p193:(op==193)=false:=by simp;omega
 have p64514:(op==64514)=false:=by simp;omega
 have p64515:(op==64515)=false:=by simp;omega
 have p64518:(op==64518)=false:=by simp;omega
 have p64519:(op==64519)=false:=by simp;omega
 have HC:=hD C;have HN:=hD hn;have HS:=hD hs;clear C hn hs;have HD:=hD D;clear D;go_enter Tryz.func134,Tryz.ntmps134;go_wp2_with (first|(go_at_call 161;refine(HD.out _).mono ?_;rintro e w' ⟨rfl,rfl⟩)|(go_at_call 162;refine(HC.out _).mono ?_;rintro e w' ⟨rfl,rfl⟩))
 go_ret3
 exact rnum_end2 op 124 124 w HN.out HS.out
theorem rnum_170 (w:World):Calls Tryz.prog 134 #[.int .i64 170] w (WJ 170 w):=by
 have hn:WS 170=true:=by decide +kernel
 have hs:VH 170=(1,124,127):=by decide +kernel
 have C:=fun w=>V5 170 w;rw[show isF 170=true by decide +kernel]at C;have D:=fun w=>Vu 170 w;rw[show isB 170=false by decide +kernel]at D;have HC:=hD C;have HN:=hD hn;have HS:=hD hs;clear C hn hs;have HD:=hD D;clear D;go_enter Tryz.func134,Tryz.ntmps134;go_wp2_with (first|(go_at_call 161;refine(HD.out _).mono ?_;rintro e w' ⟨rfl,rfl⟩)|(go_at_call 162;refine(HC.out _).mono ?_;rintro e w' ⟨rfl,rfl⟩))
 go_ret3
 exact Vb 170 124 127 w HN.out HS.out
theorem rnum_172 (w:World):Calls Tryz.prog 134 #[.int .i64 172] w (WJ 172 w):=by
 have hn:WS 172=true:=by decide +kernel
 have hs:VH 172=(1,127,126):=by decide +kernel
 have C:=fun w=>Vu 172 w;rw[show isB 172=true by decide +kernel]at C;have HC:=hD C;have HN:=hD hn;have HS:=hD hs;clear C hn hs;go_enter Tryz.func134,Tryz.ntmps134;go_wp2_with (go_at_call 161;refine(HC.out _).mono ?_;rintro e w' ⟨rfl,rfl⟩)
 go_ret3
 exact Vb 172 127 126 w HN.out HS.out
theorem rnum_176 (w:World):Calls Tryz.prog 134 #[.int .i64 176] w (WJ 176 w):=by
 have hn:WS 176=true:=by decide +kernel
 have hs:VH 176=(1,124,126):=by decide +kernel
 have C:=fun w=>V5 176 w;rw[show isF 176=true by decide +kernel]at C;have D:=fun w=>Vu 176 w;rw[show isB 176=false by decide +kernel]at D;have HC:=hD C;have HN:=hD hn;have HS:=hD hs;clear C hn hs;have HD:=hD D;clear D;go_enter Tryz.func134,Tryz.ntmps134;go_wp2_with (first|(go_at_call 161;refine(HD.out _).mono ?_;rintro e w' ⟨rfl,rfl⟩)|(go_at_call 162;refine(HC.out _).mono ?_;rintro e w' ⟨rfl,rfl⟩))
 go_ret3
 exact Vb 176 124 126 w HN.out HS.out
theorem rnum_183 (w:World):Calls Tryz.prog 134 #[.int .i64 183] w (WJ 183 w):=by
 have hn:WS 183=true:=by decide +kernel
 have hs:VH 183=(1,127,124):=by decide +kernel
 have C:=fun w=>V5 183 w;rw[show isF 183=true by decide +kernel]at C;have D:=fun w=>Vu 183 w;rw[show isB 183=false by decide +kernel]at D;have HC:=hD C;have HN:=hD hn;have HS:=hD hs;clear C hn hs;have HD:=hD D;clear D;go_enter Tryz.func134,Tryz.ntmps134;go_wp2_with (first|(go_at_call 161;refine(HD.out _).mono ?_;rintro e w' ⟨rfl,rfl⟩)|(go_at_call 162;refine(HC.out _).mono ?_;rintro e w' ⟨rfl,rfl⟩))
 go_ret3
 exact Vb 183 127 124 w HN.out HS.out
theorem rnum_185 (op:Int) (h0:185≤op) (h1:op≤186) (w:World):Calls Tryz.prog 134 #[.int .i64 op] w (WJ op w):=by
 have e1:isB op=false:=decide_eq_false (by omega);have e2:isF op=true:=decide_eq_true (by omega);have hn:WS op=true:=by unfold WS;rw[e1,e2];rfl
 have hs:VH op=(1,126,124):=by
  exact Z4
 have C:=fun w=>V5 op w;rw[e2]at C;have D:=fun w=>Vu op w;rw[e1]at D;clear e1 e2;have d79:decide (op≤79)=false:=by simp;omega
 have d90:decide (op≤90)=false:=by simp;omega
 have d102:decide (op≤102)=false:=by simp;omega
 have d105:decide (op≤105)=false:=by simp;omega
 have d120:decide (op≤120)=false:=by simp;omega
 have d123:decide (op≤123)=false:=by simp;omega
 have d138:decide (op≤138)=false:=by simp;omega
 have d159:decide (op≤159)=false:=by simp;omega
 have d166:decide (op≤166)=false:=by simp;omega
 have p69:(op==69)=false:=by simp;omega
 have p80:(op==80)=false:=by simp;omega
 have p167:(op==167)=false:=by simp;omega
 have p170:(op==170)=false:=by simp;omega
 have p171:(op==171)=false:=by simp;omega
 have p172:(op==172)=false:=by simp;omega
 have p173:(op==173)=false:=by simp;omega
 have p176:(op==176)=false:=by simp;omega
 have p177:(op==177)=false:=by simp;omega
 have p183:(op==183)=false:=by simp;omega
 have p184:(op==184)=false:=by simp;omega
 have p189:(op==189)=false:=by simp;omega
 have p192:(op==192)=false:=by simp;omega
 have p193:(op==193)=false:=by simp;omega
 have p64514:(op==64514)=false:=by simp;omega
 have p64515:(op==64515)=false:=by simp;omega
 have p64518:(op==64518)=false:=by simp;omega
 have p64519:(op==64519)=false:=by simp;omega
 have HC:=hD C;have HN:=hD hn;have HS:=hD hs;clear C hn hs;have HD:=hD D;clear D;go_enter Tryz.func134,Tryz.ntmps134;go_wp2_with (first|(go_at_call 161;refine(HD.out _).mono ?_;rintro e w' ⟨rfl,rfl⟩)|(go_at_call 162;refine(HC.out _).mono ?_;rintro e w' ⟨rfl,rfl⟩))
 go_ret3
 exact Vb op 126 124 w HN.out HS.out
theorem rnum_191 (w:World):Calls Tryz.prog 134 #[.int .i64 191] w (WJ 191 w):=by
 have hn:WS 191=true:=by decide +kernel
 have hs:VH 191=(1,126,124):=by decide +kernel
 have C:=fun w=>V5 191 w;rw[show isF 191=true by decide +kernel]at C;have D:=fun w=>Vu 191 w;rw[show isB 191=false by decide +kernel]at D;have HC:=hD C;have HN:=hD hn;have HS:=hD hs;clear C hn hs;have HD:=hD D;clear D;go_enter Tryz.func134,Tryz.ntmps134;go_wp2_with (first|(go_at_call 161;refine(HD.out _).mono ?_;rintro e w' ⟨rfl,rfl⟩)|(go_at_call 162;refine(HC.out _).mono ?_;rintro e w' ⟨rfl,rfl⟩))
 go_ret3
 exact Vb 191 126 124 w HN.out HS.out
theorem rnum_193 (w:World):Calls Tryz.prog 134 #[.int .i64 193] w (WJ 193 w):=by
 have hn:WS 193=true:=by decide +kernel
 have hs:VH 193=(1,127,127):=by decide +kernel
 have C:=fun w=>Vu 193 w;rw[show isB 193=true by decide +kernel]at C;have HC:=hD C;have HN:=hD hn;have HS:=hD hs;clear C hn hs;go_enter Tryz.func134,Tryz.ntmps134;go_wp2_with (go_at_call 161;refine(HC.out _).mono ?_;rintro e w' ⟨rfl,rfl⟩)
 go_ret3
 exact Vb 193 127 127 w HN.out HS.out
theorem rnum_64514 (w:World):Calls Tryz.prog 134 #[.int .i64 64514] w (WJ 64514 w):=by
 have hn:WS 64514=true:=by decide +kernel
 have hs:VH 64514=(1,124,127):=by decide +kernel
 have C:=fun w=>V5 64514 w;rw[show isF 64514=true by decide +kernel]at C;have D:=fun w=>Vu 64514 w;rw[show isB 64514=false by decide +kernel]at D;have HC:=hD C;have HN:=hD hn;have HS:=hD hs;clear C hn hs;have HD:=hD D;clear D;go_enter Tryz.func134,Tryz.ntmps134;go_wp2_with (first|(go_at_call 161;refine(HD.out _).mono ?_;rintro e w' ⟨rfl,rfl⟩)|(go_at_call 162;refine(HC.out _).mono ?_;rintro e w' ⟨rfl,rfl⟩))
 go_ret3
 exact Vb 64514 124 127 w HN.out HS.out
theorem rnum_64518 (w:World):Calls Tryz.prog 134 #[.int .i64 64518] w (WJ 64518 w):=by
 have hn:WS 64518=true:=by decide +kernel
 have hs:VH 64518=(1,124,126):=by decide +kernel
 have C:=fun w=>V5 64518 w;rw[show isF 64518=true by decide +kernel]at C;have D:=fun w=>Vu 64518 w;rw[show isB 64518=false by decide +kernel]at D;have HC:=hD C;have HN:=hD hn;have HS:=hD hs;clear C hn hs;have HD:=hD D;clear D;go_enter Tryz.func134,Tryz.ntmps134;go_wp2_with (first|(go_at_call 161;refine(HD.out _).mono ?_;rintro e w' ⟨rfl,rfl⟩)|(go_at_call 162;refine(HC.out _).mono ?_;rintro e w' ⟨rfl,rfl⟩))
 go_ret3
 exact Vb 64518 124 126 w HN.out HS.out
end Go.Proofs.YtmfpnfdinoofpaaGreatDoor
