/- A part of the proof. -/
import Derived.Test.YtmfpnfdinoofpaaGreatDoorJ10
import Derived.Test.YtmfpnfdinoofpaaGreatDoorJ12
import Derived.Test.YtmfpnfdinoofpaaGreatDoorJ15
namespace Go.Proofs.YtmfpnfdinoofpaaGreatDoor
section
open Go.RowKit
set_option maxRecDepth 10000
theorem Zf {P:Prop}(h:P:=by
 go_enter Tryz.func153,Tryz.ntmps153;go_wp2_with (first|(go_at_call 131;(with_reducible refine(HA _).mono ?_);rintro e w' ⟨rfl,rfl⟩)|(go_at_call 87;(with_reducible refine(HO _).mono ?_);rintro e w' ⟨rfl,rfl⟩)|(go_at_call 138;(with_reducible refine(HC _).mono ?_);rintro e w' ⟨rfl,rfl⟩))
 exact bodyPost_ret (v:=.tuple #[.bool true,.bool false,.bool false,.bool false]) (by simp[results,Tryz.results153,go_sem]) rfl ⟨rfl,rfl⟩):P:=h
theorem Zy {P:Prop}(h:P:=by
 go_enter Tryz.func154,Tryz.ntmps154;go_wp2_with (go_at_call 87;(with_reducible refine(HO _).mono ?_);rintro e w' ⟨rfl,rfl⟩)
 go_ret;exact⟨rfl,rfl⟩):P:=h
theorem ZU {P:Prop}(h:P:=by
 go_enter Tryz.func153,Tryz.ntmps153;go_wp2_with (first|(go_at_call 131;(with_reducible refine(HA _).mono ?_);rintro e w' ⟨rfl,rfl⟩)|(go_at_call 87;(with_reducible refine(HO _).mono ?_);rintro e w' ⟨rfl,rfl⟩)|(go_at_call 138;(with_reducible refine(HC _).mono ?_);rintro e w' ⟨rfl,rfl⟩))
 exact bodyPost_ret (v:=.tuple #[.bool false,.bool false,.bool true,.bool false]) (by simp[results,Tryz.results153,go_sem]) rfl ⟨rfl,rfl⟩):P:=h
theorem Zbo {P:Prop}(h:P:=by
 go_enter Tryz.func153,Tryz.ntmps153;go_wp2_with (first|(go_at_call 131;(with_reducible refine(HA _).mono ?_);rintro e w' ⟨rfl,rfl⟩)|(go_at_call 87;(with_reducible refine(HO _).mono ?_);rintro e w' ⟨rfl,rfl⟩)|(go_at_call 138;(with_reducible refine(HC _).mono ?_);rintro e w' ⟨rfl,rfl⟩))
 exact bodyPost_ret (v:=.tuple #[.bool true,.bool true,.bool false,.bool false]) (by simp[results,Tryz.results153,go_sem]) rfl ⟨rfl,rfl⟩):P:=h
theorem Zcy {P:Prop}(h:P:=by
 go_enter Tryz.func111,Tryz.ntmps111;go_wp2;go_ret;exact⟨rfl,rfl⟩):P:=h
theorem ZcP {P:Prop}(h:P:=by
 rcases Int.lt_or_le op 32 with hq|hq
 ·exact .inl (decide_eq_false (by omega))
 ·exact .inr ⟨decide_eq_true hq,decide_eq_false (by omega)⟩):P:=h
theorem Zc0 {P:Prop}(h:P:=by
 go_enter Tryz.func109,Tryz.ntmps109;go_wp2;go_ret;exact⟨rfl,rfl⟩):P:=h
theorem Zc7 {P:Prop}(h:P:=by
 go_roundw
 case rel=>exact⟨k+1,by omega,by go_num,by first|rfl|trivial,HY⟩
 case measure=>simp[intOf];omega):P:=h
theorem dkind_any (t:Int) (w:World):Calls Tryz.prog 111 #[.int .i64 t] w (PureB (VF t) w):=by
 by_cases c0:t=127
 ·subst c0;rw[show VF 127=true from rfl];exact Zcy
 ·skip
  by_cases c1:t=126
  ·subst c1;rw[show VF 126=true from rfl];exact Zcy
  ·skip
   by_cases c2:t=124
   ·subst c2;rw[show VF 124=true from rfl];exact Zcy
   ·skip
    rw[show VF t=false from decide_eq_false (by omega)];have d0:(t==127)=false:=by simpa using c0
    have d1:(t==126)=false:=by simpa using c1
    have d2:(t==124)=false:=by simpa using c2
    clear c0 c1 c2;exact Zcy
theorem din_any (n most:Int) (w:World):Calls Tryz.prog 109 #[.int .i64 n,.int .i64 most] w (PureB (inB n 0 most) w):=by
 by_cases c:0≤n
 ·by_cases d:n≤most
  ·have c':decide (0≤n)=true:=decide_eq_true c;have d':decide (n≤most)=true:=decide_eq_true d;rw[show inB n 0 most=true from decide_eq_true ⟨c,d⟩];clear c d;exact Zc0
  ·have c':decide (0≤n)=true:=decide_eq_true c;have d':decide (n≤most)=false:=decide_eq_false d;rw[show inB n 0 most=false from decide_eq_false (fun h=>d h.2)];clear c d;exact Zc0
 ·have c':decide (0≤n)=false:=decide_eq_false c;rw[show inB n 0 most=false from decide_eq_false (fun h=>c h.1)];clear c;exact Zc0
theorem dname_any (s:ByteArray) (w:World):Calls Tryz.prog 108 #[.string s] w (Wh (strB s) w):=by
 by_cases c:s.size≤64
 ·have d:decide ((s.size:Int)≤64)=true:=by simp;omega
  have hconv:=conv_any w s;have H:=hD (signs_any (some ⟨w.heap.size,0,none⟩) s.size (grownCap w s.size 0 5) (VR s) (nums_length s) (grownCap_ge w s.size 0 5) (by omega) (Lib.bytesWorld w 5 s) (bytes_conv w s));have HB:=hD (below_bytes w 5 s);unfold CntPost at H;unfold strB;rw[decide_eq_true c,Bool.true_and];generalize cntI (VR s)=b at H ⊢;clear c;go_enter Tryz.func108,Tryz.ntmps108;go_wp2_with (go_at_call 151;refine H.out.mono ?_;rintro e w' ⟨rfl,hb⟩)
  go_ret;exact⟨rfl,Wa HB.out hb⟩
 ·have d:decide ((s.size:Int)≤64)=false:=by simp;omega
  unfold strB;rw[decide_eq_false c,Bool.false_and];clear c;go_enter Tryz.func108,Tryz.ntmps108;go_wp2;go_ret;exact⟨rfl,bR _ _⟩
theorem kinds_bad {l:List Int} (most:Int) (h:l.all VF=false):Vs l most=false:=by unfold Vs;rw[h,Bool.and_false]
theorem kinds_good {l:List Int} (most:Int) (h:l.all VF=true):Vs l most=decide ((l.length:Int)≤most):=by unfold Vs;rw[h,Bool.and_true]
theorem dkinds_any (K:Nat→Prop) (w:World) (hK:∀ k,K k→k<w.heap.size) (v:Value) (l:List Int) (h:Wf K w v l) (most:Int):Calls Tryz.prog 107 #[v,.int .i64 most] w (PureB (Vs l most) w):=by
 obtain⟨A,c,hv,hm,_⟩:=h.form;unfold maxLen at hm;have H:=hD (h.keep (K':=fun k=>k<w.heap.size) (.refl _ _) hK);rw[hv]at H ⊢;clear h hv;have HG:=hD (kinds_good (l:=l) most);have HBD:=hD (kinds_bad (l:=l) most);obtain⟨n,hn⟩:∃ n,l.length=n:=⟨_,rfl⟩;have HN:=hD hn;rw[hn]at H HG hm ⊢;clear hn;generalize Vs l most=R at HG HBD ⊢;go_enter Tryz.func107,Tryz.ntmps107;go_wp2_with fail
 go_loopw [5] (fun i wr=>∃ k:Nat,k≤n∧i=.int .i64 (k:Int)∧w=wr∧Hid (W0 VF l 0 k)) (fun i _=>n - (intOf i).toNat)
 case atStart=>exact⟨0,nZ _,rfl,by first|rfl|trivial,hD (W0.zero _ _ _)⟩
 case round =>
  obtain⟨k,hk,rfl,rfl,HA⟩:=hrel;by_cases hlt:k<n
  ·have hd:decide ((k:Int)<(n:Int))=true:=by simp;omega
   obtain⟨g,o,c',he,_,_⟩:=H.out.some_ (by rw[HN.out];omega);simp only[vI]at he;obtain⟨rfl,-,rfl⟩:=he;have hcell:=H.out.at_ k hlt;have HNO:=hD (fun (h:VF (l.getD k 0)=false)=>(VM (by rw[HN.out];exact hlt) h:l.all VF=false));have HYE:=hD (fun (h:VF (l.getD k 0)=true)=>HA.out.succ h);generalize l.getD k 0=x at hcell HNO HYE;have HX:=hD (dkind_any x w);obtain⟨b,hb⟩:∃ b,VF x=b:=⟨_,rfl⟩;rw[hb]at HX;rw[hb]at HNO HYE;clear hb;cases b with
   | true =>
    have HY:=hD (HYE.out rfl);clear HNO HYE;go_wp2_with (go_at_call 111;refine HX.out.mono ?_;rintro e w' ⟨rfl,rfl⟩)
    exact Zc7
   | false =>
    have HF:=hD (HBD.out (HNO.out rfl));clear HNO HYE;go_wp2_with (go_at_call 111;refine HX.out.mono ?_;rintro e w' ⟨rfl,rfl⟩)
    go_ret;exact⟨WV (by rw[HF.out]),rfl⟩
  ·have hd:decide ((k:Int)<(n:Int))=false:=by simp;omega
   obtain rfl:k=n:=by omega
   have HF:=hD (HG.out (by have h:=HA.out;rw[← HN.out]at h;exact h.done));go_wp2;go_ret;exact⟨WV (by rw[HF.out]),rfl⟩
def WO (op:Int):Bool×Bool×Bool×Bool :=
 if (2≤op∧op≤4)∨op=12∨op=13∨op=16∨op=18∨(32≤op∧op≤36)∨op=63∨op=64∨op=64521∨op=64523 then (true,false,false,false)
 else if op=14 then (false,false,false,true)
 else if (WK op).2.2.2 then (true,false,true,false)
 else if op=64520∨op=64522 then (true,true,false,false)
 else if op=65∨op=66∨op=68 then (false,false,true,false)
 else (false,false,false,false)
def Vh (op:Int):Int :=
 if 2≤op∧op≤4 then 63 else if op=12∨op=13 then 64 else if op=16∨op=18 then 255 else if 32≤op∧op≤34 then 255 else if op=35∨op=36 then 255 else if op=64521 then 15 else 3
def WP (p:Bool×Bool×Bool×Bool) (w:World) (e:Ending) (w':World):Prop:=e=.returned (.tuple #[.bool p.1,.bool p.2.1,.bool p.2.2.1,.bool p.2.2.2])∧w=w'
theorem asks_2 (w:World):Calls Tryz.prog 153 #[.int .i64 2] w (WP (WO 2) w):=by
 have HA:∀ w:World,Calls Tryz.prog 131 #[.int .i64 2] w (fun e w'=>e=.returned (.tuple #[.int .i64 0,.int .i64 0,.bool false])∧w=w'):=Wn 2;have HO:∀ w:World,Calls Tryz.prog 87 #[.int .i64 2] w (fun e w'=>e=.returned (.bool true)∧w=w'):=Wl 2;have HC:∀ w:World,Calls Tryz.prog 138 #[.int .i64 2] w (fun e w'=>e=.returned (.int .i64 0)∧w=w'):=WD 2;rw[show WO 2=(true,false,false,false) from rfl];exact Zf
theorem asks_3 (w:World):Calls Tryz.prog 153 #[.int .i64 3] w (WP (WO 3) w):=by
 have HA:∀ w:World,Calls Tryz.prog 131 #[.int .i64 3] w (fun e w'=>e=.returned (.tuple #[.int .i64 0,.int .i64 0,.bool false])∧w=w'):=Wn 3;have HO:∀ w:World,Calls Tryz.prog 87 #[.int .i64 3] w (fun e w'=>e=.returned (.bool true)∧w=w'):=Wl 3;have HC:∀ w:World,Calls Tryz.prog 138 #[.int .i64 3] w (fun e w'=>e=.returned (.int .i64 0)∧w=w'):=WD 3;rw[show WO 3=(true,false,false,false) from rfl];exact Zf
theorem asks_4 (w:World):Calls Tryz.prog 153 #[.int .i64 4] w (WP (WO 4) w):=by
 have HA:∀ w:World,Calls Tryz.prog 131 #[.int .i64 4] w (fun e w'=>e=.returned (.tuple #[.int .i64 0,.int .i64 0,.bool false])∧w=w'):=Wn 4;have HO:∀ w:World,Calls Tryz.prog 87 #[.int .i64 4] w (fun e w'=>e=.returned (.bool true)∧w=w'):=Wl 4;have HC:∀ w:World,Calls Tryz.prog 138 #[.int .i64 4] w (fun e w'=>e=.returned (.int .i64 0)∧w=w'):=WD 4;rw[show WO 4=(true,false,false,false) from rfl];exact Zf
theorem asks_12 (w:World):Calls Tryz.prog 153 #[.int .i64 12] w (WP (WO 12) w):=by
 have HA:∀ w:World,Calls Tryz.prog 131 #[.int .i64 12] w (fun e w'=>e=.returned (.tuple #[.int .i64 0,.int .i64 0,.bool false])∧w=w'):=Wn 12;have HO:∀ w:World,Calls Tryz.prog 87 #[.int .i64 12] w (fun e w'=>e=.returned (.bool false)∧w=w'):=Wl 12;have HC:∀ w:World,Calls Tryz.prog 138 #[.int .i64 12] w (fun e w'=>e=.returned (.int .i64 0)∧w=w'):=WD 12;rw[show WO 12=(true,false,false,false) from rfl];exact Zf
theorem asks_13 (w:World):Calls Tryz.prog 153 #[.int .i64 13] w (WP (WO 13) w):=by
 have HA:∀ w:World,Calls Tryz.prog 131 #[.int .i64 13] w (fun e w'=>e=.returned (.tuple #[.int .i64 0,.int .i64 0,.bool false])∧w=w'):=Wn 13;have HO:∀ w:World,Calls Tryz.prog 87 #[.int .i64 13] w (fun e w'=>e=.returned (.bool false)∧w=w'):=Wl 13;have HC:∀ w:World,Calls Tryz.prog 138 #[.int .i64 13] w (fun e w'=>e=.returned (.int .i64 0)∧w=w'):=WD 13;rw[show WO 13=(true,false,false,false) from rfl];exact Zf
theorem asks_16 (w:World):Calls Tryz.prog 153 #[.int .i64 16] w (WP (WO 16) w):=by
 have HA:∀ w:World,Calls Tryz.prog 131 #[.int .i64 16] w (fun e w'=>e=.returned (.tuple #[.int .i64 0,.int .i64 0,.bool false])∧w=w'):=Wn 16;have HO:∀ w:World,Calls Tryz.prog 87 #[.int .i64 16] w (fun e w'=>e=.returned (.bool false)∧w=w'):=Wl 16;have HC:∀ w:World,Calls Tryz.prog 138 #[.int .i64 16] w (fun e w'=>e=.returned (.int .i64 0)∧w=w'):=WD 16;rw[show WO 16=(true,false,false,false) from rfl];exact Zf
theorem asks_18 (w:World):Calls Tryz.prog 153 #[.int .i64 18] w (WP (WO 18) w):=by
 have HA:∀ w:World,Calls Tryz.prog 131 #[.int .i64 18] w (fun e w'=>e=.returned (.tuple #[.int .i64 0,.int .i64 0,.bool false])∧w=w'):=Wn 18;have HO:∀ w:World,Calls Tryz.prog 87 #[.int .i64 18] w (fun e w'=>e=.returned (.bool false)∧w=w'):=Wl 18;have HC:∀ w:World,Calls Tryz.prog 138 #[.int .i64 18] w (fun e w'=>e=.returned (.int .i64 0)∧w=w'):=WD 18;rw[show WO 18=(true,false,false,false) from rfl];exact Zf
theorem asks_32 (w:World):Calls Tryz.prog 153 #[.int .i64 32] w (WP (WO 32) w):=by
 have HA:∀ w:World,Calls Tryz.prog 131 #[.int .i64 32] w (fun e w'=>e=.returned (.tuple #[.int .i64 0,.int .i64 0,.bool false])∧w=w'):=Wn 32;have HO:∀ w:World,Calls Tryz.prog 87 #[.int .i64 32] w (fun e w'=>e=.returned (.bool false)∧w=w'):=Wl 32;have HC:∀ w:World,Calls Tryz.prog 138 #[.int .i64 32] w (fun e w'=>e=.returned (.int .i64 0)∧w=w'):=WD 32;rw[show WO 32=(true,false,false,false) from rfl];exact Zf
theorem asks_33 (w:World):Calls Tryz.prog 153 #[.int .i64 33] w (WP (WO 33) w):=by
 have HA:∀ w:World,Calls Tryz.prog 131 #[.int .i64 33] w (fun e w'=>e=.returned (.tuple #[.int .i64 0,.int .i64 0,.bool false])∧w=w'):=Wn 33;have HO:∀ w:World,Calls Tryz.prog 87 #[.int .i64 33] w (fun e w'=>e=.returned (.bool false)∧w=w'):=Wl 33;have HC:∀ w:World,Calls Tryz.prog 138 #[.int .i64 33] w (fun e w'=>e=.returned (.int .i64 0)∧w=w'):=WD 33;rw[show WO 33=(true,false,false,false) from rfl];exact Zf
theorem asks_34 (w:World):Calls Tryz.prog 153 #[.int .i64 34] w (WP (WO 34) w):=by
 have HA:∀ w:World,Calls Tryz.prog 131 #[.int .i64 34] w (fun e w'=>e=.returned (.tuple #[.int .i64 0,.int .i64 0,.bool false])∧w=w'):=Wn 34;have HO:∀ w:World,Calls Tryz.prog 87 #[.int .i64 34] w (fun e w'=>e=.returned (.bool false)∧w=w'):=Wl 34;have HC:∀ w:World,Calls Tryz.prog 138 #[.int .i64 34] w (fun e w'=>e=.returned (.int .i64 0)∧w=w'):=WD 34;rw[show WO 34=(true,false,false,false) from rfl];exact Zf
theorem asks_35 (w:World):Calls Tryz.prog 153 #[.int .i64 35] w (WP (WO 35) w):=by
 have HA:∀ w:World,Calls Tryz.prog 131 #[.int .i64 35] w (fun e w'=>e=.returned (.tuple #[.int .i64 0,.int .i64 0,.bool false])∧w=w'):=Wn 35;have HO:∀ w:World,Calls Tryz.prog 87 #[.int .i64 35] w (fun e w'=>e=.returned (.bool false)∧w=w'):=Wl 35;have HC:∀ w:World,Calls Tryz.prog 138 #[.int .i64 35] w (fun e w'=>e=.returned (.int .i64 0)∧w=w'):=WD 35;rw[show WO 35=(true,false,false,false) from rfl];exact Zf
theorem asks_36 (w:World):Calls Tryz.prog 153 #[.int .i64 36] w (WP (WO 36) w):=by
 have HA:∀ w:World,Calls Tryz.prog 131 #[.int .i64 36] w (fun e w'=>e=.returned (.tuple #[.int .i64 0,.int .i64 0,.bool false])∧w=w'):=Wn 36;have HO:∀ w:World,Calls Tryz.prog 87 #[.int .i64 36] w (fun e w'=>e=.returned (.bool false)∧w=w'):=Wl 36;have HC:∀ w:World,Calls Tryz.prog 138 #[.int .i64 36] w (fun e w'=>e=.returned (.int .i64 0)∧w=w'):=WD 36;rw[show WO 36=(true,false,false,false) from rfl];exact Zf
theorem asks_63 (w:World):Calls Tryz.prog 153 #[.int .i64 63] w (WP (WO 63) w):=by
 have HA:∀ w:World,Calls Tryz.prog 131 #[.int .i64 63] w (fun e w'=>e=.returned (.tuple #[.int .i64 0,.int .i64 0,.bool false])∧w=w'):=Wn 63;have HO:∀ w:World,Calls Tryz.prog 87 #[.int .i64 63] w (fun e w'=>e=.returned (.bool false)∧w=w'):=Wl 63;have HC:∀ w:World,Calls Tryz.prog 138 #[.int .i64 63] w (fun e w'=>e=.returned (.int .i64 0)∧w=w'):=WD 63;rw[show WO 63=(true,false,false,false) from rfl];exact Zf
theorem asks_64 (w:World):Calls Tryz.prog 153 #[.int .i64 64] w (WP (WO 64) w):=by
 have HA:∀ w:World,Calls Tryz.prog 131 #[.int .i64 64] w (fun e w'=>e=.returned (.tuple #[.int .i64 0,.int .i64 0,.bool false])∧w=w'):=Wn 64;have HO:∀ w:World,Calls Tryz.prog 87 #[.int .i64 64] w (fun e w'=>e=.returned (.bool false)∧w=w'):=Wl 64;have HC:∀ w:World,Calls Tryz.prog 138 #[.int .i64 64] w (fun e w'=>e=.returned (.int .i64 0)∧w=w'):=WD 64;rw[show WO 64=(true,false,false,false) from rfl];exact Zf
theorem asks_64521 (w:World):Calls Tryz.prog 153 #[.int .i64 64521] w (WP (WO 64521) w):=by
 have HA:∀ w:World,Calls Tryz.prog 131 #[.int .i64 64521] w (fun e w'=>e=.returned (.tuple #[.int .i64 0,.int .i64 0,.bool false])∧w=w'):=Wn 64521;have HO:∀ w:World,Calls Tryz.prog 87 #[.int .i64 64521] w (fun e w'=>e=.returned (.bool false)∧w=w'):=Wl 64521;have HC:∀ w:World,Calls Tryz.prog 138 #[.int .i64 64521] w (fun e w'=>e=.returned (.int .i64 0)∧w=w'):=WD 64521;rw[show WO 64521=(true,false,false,false) from rfl];exact Zf
theorem asks_64523 (w:World):Calls Tryz.prog 153 #[.int .i64 64523] w (WP (WO 64523) w):=by
 have HA:∀ w:World,Calls Tryz.prog 131 #[.int .i64 64523] w (fun e w'=>e=.returned (.tuple #[.int .i64 0,.int .i64 0,.bool false])∧w=w'):=Wn 64523;have HO:∀ w:World,Calls Tryz.prog 87 #[.int .i64 64523] w (fun e w'=>e=.returned (.bool false)∧w=w'):=Wl 64523;have HC:∀ w:World,Calls Tryz.prog 138 #[.int .i64 64523] w (fun e w'=>e=.returned (.int .i64 0)∧w=w'):=WD 64523;rw[show WO 64523=(true,false,false,false) from rfl];exact Zf
theorem asks_14 (w:World):Calls Tryz.prog 153 #[.int .i64 14] w (WP (WO 14) w):=by
 have HA:∀ w:World,Calls Tryz.prog 131 #[.int .i64 14] w (fun e w'=>e=.returned (.tuple #[.int .i64 0,.int .i64 0,.bool false])∧w=w'):=Wn 14;have HO:∀ w:World,Calls Tryz.prog 87 #[.int .i64 14] w (fun e w'=>e=.returned (.bool false)∧w=w'):=Wl 14;have HC:∀ w:World,Calls Tryz.prog 138 #[.int .i64 14] w (fun e w'=>e=.returned (.int .i64 0)∧w=w'):=WD 14;rw[show WO 14=(false,false,false,true) from rfl];go_enter Tryz.func153,Tryz.ntmps153;go_wp2_with (first|(go_at_call 131;(with_reducible refine(HA _).mono ?_);rintro e w' ⟨rfl,rfl⟩)|(go_at_call 87;(with_reducible refine(HO _).mono ?_);rintro e w' ⟨rfl,rfl⟩)|(go_at_call 138;(with_reducible refine(HC _).mono ?_);rintro e w' ⟨rfl,rfl⟩))
 exact bodyPost_ret (v:=.tuple #[.bool false,.bool false,.bool false,.bool true]) (by simp[results,Tryz.results153,go_sem]) rfl ⟨rfl,rfl⟩
theorem asks_64520 (w:World):Calls Tryz.prog 153 #[.int .i64 64520] w (WP (WO 64520) w):=by
 have HA:∀ w:World,Calls Tryz.prog 131 #[.int .i64 64520] w (fun e w'=>e=.returned (.tuple #[.int .i64 0,.int .i64 0,.bool false])∧w=w'):=Wn 64520;have HO:∀ w:World,Calls Tryz.prog 87 #[.int .i64 64520] w (fun e w'=>e=.returned (.bool false)∧w=w'):=Wl 64520;have HC:∀ w:World,Calls Tryz.prog 138 #[.int .i64 64520] w (fun e w'=>e=.returned (.int .i64 0)∧w=w'):=WD 64520;rw[show WO 64520=(true,true,false,false) from rfl];exact Zbo
theorem asks_64522 (w:World):Calls Tryz.prog 153 #[.int .i64 64522] w (WP (WO 64522) w):=by
 have HA:∀ w:World,Calls Tryz.prog 131 #[.int .i64 64522] w (fun e w'=>e=.returned (.tuple #[.int .i64 0,.int .i64 0,.bool false])∧w=w'):=Wn 64522;have HO:∀ w:World,Calls Tryz.prog 87 #[.int .i64 64522] w (fun e w'=>e=.returned (.bool false)∧w=w'):=Wl 64522;have HC:∀ w:World,Calls Tryz.prog 138 #[.int .i64 64522] w (fun e w'=>e=.returned (.int .i64 0)∧w=w'):=WD 64522;rw[show WO 64522=(true,true,false,false) from rfl];exact Zbo
theorem asks_65 (w:World):Calls Tryz.prog 153 #[.int .i64 65] w (WP (WO 65) w):=by
 have HA:∀ w:World,Calls Tryz.prog 131 #[.int .i64 65] w (fun e w'=>e=.returned (.tuple #[.int .i64 0,.int .i64 0,.bool false])∧w=w'):=Wn 65;have HO:∀ w:World,Calls Tryz.prog 87 #[.int .i64 65] w (fun e w'=>e=.returned (.bool false)∧w=w'):=Wl 65;have HC:∀ w:World,Calls Tryz.prog 138 #[.int .i64 65] w (fun e w'=>e=.returned (.int .i64 127)∧w=w'):=WD 65;rw[show WO 65=(false,false,true,false) from rfl];exact ZU
theorem asks_66 (w:World):Calls Tryz.prog 153 #[.int .i64 66] w (WP (WO 66) w):=by
 have HA:∀ w:World,Calls Tryz.prog 131 #[.int .i64 66] w (fun e w'=>e=.returned (.tuple #[.int .i64 0,.int .i64 0,.bool false])∧w=w'):=Wn 66;have HO:∀ w:World,Calls Tryz.prog 87 #[.int .i64 66] w (fun e w'=>e=.returned (.bool false)∧w=w'):=Wl 66;have HC:∀ w:World,Calls Tryz.prog 138 #[.int .i64 66] w (fun e w'=>e=.returned (.int .i64 126)∧w=w'):=WD 66;rw[show WO 66=(false,false,true,false) from rfl];exact ZU
theorem asks_68 (w:World):Calls Tryz.prog 153 #[.int .i64 68] w (WP (WO 68) w):=by
 have HA:∀ w:World,Calls Tryz.prog 131 #[.int .i64 68] w (fun e w'=>e=.returned (.tuple #[.int .i64 0,.int .i64 0,.bool false])∧w=w'):=Wn 68;have HO:∀ w:World,Calls Tryz.prog 87 #[.int .i64 68] w (fun e w'=>e=.returned (.bool false)∧w=w'):=Wl 68;have HC:∀ w:World,Calls Tryz.prog 138 #[.int .i64 68] w (fun e w'=>e=.returned (.int .i64 124)∧w=w'):=WD 68;rw[show WO 68=(false,false,true,false) from rfl];exact ZU
theorem asks_acc (op:Int) (h:(40≤op∧op≤62)∧decide (0<(WK op).1)=true∧True) (w:World):Calls Tryz.prog 153 #[.int .i64 op] w (WP (true,false,true,false) w):=by
 have HA:=Wn op;generalize WK op=ac at HA h;obtain⟨a1,a2,a3,a4⟩:=ac;simp only at HA h;have HO:=Wl op;rw[show WF op=false from decide_eq_false (by omega)]at HO;have d12:(op==12)=false:=by simp;omega
 have d13:(op==13)=false:=by simp;omega
 have d16:(op==16)=false:=by simp;omega
 have d18:(op==18)=false:=by simp;omega
 have d63:(op==63)=false:=by simp;omega
 have d64:(op==64)=false:=by simp;omega
 have d64521:(op==64521)=false:=by simp;omega
 have d64523:(op==64523)=false:=by simp;omega
 have d14:(op==14)=false:=by simp;omega
 have da:decide (0<a1)=true:=by have:=h.2.1;simpa using this
 have l1:decide (32≤op)=true:=by simp;omega
 have l2:decide (op≤36)=false:=by simp;omega
 clear h
 ·skip
  go_enter Tryz.func153,Tryz.ntmps153;go_wp2_with (first|(go_at_call 131;(with_reducible refine(HA _).mono ?_);rintro e w' ⟨rfl,rfl⟩)|(go_at_call 87;(with_reducible refine(HO _).mono ?_);rintro e w' ⟨rfl,rfl⟩))
  exact bodyPost_ret (v:=.tuple #[.bool true,.bool false,.bool true,.bool false]) (by simp[results,Tryz.results153,go_sem]) rfl ⟨rfl,rfl⟩
theorem asks_rest (op:Int) (h:(op≠2∧op≠3∧op≠4∧op≠12∧op≠13∧op≠16∧op≠18∧op≠32∧op≠33∧op≠34∧op≠35∧op≠36∧op≠63∧op≠64∧op≠64521∧op≠64523∧op≠14∧op≠64520∧op≠64522∧op≠65∧op≠66∧op≠68)∧decide (0<(WK op).1)=false∧True) (w:World):Calls Tryz.prog 153 #[.int .i64 op] w (WP (false,false,false,false) w):=by
 have HA:=Wn op;generalize WK op=ac at HA h;obtain⟨a1,a2,a3,a4⟩:=ac;simp only at HA h;have HO:=Wl op;rw[show WF op=false from decide_eq_false (by omega)]at HO;have HC:=WD op;rw[show WZ op=0 by unfold WZ;rw[if_neg (by omega),if_neg (by omega),if_neg (by omega)]]at HC;have d12:(op==12)=false:=by simp;omega
 have d13:(op==13)=false:=by simp;omega
 have d16:(op==16)=false:=by simp;omega
 have d18:(op==18)=false:=by simp;omega
 have d63:(op==63)=false:=by simp;omega
 have d64:(op==64)=false:=by simp;omega
 have d64521:(op==64521)=false:=by simp;omega
 have d64523:(op==64523)=false:=by simp;omega
 have d14:(op==14)=false:=by simp;omega
 have d64520:(op==64520)=false:=by simp;omega
 have d64522:(op==64522)=false:=by simp;omega
 have da:decide (0<a1)=false:=by have:=h.2.1;simpa using this
 have hl:(decide (32≤op)=false)∨(decide (32≤op)=true∧decide (op≤36)=false):=by
  exact ZcP
 clear h;rcases hl with l1|⟨l1,l2⟩
 all_goals
  go_enter Tryz.func153,Tryz.ntmps153;go_wp2_with (first|(go_at_call 131;(with_reducible refine(HA _).mono ?_);rintro e w' ⟨rfl,rfl⟩)|(go_at_call 87;(with_reducible refine(HO _).mono ?_);rintro e w' ⟨rfl,rfl⟩)|(go_at_call 138;(with_reducible refine(HC _).mono ?_);rintro e w' ⟨rfl,rfl⟩))
  exact bodyPost_ret (v:=.tuple #[.bool false,.bool false,.bool false,.bool false]) (by simp[results,Tryz.results153,go_sem]) rfl ⟨rfl,rfl⟩
theorem UP (op:Int) (w:World):Calls Tryz.prog 153 #[.int .i64 op] w (WP (WO op) w):=by
 by_cases c2:op=2
 ·rw[c2];exact asks_2 w
 by_cases c3:op=3
 ·rw[c3];exact asks_3 w
 by_cases c4:op=4
 ·rw[c4];exact asks_4 w
 by_cases c12:op=12
 ·rw[c12];exact asks_12 w
 by_cases c13:op=13
 ·rw[c13];exact asks_13 w
 by_cases c16:op=16
 ·rw[c16];exact asks_16 w
 by_cases c18:op=18
 ·rw[c18];exact asks_18 w
 by_cases c32:op=32
 ·rw[c32];exact asks_32 w
 by_cases c33:op=33
 ·rw[c33];exact asks_33 w
 by_cases c34:op=34
 ·rw[c34];exact asks_34 w
 by_cases c35:op=35
 ·rw[c35];exact asks_35 w
 by_cases c36:op=36
 ·rw[c36];exact asks_36 w
 by_cases c63:op=63
 ·rw[c63];exact asks_63 w
 by_cases c64:op=64
 ·rw[c64];exact asks_64 w
 by_cases c64521:op=64521
 ·rw[c64521];exact asks_64521 w
 by_cases c64523:op=64523
 ·rw[c64523];exact asks_64523 w
 by_cases c14:op=14
 ·rw[c14];exact asks_14 w
 by_cases c64520:op=64520
 ·rw[c64520];exact asks_64520 w
 by_cases c64522:op=64522
 ·rw[c64522];exact asks_64522 w
 by_cases c65:op=65
 ·rw[c65];exact asks_65 w
 by_cases c66:op=66
 ·rw[c66];exact asks_66 w
 by_cases c68:op=68
 ·rw[c68];exact asks_68 w
 have hp:=acc_pos op;cases hq:(WK op).2.2.2 with
 | true =>
  have hr:40≤op∧op≤62:=by
   refine Classical.byContradiction fun hn=>?_;unfold WK at hq;rw[if_neg hn]at hq;cases hq
  have e:WO op=(true,false,true,false):=by unfold WO;rw[if_neg (by omega),if_neg (by omega),if_pos hq]
  rw[e];exact asks_acc op ⟨hr,by rw[← hp,hq],trivial⟩ w
 | false =>
  have e:WO op=(false,false,false,false):=by unfold WO;rw[if_neg (by omega),if_neg (by omega),if_neg (by rw[hq];decide),if_neg (by omega),if_neg (by omega)]
  rw[e];exact asks_rest op ⟨⟨c2,c3,c4,c12,c13,c16,c18,c32,c33,c34,c35,c36,c63,c64,c64521,c64523,c14,c64520,c64522,c65,c66,c68⟩,by rw[← hp,hq],trivial⟩ w
def Vz (n:Int) (w:World) (e:Ending) (w':World):Prop:=e=.returned (.int .i64 n)∧w=w'
theorem most_2 (w:World):Calls Tryz.prog 154 #[.int .i64 2] w (Vz (Vh 2) w):=by
 have HO:∀ w:World,Calls Tryz.prog 87 #[.int .i64 2] w (fun e w'=>e=.returned (.bool true)∧w=w'):=Wl 2;rw[show Vh 2=63 from rfl];exact Zy
theorem most_3 (w:World):Calls Tryz.prog 154 #[.int .i64 3] w (Vz (Vh 3) w):=by
 have HO:∀ w:World,Calls Tryz.prog 87 #[.int .i64 3] w (fun e w'=>e=.returned (.bool true)∧w=w'):=Wl 3;rw[show Vh 3=63 from rfl];exact Zy
theorem most_4 (w:World):Calls Tryz.prog 154 #[.int .i64 4] w (Vz (Vh 4) w):=by
 have HO:∀ w:World,Calls Tryz.prog 87 #[.int .i64 4] w (fun e w'=>e=.returned (.bool true)∧w=w'):=Wl 4;rw[show Vh 4=63 from rfl];exact Zy
theorem most_12 (w:World):Calls Tryz.prog 154 #[.int .i64 12] w (Vz (Vh 12) w):=by
 have HO:∀ w:World,Calls Tryz.prog 87 #[.int .i64 12] w (fun e w'=>e=.returned (.bool false)∧w=w'):=Wl 12;rw[show Vh 12=64 from rfl];exact Zy
theorem most_13 (w:World):Calls Tryz.prog 154 #[.int .i64 13] w (Vz (Vh 13) w):=by
 have HO:∀ w:World,Calls Tryz.prog 87 #[.int .i64 13] w (fun e w'=>e=.returned (.bool false)∧w=w'):=Wl 13;rw[show Vh 13=64 from rfl];exact Zy
theorem most_16 (w:World):Calls Tryz.prog 154 #[.int .i64 16] w (Vz (Vh 16) w):=by
 have HO:∀ w:World,Calls Tryz.prog 87 #[.int .i64 16] w (fun e w'=>e=.returned (.bool false)∧w=w'):=Wl 16;rw[show Vh 16=255 from rfl];exact Zy
theorem most_18 (w:World):Calls Tryz.prog 154 #[.int .i64 18] w (Vz (Vh 18) w):=by
 have HO:∀ w:World,Calls Tryz.prog 87 #[.int .i64 18] w (fun e w'=>e=.returned (.bool false)∧w=w'):=Wl 18;rw[show Vh 18=255 from rfl];exact Zy
theorem most_32 (w:World):Calls Tryz.prog 154 #[.int .i64 32] w (Vz (Vh 32) w):=by
 have HO:∀ w:World,Calls Tryz.prog 87 #[.int .i64 32] w (fun e w'=>e=.returned (.bool false)∧w=w'):=Wl 32;rw[show Vh 32=255 from rfl];exact Zy
theorem most_33 (w:World):Calls Tryz.prog 154 #[.int .i64 33] w (Vz (Vh 33) w):=by
 have HO:∀ w:World,Calls Tryz.prog 87 #[.int .i64 33] w (fun e w'=>e=.returned (.bool false)∧w=w'):=Wl 33;rw[show Vh 33=255 from rfl];exact Zy
theorem most_34 (w:World):Calls Tryz.prog 154 #[.int .i64 34] w (Vz (Vh 34) w):=by
 have HO:∀ w:World,Calls Tryz.prog 87 #[.int .i64 34] w (fun e w'=>e=.returned (.bool false)∧w=w'):=Wl 34;rw[show Vh 34=255 from rfl];exact Zy
theorem most_35 (w:World):Calls Tryz.prog 154 #[.int .i64 35] w (Vz (Vh 35) w):=by
 have HO:∀ w:World,Calls Tryz.prog 87 #[.int .i64 35] w (fun e w'=>e=.returned (.bool false)∧w=w'):=Wl 35;rw[show Vh 35=255 from rfl];exact Zy
theorem most_36 (w:World):Calls Tryz.prog 154 #[.int .i64 36] w (Vz (Vh 36) w):=by
 have HO:∀ w:World,Calls Tryz.prog 87 #[.int .i64 36] w (fun e w'=>e=.returned (.bool false)∧w=w'):=Wl 36;rw[show Vh 36=255 from rfl];exact Zy
theorem most_64521 (w:World):Calls Tryz.prog 154 #[.int .i64 64521] w (Vz (Vh 64521) w):=by
 have HO:∀ w:World,Calls Tryz.prog 87 #[.int .i64 64521] w (fun e w'=>e=.returned (.bool false)∧w=w'):=Wl 64521;rw[show Vh 64521=15 from rfl];exact Zy
theorem UV (op:Int) (w:World):Calls Tryz.prog 154 #[.int .i64 op] w (Vz (Vh op) w):=by
 by_cases c2:op=2
 ·rw[c2];exact most_2 w
 by_cases c3:op=3
 ·rw[c3];exact most_3 w
 by_cases c4:op=4
 ·rw[c4];exact most_4 w
 by_cases c12:op=12
 ·rw[c12];exact most_12 w
 by_cases c13:op=13
 ·rw[c13];exact most_13 w
 by_cases c16:op=16
 ·rw[c16];exact most_16 w
 by_cases c18:op=18
 ·rw[c18];exact most_18 w
 by_cases c32:op=32
 ·rw[c32];exact most_32 w
 by_cases c33:op=33
 ·rw[c33];exact most_33 w
 by_cases c34:op=34
 ·rw[c34];exact most_34 w
 by_cases c35:op=35
 ·rw[c35];exact most_35 w
 by_cases c36:op=36
 ·rw[c36];exact most_36 w
 by_cases c64521:op=64521
 ·rw[c64521];exact most_64521 w
 have HO:=Wl op;rw[show WF op=false from decide_eq_false (by omega)]at HO;rw[show Vh op=3 by unfold Vh;rw[if_neg (by omega),if_neg (by omega),if_neg (by omega),if_neg (by omega),if_neg (by omega),if_neg (by omega)]];have d12:(op==12)=false:=by simpa using c12
 have d13:(op==13)=false:=by simpa using c13
 have d16:(op==16)=false:=by simpa using c16
 have d18:(op==18)=false:=by simpa using c18
 have d35:(op==35)=false:=by simpa using c35
 have d36:(op==36)=false:=by simpa using c36
 have d64521:(op==64521)=false:=by simpa using c64521
 have hl:(decide (32≤op)=false)∨(decide (32≤op)=true∧decide (op≤34)=false):=by
  exact ZcP
 clear c2 c3 c4 c12 c13 c16 c18 c32 c33 c34 c35 c36 c64521;rcases hl with l1|⟨l1,l2⟩
 all_goals
  go_enter Tryz.func154,Tryz.ntmps154;go_wp2_with (go_at_call 87;(with_reducible refine(HO _).mono ?_);rintro e w' ⟨rfl,rfl⟩)
  go_ret;exact⟨rfl,rfl⟩
end
section
open Go.RowKit
theorem num_ways (op:Int) (h:WS op=true):op=69∨(70≤op∧op≤79)∨op=80∨(81≤op∧op≤90)∨(97≤op∧op≤102)∨(103≤op∧op≤105)∨(106≤op∧op≤120)∨(121≤op∧op≤123)∨(124≤op∧op≤138)∨(153≤op∧op≤159)∨(160≤op∧op≤166)∨op=167∨op=170∨op=171∨op=172∨op=173∨op=176∨op=177∨op=183∨op=184∨(185≤op∧op≤186)∨op=189∨op=191∨op=192∨op=193∨(194≤op∧op≤196)∨op=64514∨op=64515∨op=64518∨op=64519:=by
 have e:isB op=true∨isF op=true:=by simpa [WS] using h
 rcases e with e|e
 ·have:=of_decide_eq_true e;omega
 ·have:=of_decide_eq_true e;omega
theorem rnum_any (op:Int) (w:World):Calls Tryz.prog 134 #[.int .i64 op] w (WJ op w):=by
 by_cases h:WS op=true
 case neg=>exact rnum_no op (by simpa using h) w
 rcases num_ways op h with rfl|⟨h0,h1⟩|rfl|⟨h0,h1⟩|⟨h0,h1⟩|⟨h0,h1⟩|⟨h0,h1⟩|⟨h0,h1⟩|⟨h0,h1⟩|⟨h0,h1⟩|⟨h0,h1⟩|rfl|rfl|rfl|rfl|rfl|rfl|rfl|rfl|rfl|⟨h0,h1⟩|rfl|rfl|rfl|rfl|⟨h0,h1⟩|rfl|rfl|rfl|rfl
 ·exact rnum_69 w
 ·exact rnum_70 op h0 h1 w
 ·exact rnum_80 w
 ·exact rnum_81 op h0 h1 w
 ·exact rnum_97 op h0 h1 w
 ·exact rnum_103 op h0 h1 w
 ·exact rnum_106 op h0 h1 w
 ·exact rnum_121 op h0 h1 w
 ·exact rnum_124 op h0 h1 w
 ·exact rnum_153 op h0 h1 w
 ·exact rnum_160 op h0 h1 w
 ·exact rnum_167 w
 ·exact rnum_170 w
 ·exact rnum_171 w
 ·exact rnum_172 w
 ·exact rnum_173 w
 ·exact rnum_176 w
 ·exact rnum_177 w
 ·exact rnum_183 w
 ·exact rnum_184 w
 ·exact rnum_185 op h0 h1 w
 ·exact rnum_189 w
 ·exact rnum_191 w
 ·exact rnum_192 w
 ·exact rnum_193 w
 ·exact rnum_194 op h0 h1 w
 ·exact rnum_64514 w
 ·exact rnum_64515 w
 ·exact rnum_64518 w
 ·exact rnum_64519 w
abbrev RNumAt (b:Bool) (w:World) (e:Ending) (w':World):Prop:=∃ ao n c ao' n' c',e=.returned (.tuple #[.slice ao n c,.slice ao' n' c',.bool b])∧Below w.heap.size w w'
theorem rnum_at (op:Int) (b:Bool) (h:WS op=b) (w:World):Calls Tryz.prog 134 #[.int .i64 op] w (RNumAt b w) :=
 (rnum_any op w).mono fun e w' hp=>by
  obtain⟨p,q,rfl,hp,hq,hb⟩:=hp;obtain⟨ao,n,c,rfl⟩:=hp.slice;obtain⟨ao',n',c',rfl⟩:=hq.slice;exact⟨ao,n,c,ao',n',c',by rw[h],hb⟩
end
section
open Go.RowKit
set_option maxHeartbeats 1000000
theorem Zh {P:Prop}(h:P:=by
 have p18:(op==18)=false:=by simp;omega
 have p26:(op==26)=false:=by simp;omega
 have p27:(op==27)=false:=by simp;omega
 have p63:(op==63)=false:=by simp;omega
 have p64:(op==64)=false:=by simp;omega
 go_enter Tryz.func152,Tryz.ntmps152;go_wp2_with (first|(go_at_call 134;refine(HC.out _).mono ?_;rintro e w1 ⟨ao,n,c,ao',n',c',rfl,hb⟩)|(go_at_call 131;refine(HD.out _).mono ?_;rintro e w' ⟨rfl,rfl⟩)|(go_at_call 138;refine(HE.out _).mono ?_;rintro e w' ⟨rfl,rfl⟩))
 go_ret;exact⟨rfl,hb⟩):P:=h
theorem Zx {P:Prop}(h:P:=by
 go_enter Tryz.func152,Tryz.ntmps152;go_wp2_with (first|(go_at_call 134;refine(HC.out _).mono ?_;rintro e w1 ⟨ao,n,c,ao',n',c',rfl,hb⟩)|(go_at_call 131;refine(HD.out _).mono ?_;rintro e w' ⟨rfl,rfl⟩)|(go_at_call 138;refine(HE.out _).mono ?_;rintro e w' ⟨rfl,rfl⟩))
 go_ret;exact⟨rfl,hb⟩):P:=h
theorem ZbC {P:Prop}(h:P:=by
 have d5:decide (op≤5)=false:=by simp;omega
 have d16:decide (op≤16)=false:=by simp;omega
 have d36:decide (op≤36)=false:=by simp;omega
 exact Zh):P:=h
theorem Zcj {P:Prop}(h:P:=by
 have d5:decide (op≤5)=false:=by simp;omega
 have d16:decide (op≤16)=false:=by simp;omega
 exact Zh):P:=h
theorem rknown_num (op:Int) (h:WS op=true) (w:World):Calls Tryz.prog 152 #[.int .i64 op] w (Wh true w):=by
 have C:=fun w=>rnum_at op true h w;have HC:=hD C;clear C h;go_enter Tryz.func152,Tryz.ntmps152;go_wp2_with (go_at_call 134;refine(HC.out _).mono ?_;rintro e w1 ⟨ao,n,c,ao',n',c',rfl,hb⟩)
 go_ret;exact⟨rfl,hb⟩
theorem rknown_acc (op a k:Int) (s d:Bool) (h:WS op=false) (ha:WK op=(a,k,s,d)) (hp:0<a) (w:World):Calls Tryz.prog 152 #[.int .i64 op] w (Wh true w):=by
 have C:=fun w=>rnum_at op false h w;have D:=fun w=>Wn op w;rw[ha]at D;have HC:=hD C;have HD:=hD D;clear C D h ha;go_enter Tryz.func152,Tryz.ntmps152;go_wp2_with (first|(go_at_call 134;refine(HC.out _).mono ?_;rintro e w1 ⟨ao,n,c,ao',n',c',rfl,hb⟩)|(go_at_call 131;refine(HD.out _).mono ?_;rintro e w' ⟨rfl,rfl⟩))
 go_ret;exact⟨rfl,hb⟩
theorem rknown_const (op a k:Int) (s d:Bool) (h:WS op=false) (ha:WK op=(a,k,s,d)) (hp:¬ 0<a) (hc:(WZ op != 0)=true) (w:World):Calls Tryz.prog 152 #[.int .i64 op] w (Wh true w):=by
 have C:=fun w=>rnum_at op false h w;have D:=fun w=>Wn op w;have E:=fun w=>WD op w;rw[ha]at D;generalize WZ op=z at hc E;have HC:=hD C;have HD:=hD D;have HE:=hD E;clear C D E h ha;exact Zx
theorem rknown_yes (op a k:Int) (s d:Bool) (h:WS op=false) (ha:WK op=(a,k,s,d)) (hp:¬ 0<a) (hc:WZ op=0) (g:(0≤op∧op≤5)∨(11≤op∧op≤16)∨op=18∨op=26∨op=27∨(32≤op∧op≤36)∨op=63∨op=64∨(64520≤op∧op≤64523)) (w:World):Calls Tryz.prog 152 #[.int .i64 op] w (Wh true w):=by
 have C:=fun w=>rnum_at op false h w;have D:=fun w=>Wn op w;have E:=fun w=>WD op w;rw[ha]at D;rw[hc]at E;have HC:=hD C;have HD:=hD D;have HE:=hD E;clear C D E h ha hc;rcases g with ⟨h0,h1⟩|⟨h0,h1⟩|rfl|rfl|rfl|⟨h0,h1⟩|rfl|rfl|⟨h0,h1⟩
 ·exact Zh
 ·have d5:decide (op≤5)=false:=by simp;omega
  exact Zh
 ·exact Zx
 ·exact Zx
 ·exact Zx
 ·exact Zcj
 ·exact Zx
 ·exact Zx
 ·exact ZbC
theorem rknown_no (op a k:Int) (s d:Bool) (h:WS op=false) (ha:WK op=(a,k,s,d)) (hp:¬ 0<a) (hc:WZ op=0) (g:op ≤ -1∨(6≤op∧op≤10)∨op=17∨(19≤op∧op≤25)∨(28≤op∧op≤31)∨(37≤op∧op≤62)∨(65≤op∧op≤64519)∨64524≤op) (w:World):Calls Tryz.prog 152 #[.int .i64 op] w (Wh false w):=by
 have C:=fun w=>rnum_at op false h w;have D:=fun w=>Wn op w;have E:=fun w=>WD op w;rw[ha]at D;rw[hc]at E;have HC:=hD C;have HD:=hD D;have HE:=hD E;clear C D E h ha hc;rcases g with h0|⟨h0,h1⟩|rfl|⟨h0,h1⟩|⟨h0,h1⟩|⟨h0,h1⟩|⟨h0,h1⟩|h0
 ·exact Zh
 ·have d5:decide (op≤5)=false:=by simp;omega
  exact Zh
 ·exact Zx
 ·exact Zcj
 ·exact Zcj
 ·exact ZbC
 ·exact ZbC
 ·have d5:decide (op≤5)=false:=by simp;omega
  have d16:decide (op≤16)=false:=by simp;omega
  have d36:decide (op≤36)=false:=by simp;omega
  have d64523:decide (op≤64523)=false:=by simp;omega
  exact Zh
theorem VZ (op:Int) (w:World):Calls Tryz.prog 152 #[.int .i64 op] w (Wh (W9 op) w):=by
 rw[← rknown_eq];by_cases h:WS op=true
 ·rw[show UK op=true by unfold UK;rw[h];rfl];exact rknown_num op h w
 ·replace h:WS op=false:=by simpa using h
  obtain⟨a,k,s,d,ha⟩:∃ a k s d,WK op=(a,k,s,d):=⟨_,_,_,_,rfl⟩;by_cases hp:0<a
  ·rw[show UK op=true by unfold UK;rw[h,ha];simp[hp]];exact rknown_acc op a k s d h ha hp w
  ·by_cases hc:WZ op=0
   ·by_cases g:(0≤op∧op≤5)∨(11≤op∧op≤16)∨op=18∨op=26∨op=27∨(32≤op∧op≤36)∨op=63∨op=64∨(64520≤op∧op≤64523)
    ·rw[show UK op=true by unfold UK;rw[h,ha,hc];simp[hp];omega];exact rknown_yes op a k s d h ha hp hc g w
    ·rw[show UK op=false by unfold UK;rw[h,ha,hc];simp[hp];omega];exact rknown_no op a k s d h ha hp hc (by omega) w
   ·rw[show UK op=true by unfold UK;rw[h,ha];simp[hp,hc]];exact rknown_const op a k s d h ha hp (by simpa using hc) w
end
end Go.Proofs.YtmfpnfdinoofpaaGreatDoor
