/- A part of the proof. -/
import Derived.Test.YtmfpnfdinoofpaaGreatDoorJ10
import Derived.Test.YtmfpnfdinoofpaaGreatDoorJ12
namespace Go.Proofs.YtmfpnfdinoofpaaGreatDoor
open Go.RowKit
set_option maxHeartbeats 2000000
set_option maxRecDepth 100000
theorem ZE {P:Prop}(h:P:=by
 go_enter Tryz.func178,Tryz.ntmps178;go_wp2;exact bodyPost_ret (v:=.agg #[.int .i64 (0),.int .i64 255,.int .i64 0,.int .u64 0,.int .i64 0,.int .i64 0]) (by simp[results,Tryz.results178,go_sem]) rfl ⟨rfl,Wb (bR _ _) _⟩):P:=h
theorem Zbl {P:Prop}(h:P:=by
 go_enter Tryz.func178,Tryz.ntmps178;go_wp2;exact bodyPost_ret (v:=.agg #[.int .i64 (-4),.int .i64 63,.int .i64 0,.int .u64 0,.int .i64 0,.int .i64 0]) (by simp[results,Tryz.results178,go_sem]) rfl ⟨rfl,Wb (bR _ _) _⟩):P:=h
theorem Zbp {P:Prop}(h:P:=by
 go_enter Tryz.func178,Tryz.ntmps178;go_wp2;exact bodyPost_ret (v:=.agg #[.int .i64 (0),.int .i64 3,.int .i64 0,.int .u64 0,.int .i64 0,.int .i64 0]) (by simp[results,Tryz.results178,go_sem]) rfl ⟨rfl,Wb (bR _ _) _⟩):P:=h
theorem Zb2 {P:Prop}(h:P:=by
 go_enter Tryz.func178,Tryz.ntmps178;go_wp2;exact bodyPost_ret (v:=.agg #[.int .i64 (0),.int .i64 0,.int .i64 0,.int .u64 18446744073709551615,.int .i64 0,.int .i64 0]) (by simp[results,Tryz.results178,go_sem]) rfl ⟨rfl,Wb (bR _ _) _⟩):P:=h
theorem Zcc {P:Prop}(h:P:=by
 go_enter Tryz.func178,Tryz.ntmps178;go_wp2;exact bodyPost_ret (v:=.agg #[.int .i64 (0),.int .i64 64,.int .i64 0,.int .u64 0,.int .i64 0,.int .i64 0]) (by simp[results,Tryz.results178,go_sem]) rfl ⟨rfl,Wb (bR _ _) _⟩):P:=h
def Vx (f:Int×Int×Int×Int×Int×Int) (w:World) (e:Ending) (w':World):Prop:=e=.returned (.agg #[.int .i64 f.1,.int .i64 f.2.1,.int .i64 f.2.2.1,.int .u64 f.2.2.2.1,.int .i64 f.2.2.2.2.1,.int .i64 f.2.2.2.2.2])∧Below w.heap.size w w'
def Zero6 (B:Nat) (w:World):Prop:=w.heap[B]?=some (.cells #[.int .i64 0,.int .i64 0,.int .i64 0,.int .u64 0,.int .i64 0,.int .i64 0] 242 (0,0))
theorem Zero6.all {B:Nat} {w:World} (h:Zero6 B w):w.cell? ⟨B,0,none⟩=some (.int .i64 0)∧w.cell? ⟨B,1,none⟩=some (.int .i64 0)∧w.cell? ⟨B,2,none⟩=some (.int .i64 0)∧w.cell? ⟨B,3,none⟩=some (.int .u64 0)∧w.cell? ⟨B,4,none⟩=some (.int .i64 0)∧w.cell? ⟨B,5,none⟩=some (.int .i64 0) ∧
 w.frozen? ⟨B,0,none⟩=false∧w.frozen? ⟨B,1,none⟩=false∧w.frozen? ⟨B,2,none⟩=false∧w.frozen? ⟨B,3,none⟩=false∧w.frozen? ⟨B,4,none⟩=false∧w.frozen? ⟨B,5,none⟩=false:=by
 unfold Zero6 at h;simp[World.cell?,World.frozen?,h]
theorem Zero6.fill {B:Nat} {w:World} (h:Zero6 B w) (a b c d e f:Value):((((((w.setCell ⟨B,0,none⟩ a).setCell ⟨B,1,none⟩ b).setCell ⟨B,2,none⟩ c).setCell ⟨B,3,none⟩ d).setCell ⟨B,4,none⟩ e).setCell ⟨B,5,none⟩ f).heap[B]?=some (.cells #[a,b,c,d,e,f] 242 (0,0)):=by
 have h0:=Wg w B 0 _ _ a h;have h1:=Wg _ B 1 _ _ b h0;have h2:=Wg _ B 2 _ _ c h1;have h3:=Wg _ B 3 _ _ d h2;have h4:=Wg _ B 4 _ _ e h3;have h5:=Wg _ B 5 _ _ f h4;simpa using h5
theorem below_fill6 {w0 w:World} {B:Nat} {a b c d e f:Value} (h:Below w0.heap.size w0 w) (hB:w0.heap.size≤B):Below w0.heap.size w0 ((((((w.setCell ⟨B,0,none⟩ a).setCell ⟨B,1,none⟩ b).setCell ⟨B,2,none⟩ c).setCell ⟨B,3,none⟩ d).setCell ⟨B,4,none⟩ e).setCell ⟨B,5,none⟩ f) :=
 (((((h.setCell (by exact hB) _).setCell (by exact hB) _).setCell (by exact hB) _).setCell (by exact hB) _).setCell (by exact hB) _).setCell (by exact hB) _
theorem fields_2 (w:World):Calls Tryz.prog 178 #[.int .i64 2] w (Vx (Wp 2) w):=by
 rw[show Wp 2=(-4,63,0,0,0,0) by decide +kernel];exact Zbl
theorem fields_3 (w:World):Calls Tryz.prog 178 #[.int .i64 3] w (Vx (Wp 3) w):=by
 rw[show Wp 3=(-4,63,0,0,0,0) by decide +kernel];exact Zbl
theorem fields_4 (w:World):Calls Tryz.prog 178 #[.int .i64 4] w (Vx (Wp 4) w):=by
 rw[show Wp 4=(-4,63,0,0,0,0) by decide +kernel];exact Zbl
theorem fields_12 (w:World):Calls Tryz.prog 178 #[.int .i64 12] w (Vx (Wp 12) w):=by
 rw[show Wp 12=(0,64,0,0,0,0) by decide +kernel];exact Zcc
theorem fields_13 (w:World):Calls Tryz.prog 178 #[.int .i64 13] w (Vx (Wp 13) w):=by
 rw[show Wp 13=(0,64,0,0,0,0) by decide +kernel];exact Zcc
theorem fields_14 (w:World):Calls Tryz.prog 178 #[.int .i64 14] w (Vx (Wp 14) w):=by
 rw[show Wp 14=(0,0,0,0,1,17) by decide +kernel];go_enter Tryz.func178,Tryz.ntmps178;go_wp2;exact bodyPost_ret (v:=.agg #[.int .i64 (0),.int .i64 0,.int .i64 0,.int .u64 0,.int .i64 1,.int .i64 17]) (by simp[results,Tryz.results178,go_sem]) rfl ⟨rfl,Wb (bR _ _) _⟩
theorem fields_16 (w:World):Calls Tryz.prog 178 #[.int .i64 16] w (Vx (Wp 16) w):=by
 rw[show Wp 16=(0,255,0,0,0,0) by decide +kernel];exact ZE
theorem fields_18 (w:World):Calls Tryz.prog 178 #[.int .i64 18] w (Vx (Wp 18) w):=by
 rw[show Wp 18=(0,255,0,0,0,0) by decide +kernel];exact ZE
theorem fields_32 (w:World):Calls Tryz.prog 178 #[.int .i64 32] w (Vx (Wp 32) w):=by
 rw[show Wp 32=(0,255,0,0,0,0) by decide +kernel];exact ZE
theorem fields_33 (w:World):Calls Tryz.prog 178 #[.int .i64 33] w (Vx (Wp 33) w):=by
 rw[show Wp 33=(0,255,0,0,0,0) by decide +kernel];exact ZE
theorem fields_34 (w:World):Calls Tryz.prog 178 #[.int .i64 34] w (Vx (Wp 34) w):=by
 rw[show Wp 34=(0,255,0,0,0,0) by decide +kernel];exact ZE
theorem fields_35 (w:World):Calls Tryz.prog 178 #[.int .i64 35] w (Vx (Wp 35) w):=by
 rw[show Wp 35=(0,255,0,0,0,0) by decide +kernel];exact ZE
theorem fields_36 (w:World):Calls Tryz.prog 178 #[.int .i64 36] w (Vx (Wp 36) w):=by
 rw[show Wp 36=(0,255,0,0,0,0) by decide +kernel];exact ZE
theorem fields_63 (w:World):Calls Tryz.prog 178 #[.int .i64 63] w (Vx (Wp 63) w):=by
 rw[show Wp 63=(0,3,0,0,0,0) by decide +kernel];exact Zbp
theorem fields_64 (w:World):Calls Tryz.prog 178 #[.int .i64 64] w (Vx (Wp 64) w):=by
 rw[show Wp 64=(0,3,0,0,0,0) by decide +kernel];exact Zbp
theorem fields_64523 (w:World):Calls Tryz.prog 178 #[.int .i64 64523] w (Vx (Wp 64523) w):=by
 rw[show Wp 64523=(0,3,0,0,0,0) by decide +kernel];exact Zbp
theorem fields_64520 (w:World):Calls Tryz.prog 178 #[.int .i64 64520] w (Vx (Wp 64520) w):=by
 rw[show Wp 64520=(0,3,15,0,0,0) by decide +kernel];go_enter Tryz.func178,Tryz.ntmps178;go_wp2;exact bodyPost_ret (v:=.agg #[.int .i64 (0),.int .i64 3,.int .i64 15,.int .u64 0,.int .i64 0,.int .i64 0]) (by simp[results,Tryz.results178,go_sem]) rfl ⟨rfl,Wb (bR _ _) _⟩
theorem fields_64521 (w:World):Calls Tryz.prog 178 #[.int .i64 64521] w (Vx (Wp 64521) w):=by
 rw[show Wp 64521=(0,15,0,0,0,0) by decide +kernel];go_enter Tryz.func178,Tryz.ntmps178;go_wp2;exact bodyPost_ret (v:=.agg #[.int .i64 (0),.int .i64 15,.int .i64 0,.int .u64 0,.int .i64 0,.int .i64 0]) (by simp[results,Tryz.results178,go_sem]) rfl ⟨rfl,Wb (bR _ _) _⟩
theorem fields_64522 (w:World):Calls Tryz.prog 178 #[.int .i64 64522] w (Vx (Wp 64522) w):=by
 rw[show Wp 64522=(0,3,3,0,0,0) by decide +kernel];go_enter Tryz.func178,Tryz.ntmps178;go_wp2;exact bodyPost_ret (v:=.agg #[.int .i64 (0),.int .i64 3,.int .i64 3,.int .u64 0,.int .i64 0,.int .i64 0]) (by simp[results,Tryz.results178,go_sem]) rfl ⟨rfl,Wb (bR _ _) _⟩
theorem fields_65 (w:World):Calls Tryz.prog 178 #[.int .i64 65] w (Vx (Wp 65) w):=by
 rw[show Wp 65=(0,0,0,4294967295,0,0) by decide +kernel];go_enter Tryz.func178,Tryz.ntmps178;go_wp2;exact bodyPost_ret (v:=.agg #[.int .i64 (0),.int .i64 0,.int .i64 0,.int .u64 4294967295,.int .i64 0,.int .i64 0]) (by simp[results,Tryz.results178,go_sem]) rfl ⟨rfl,Wb (bR _ _) _⟩
theorem fields_66 (w:World):Calls Tryz.prog 178 #[.int .i64 66] w (Vx (Wp 66) w):=by
 rw[show Wp 66=(0,0,0,18446744073709551615,0,0) by decide +kernel];exact Zb2
theorem fields_68 (w:World):Calls Tryz.prog 178 #[.int .i64 68] w (Vx (Wp 68) w):=by
 rw[show Wp 68=(0,0,0,18446744073709551615,0,0) by decide +kernel];exact Zb2
theorem fields_rest (op:Int) (h:op≠2∧op≠3∧op≠4∧op≠12∧op≠13∧op≠14∧op≠16∧op≠18∧op≠32∧op≠33∧op≠34∧op≠35∧op≠36∧op≠63∧op≠64∧op≠64523∧op≠64520∧op≠64521∧op≠64522∧op≠65∧op≠66∧op≠68):Wp op=if (WK op).2.2.2 then (0,3,0,4294967295,0,0) else (0,0,0,0,0,0):=by
 unfold Wp
 repeat rw[if_neg (by omega)]
theorem fields_any (op:Int) (w:World):Calls Tryz.prog 178 #[.int .i64 op] w (Vx (Wp op) w):=by
 by_cases c2:op=2
 ·rw[c2];exact fields_2 w
 by_cases c3:op=3
 ·rw[c3];exact fields_3 w
 by_cases c4:op=4
 ·rw[c4];exact fields_4 w
 by_cases c12:op=12
 ·rw[c12];exact fields_12 w
 by_cases c13:op=13
 ·rw[c13];exact fields_13 w
 by_cases c14:op=14
 ·rw[c14];exact fields_14 w
 by_cases c16:op=16
 ·rw[c16];exact fields_16 w
 by_cases c18:op=18
 ·rw[c18];exact fields_18 w
 by_cases c32:op=32
 ·rw[c32];exact fields_32 w
 by_cases c33:op=33
 ·rw[c33];exact fields_33 w
 by_cases c34:op=34
 ·rw[c34];exact fields_34 w
 by_cases c35:op=35
 ·rw[c35];exact fields_35 w
 by_cases c36:op=36
 ·rw[c36];exact fields_36 w
 by_cases c63:op=63
 ·rw[c63];exact fields_63 w
 by_cases c64:op=64
 ·rw[c64];exact fields_64 w
 by_cases c64523:op=64523
 ·rw[c64523];exact fields_64523 w
 by_cases c64520:op=64520
 ·rw[c64520];exact fields_64520 w
 by_cases c64521:op=64521
 ·rw[c64521];exact fields_64521 w
 by_cases c64522:op=64522
 ·rw[c64522];exact fields_64522 w
 by_cases c65:op=65
 ·rw[c65];exact fields_65 w
 by_cases c66:op=66
 ·rw[c66];exact fields_66 w
 by_cases c68:op=68
 ·rw[c68];exact fields_68 w
 rw[fields_rest op ⟨c2,c3,c4,c12,c13,c14,c16,c18,c32,c33,c34,c35,c36,c63,c64,c64523,c64520,c64521,c64522,c65,c66,c68⟩];have HA:=hD (fun w=>access_any op w);have d2:(op==2)=false:=by simpa using c2
 have d3:(op==3)=false:=by simpa using c3
 have d4:(op==4)=false:=by simpa using c4
 have d12:(op==12)=false:=by simpa using c12
 have d13:(op==13)=false:=by simpa using c13
 have d14:(op==14)=false:=by simpa using c14
 have d16:(op==16)=false:=by simpa using c16
 have d18:(op==18)=false:=by simpa using c18
 have d32:(op==32)=false:=by simpa using c32
 have d33:(op==33)=false:=by simpa using c33
 have d34:(op==34)=false:=by simpa using c34
 have d35:(op==35)=false:=by simpa using c35
 have d36:(op==36)=false:=by simpa using c36
 have d63:(op==63)=false:=by simpa using c63
 have d64:(op==64)=false:=by simpa using c64
 have d64523:(op==64523)=false:=by simpa using c64523
 have d64520:(op==64520)=false:=by simpa using c64520
 have d64521:(op==64521)=false:=by simpa using c64521
 have d64522:(op==64522)=false:=by simpa using c64522
 have d65:(op==65)=false:=by simpa using c65
 have d66:(op==66)=false:=by simpa using c66
 have d68:(op==68)=false:=by simpa using c68
 clear c2 c3 c4 c12 c13 c14 c16 c18 c32 c33 c34 c35 c36 c63 c64 c64523 c64520 c64521 c64522 c65 c66 c68;generalize WK op=ac at HA ⊢;obtain⟨a1,a2,a3,a4⟩:=ac;unfold AccPost at HA;simp only at HA ⊢;cases a4 with
 | true =>
  rw[if_pos (by rfl)];have hb0:∀ w',Below (w.alloc (.cells #[.int .i64 0,.int .i64 0,.int .i64 0,.int .u64 0,.int .i64 0,.int .i64 0] 242)).heap.size (w.alloc (.cells #[.int .i64 0,.int .i64 0,.int .i64 0,.int .u64 0,.int .i64 0,.int .i64 0] 242)) w'→Zero6 w.heap.size w':=fun w' hb=>(hb.block w.heap.size (by simp)).trans (by simp[World.alloc,-World.alloc_eq]);have HZ:=hD hb0;clear hb0;go_enter Tryz.func178,Tryz.ntmps178;go_wp2_with (go_at_call 119;refine(HA.out _).mono ?_;rintro e w' ⟨rfl,hb⟩;obtain⟨z0,z1,z2,z3,z4,z5,y0,y1,y2,y3,y4,y5⟩:=(HZ.out w' hb).all;have HB:=hD (Wa (Wb (bR w.heap.size w) _) hb);have HF:=hD ((HZ.out w' hb).fill (.int .i64 0) (.int .i64 3) (.int .i64 0) (.int .u64 4294967295) (.int .i64 0) (.int .i64 0));clear hb)
  have hfl:=HF.out;exact bodyPost_ret (v:=.agg #[.int .i64 0,.int .i64 3,.int .i64 0,.int .u64 4294967295,.int .i64 0,.int .i64 0]) (by simp[results,Tryz.results178,go_sem,World.cell?,hfl]) rfl ⟨rfl,below_fill6 HB.out (nR _)⟩
 | false =>
  rw[if_neg (by simp)];have hb0:∀ w',Below (w.alloc (.cells #[.int .i64 0,.int .i64 0,.int .i64 0,.int .u64 0,.int .i64 0,.int .i64 0] 242)).heap.size (w.alloc (.cells #[.int .i64 0,.int .i64 0,.int .i64 0,.int .u64 0,.int .i64 0,.int .i64 0] 242)) w'→Zero6 w.heap.size w':=fun w' hb=>(hb.block w.heap.size (by simp)).trans (by simp[World.alloc,-World.alloc_eq]);have HZ:=hD hb0;clear hb0;go_enter Tryz.func178,Tryz.ntmps178;go_wp2_with (go_at_call 119;refine(HA.out _).mono ?_;rintro e w' ⟨rfl,hb⟩;obtain⟨z0,z1,z2,z3,z4,z5,y0,y1,y2,y3,y4,y5⟩:=(HZ.out w' hb).all;have HB:=hD (Wa (Wb (bR w.heap.size w) _) hb);have HF:=hD ((HZ.out w' hb).fill (.int .i64 0) (.int .i64 0) (.int .i64 0) (.int .u64 0) (.int .i64 0) (.int .i64 0));clear hb)
  have hfl:=HF.out;exact bodyPost_ret (v:=.agg #[.int .i64 0,.int .i64 0,.int .i64 0,.int .u64 0,.int .i64 0,.int .i64 0]) (by simp[results,Tryz.results178,go_sem,World.cell?,hfl]) rfl ⟨rfl,below_fill6 HB.out (nR _)⟩
theorem inst_not (x:Vl) (h:W9 x.op=false):WX x=false:=by unfold WX insB;rw[h];rfl
theorem inst_is (x:Vl) (h:W9 x.op=true):WX x=(inB x.a (Wp x.op).1 (Wp x.op).2.1 && inB x.b 0 (Wp x.op).2.2.1 && decide (x.n≤(Wp x.op).2.2.2.1) && inB (x.l.length:Int) (Wp x.op).2.2.2.2.1 (Wp x.op).2.2.2.2.2 && x.l.all labB):=by unfold WX insB;rw[h,Bool.true_and]
theorem inst_any (K:Nat→Prop) (w:World) (hK:∀ k,K k→k<w.heap.size) (x:Vl) (Lv:Value) (hL:Wf K w Lv x.l):Calls Tryz.prog 149 #[.agg #[.int .i64 x.op,.int .i64 x.a,.int .i64 x.b,.int .u64 x.n,Lv]] w (Wh (WX x) w):=by
 obtain⟨A,c,hv,hm,_⟩:=hL.form;unfold maxLen at hm;have HL:=hD (fun wz (hb:Below w.heap.size w wz)=>labs_any (fun k=>k<wz.heap.size) wz (fun k hk=>hk) Lv x.l (hL.keep (We.below hb hK) fun k hk=>Ve (hK k hk) hb.size));rw[hv]at HL ⊢;clear hL hv;have HKN:=hD (fun wz=>known_any x.op wz);have HFD:=hD (fun wz=>fields_any x.op wz);have HIS:=hD (inst_is x);have HNT:=hD (inst_not x);obtain⟨op,a,b,n,l⟩:=x;simp only at HL HKN HFD HIS HNT hm ⊢;obtain⟨kb,hkb⟩:∃ b,W9 op=b:=⟨_,rfl⟩;rw[hkb]at HKN HIS HNT;generalize WX ⟨op,a,b,n,l⟩=R at HIS HNT ⊢;generalize Wp op=f at HFD HIS;obtain⟨f1,f2,f3,f4,f5,f6⟩:=f;unfold Vx at HFD;simp only at HFD HIS;generalize l.all labB=b5 at HL HIS;generalize l.length=nl at HL HIS hm ⊢;have H1:=hD (fun wz=>inB_pure a f1 f2 wz);have H2:=hD (fun wz=>inB_pure b 0 f3 wz);have H4:=hD (fun wz=>inB_pure (nl:Int) f5 f6 wz);generalize inB a f1 f2=b1 at H1 HIS;generalize inB b 0 f3=b2 at H2 HIS;generalize inB (nl:Int) f5 f6=b4 at H4 HIS;obtain⟨b3,hb3⟩:∃ b,decide (n≤f4)=b:=⟨_,rfl⟩;rw[hb3]at HIS;clear hkb;have HB1:=hD ((bR w.heap.size w).alloc (nR _) (.cells #[.int .i64 op,.int .i64 a,.int .i64 b,.int .u64 n,.slice A nl c] 25));have HC:Hid (∀ wz,Below (w.alloc (.cells #[.int .i64 op,.int .i64 a,.int .i64 b,.int .u64 n,.slice A nl c] 25)).heap.size (w.alloc (.cells #[.int .i64 op,.int .i64 a,.int .i64 b,.int .u64 n,.slice A nl c] 25)) wz→wz.cell? ⟨w.heap.size,0,none⟩=some (.int .i64 op)∧wz.cell? ⟨w.heap.size,1,none⟩=some (.int .i64 a)∧wz.cell? ⟨w.heap.size,2,none⟩=some (.int .i64 b)∧wz.cell? ⟨w.heap.size,3,none⟩=some (.int .u64 n)∧wz.cell? ⟨w.heap.size,4,none⟩=some (.slice A nl c)):=hD fun wz hb=>by
  have h9:∀ i,wz.cell? ⟨w.heap.size,i,none⟩=(#[.int .i64 op,.int .i64 a,.int .i64 b,.int .u64 n,.slice A nl c]:Array Value)[i]?:=fun i=>(hb.cell (p:=⟨w.heap.size,i,none⟩) (by simp)).trans (wN w _ _ i);exact⟨h9 0,h9 1,h9 2,h9 3,h9 4⟩
 go_enter Tryz.func149,Tryz.ntmps149;go_wp2_with fail
 generalize w.alloc (.cells #[.int .i64 op,.int .i64 a,.int .i64 b,.int .u64 n,.slice A nl c] 25)=w1 at HB1 HC ⊢;go_at_call 114;refine(HKN.out w1).mono ?_;rintro e w2 ⟨rfl,hb2⟩;cases kb with
 | false =>
  have HR:=hD (HNT.out rfl);have HB2:=hD (Wa HB1.out hb2);clear hb2 HNT HIS;go_wp2;go_ret;exact⟨WV (by rw[HR.out]),HB2.out⟩
 | true =>
  have HR:=hD (HIS.out rfl);have HB12:=hD hb2;obtain⟨k0,k1,k2,k3,k4⟩:=HC.out w2 hb2;clear hb2 HNT HIS HKN;go_wp2_with fail
  go_at_call 178;refine(HFD.out w2).mono ?_;rintro e w3 ⟨rfl,hb3'⟩;have HB13:=hD (Wa HB12.out hb3');clear hb3' HFD k0 k1 k2 k3 k4;obtain⟨k0,k1,k2,k3,k4⟩:=HC.out _ (Wb HB13.out (.cells #[.int .i64 f1,.int .i64 f2,.int .i64 f3,.int .u64 f4,.int .i64 f5,.int .i64 f6] 242));have HB4:=hD (Wa HB1.out (Wb HB13.out (.cells #[.int .i64 f1,.int .i64 f2,.int .i64 f3,.int .u64 f4,.int .i64 f5,.int .i64 f6] 242)));have HL4:=hD (HL.out _ HB4.out);have hN:∀ i,(w3.alloc (.cells #[.int .i64 f1,.int .i64 f2,.int .i64 f3,.int .u64 f4,.int .i64 f5,.int .i64 f6] 242)).cell? ⟨w3.heap.size,i,none⟩=(#[.int .i64 f1,.int .i64 f2,.int .i64 f3,.int .u64 f4,.int .i64 f5,.int .i64 f6]:Array Value)[i]?:=fun i=>wN w3 _ _ i;have m0:=hN 0;have m1:=hN 1;have m2:=hN 2;have m3:=hN 3;have m4:=hN 4;have m5:=hN 5;simp only[List.getElem?_toArray,List.getElem?_cons_zero,List.getElem?_cons_succ]at m0 m1 m2 m3 m4 m5;clear hN HB13 HB12 HC HB1 HL
  go_upto_region 4 with (fail)
  generalize w3.heap.size=D at *;generalize w3.alloc (.cells #[.int .i64 f1,.int .i64 f2,.int .i64 f3,.int .u64 f4,.int .i64 f5,.int .i64 f6] 242)=w4 at *;cases b1 <;> cases b2 <;> cases b3 <;> cases b4
  all_goals
   go_wp2_with (first|(go_at_call 105;(with_reducible refine(H1.out _).mono ?_);rintro e w' ⟨rfl,rfl⟩)|(go_at_call 105;(with_reducible refine(H2.out _).mono ?_);rintro e w' ⟨rfl,rfl⟩)|(go_at_call 105;(with_reducible refine(H4.out _).mono ?_);rintro e w' ⟨rfl,rfl⟩)|(go_at_call 179;refine HL4.out.mono ?_;rintro e w5 ⟨rfl,hb5⟩;have HB5:=hD (Wa HB4.out hb5);clear hb5))
   go_ret;first|exact⟨WV (by rw[HR.out];rfl),HB4.out⟩|exact⟨WV (by rw[HR.out];simp),HB5.out⟩
end Go.Proofs.YtmfpnfdinoofpaaGreatDoor
