/- A part of the proof. -/
import Derived.Test.YtgmgcadlkebokaaGreatDoorJ38
namespace Go.Proofs.YtgmgcadlkebokaaGreatDoor
open Go.RowKit
set_option maxHeartbeats 16000000
set_option maxRecDepth 100000
theorem Ze {P:Prop}(h:P:=by
 have HF9:=hD (HNE.out (by simp));clear HYE HNE;have HF:=hD (show R=false by rw[HR.out,HF9.out];simp);clear HF9;refine wp_region_held_drew (S:=fun wz=>Below w0.heap.size w0 wz) (by kernel_rfl) ((bR _ _).drew) (fun hS=>?_);show wpAnyH _ _ _ _ _ 45 #[false,false,false,false,false,false,false,false,false,false,false,false,false,false,false,false,false,false,false,false,false,false,false,false,false,false,false,false,false,false,false,false,false,false,false,false,false,false,false,false,false,false,false,false,false] _ _;first|refine mT 0 121 rfl hS ?_|refine mN 0 121 rfl hS ?_
 first|refine mT 1 122 rfl hS ?_ (hy:=by intro wS hSw;obtain⟨s0,s1,s2,s3,s4,s5,s6,s7⟩:=HFC.out wS hSw;go_simp;try with_reducible rfl)|refine mN 1 122 rfl hS ?_
 first|refine mT 2 123 rfl hS ?_|refine mN 2 123 rfl hS ?_
 first|refine mT 3 124 rfl hS ?_|refine mN 3 124 rfl hS ?_
 first|refine mT 4 125 rfl hS ?_|refine mN 4 125 rfl hS ?_
 first|refine mT 5 126 rfl hS ?_ (hy:=by intro wS hSw;obtain⟨s0,s1,s2,s3,s4,s5,s6,s7⟩:=HFC.out wS hSw;go_simp;try with_reducible rfl)|refine mN 5 126 rfl hS ?_
 first|refine mT 6 127 rfl hS ?_|refine mN 6 127 rfl hS ?_
 first|refine mT 7 128 rfl hS ?_ (hy:=by intro wS hSw;obtain⟨s0,s1,s2,s3,s4,s5,s6,s7⟩:=HFC.out wS hSw;go_simp;try with_reducible rfl)|refine mN 7 128 rfl hS ?_
 first|refine mT 8 129 rfl hS ?_|refine mN 8 129 rfl hS ?_
 first|refine mT 9 130 rfl hS ?_|refine mN 9 130 rfl hS ?_
 first|refine mT 10 131 rfl hS ?_|refine mN 10 131 rfl hS ?_
 first|refine mT 11 132 rfl hS ?_ (hy:=by intro wS hSw;obtain⟨s0,s1,s2,s3,s4,s5,s6,s7⟩:=HFC.out wS hSw;go_simp;try with_reducible rfl)|refine mN 11 132 rfl hS ?_
 first|refine mT 12 133 rfl hS ?_|refine mN 12 133 rfl hS ?_
 first|refine mT 13 134 rfl hS ?_|refine mN 13 134 rfl hS ?_
 first|refine mT 14 135 rfl hS ?_|refine mN 14 135 rfl hS ?_
 first|refine mT 15 136 rfl hS ?_ (hy:=by intro wS hSw;obtain⟨s0,s1,s2,s3,s4,s5,s6,s7⟩:=HFC.out wS hSw;go_simp;try with_reducible rfl)|refine mN 15 136 rfl hS ?_
 first|refine mT 16 137 rfl hS ?_|refine mN 16 137 rfl hS ?_
 first|refine mT 17 138 rfl hS ?_|refine mN 17 138 rfl hS ?_
 first|refine mT 18 139 rfl hS ?_|refine mN 18 139 rfl hS ?_
 first|refine mT 19 140 rfl hS ?_ (hy:=by intro wS hSw;obtain⟨s0,s1,s2,s3,s4,s5,s6,s7⟩:=HFC.out wS hSw;go_simp;try with_reducible rfl)|refine mN 19 140 rfl hS ?_
 first|refine mT 20 141 rfl hS ?_|refine mN 20 141 rfl hS ?_
 first|refine mT 21 142 rfl hS ?_ (hy:=by intro wS hSw;obtain⟨s0,s1,s2,s3,s4,s5,s6,s7⟩:=HFC.out wS hSw;go_simp;try with_reducible rfl)|refine mN 21 142 rfl hS ?_
 first|refine mT 22 143 rfl hS ?_|refine mN 22 143 rfl hS ?_
 first|refine mT 23 144 rfl hS ?_|refine mN 23 144 rfl hS ?_
 first|refine mT 24 145 rfl hS ?_|refine mN 24 145 rfl hS ?_
 first|refine mT 25 146 rfl hS ?_ (hy:=by intro wS hSw;obtain⟨s0,s1,s2,s3,s4,s5,s6,s7⟩:=HFC.out wS hSw;go_simp;try with_reducible rfl)|refine mN 25 146 rfl hS ?_
 refine mR 26 147 rfl fun K hK=>?_;first|(go_simp;go_at_call 46;refine(C1.out _ hS).mono ?_;rintro e wq ⟨rfl,hwq⟩;go_wp2_with fail;refine hK.out _ _ (Wa hS hwq) (fun hS'=>?_);clear hK K hS hwq;have hS:=hS';clear hS';try simp only[sA,List.set])|(go_simp;refine hK.out _ _ hS (fun _=>?_);clear hK K)
 first|refine mT 27 148 rfl hS ?_|refine mN 27 148 rfl hS ?_
 first|refine mT 28 149 rfl hS ?_|refine mN 28 149 rfl hS ?_
 first|refine mT 29 150 rfl hS ?_|refine mN 29 150 rfl hS ?_
 first|refine mT 30 151 rfl hS ?_|refine mN 30 151 rfl hS ?_
 first|refine mT 31 152 rfl hS ?_ (hy:=by intro wS hSw;obtain⟨s0,s1,s2,s3,s4,s5,s6,s7⟩:=HFC.out wS hSw;go_simp;try with_reducible rfl)|refine mN 31 152 rfl hS ?_
 first|refine mT 32 153 rfl hS ?_|refine mN 32 153 rfl hS ?_
 first|refine mT 33 154 rfl hS ?_|refine mN 33 154 rfl hS ?_
 first|refine mT 34 155 rfl hS ?_|refine mN 34 155 rfl hS ?_
 first|refine mT 35 156 rfl hS ?_ (hy:=by intro wS hSw;obtain⟨s0,s1,s2,s3,s4,s5,s6,s7⟩:=HFC.out wS hSw;go_simp;try with_reducible rfl)|refine mN 35 156 rfl hS ?_
 first|refine mT 36 157 rfl hS ?_|refine mN 36 157 rfl hS ?_
 first|refine mT 37 158 rfl hS ?_ (hy:=by intro wS hSw;obtain⟨s0,s1,s2,s3,s4,s5,s6,s7⟩:=HFC.out wS hSw;go_simp;try with_reducible rfl)|refine mN 37 158 rfl hS ?_
 first|refine mT 38 159 rfl hS ?_|refine mN 38 159 rfl hS ?_
 first|refine mT 39 160 rfl hS ?_|refine mN 39 160 rfl hS ?_
 first|refine mT 40 161 rfl hS ?_|refine mN 40 161 rfl hS ?_
 first|refine mT 41 162 rfl hS ?_ (hy:=by intro wS hSw;obtain⟨s0,s1,s2,s3,s4,s5,s6,s7⟩:=HFC.out wS hSw;go_simp;try with_reducible rfl)|refine mN 41 162 rfl hS ?_
 refine mR 42 163 rfl fun K hK=>?_;first|(go_simp;go_at_call 47;refine(C2.out _ hS).mono ?_;rintro e wq ⟨rfl,hwq⟩;go_wp2_with fail;refine hK.out _ _ (Wa hS hwq) (fun hS'=>?_);clear hK K hS hwq;have hS:=hS';clear hS';try simp only[sA,List.set])|(go_simp;refine hK.out _ _ hS (fun _=>?_);clear hK K)
 first|refine mT 43 164 rfl hS ?_|refine mN 43 164 rfl hS ?_
 first|refine mT 44 165 rfl hS ?_|refine mN 44 165 rfl hS ?_
 refine wpAnyH_done (by kernel_rfl) ?_ _;go_wp2;go_ret;exact⟨WA (by rw[HF.out]),Wa HBW.out (Wa HB.out hS)⟩):P:=h
theorem Zbv {P:Prop}(h:P:=by
 go_wp2;go_ret;exact⟨WA (by rw[HF.out]),HBW.out⟩):P:=h
theorem rtypes_e (w:World) (p1 r1 p2 r2:Value) (a1 b1 a2 b2:List Int) (hp1:Wh (fun k=>k<w.heap.size) w p1 a1) (hr1:Wh (fun k=>k<w.heap.size) w r1 b1) (hp2:Wh (fun k=>k<w.heap.size) w p2 a2) (hr2:Wh (fun k=>k<w.heap.size) w r2 b2) :
 Calls Tryz.prog 25 #[.agg #[p1,r1],.agg #[p2,r2]] w (Wj (Vu a1 a2 && Vu b1 b2) w):=by
 have h:=rtypes_is w p1 r1 p2 r2 a1 b1 a2 b2 hp1 hr1 hp2 hr2
 rwa [show decide (a1=a2∧b1=b2)=(Vu a1 a2 && Vu b1 b2) by unfold Vu;by_cases h0:a1=a2 <;> by_cases h1:b1=b2 <;> simp[h0,h1]]at h
theorem dsame_any (w:World) (v1 v2:Mv) (m o:Vz) (h1:WL (fun k=>k<w.heap.size) w v1 m) (h2:WL (fun k=>k<w.heap.size) w v2 o):Calls Tryz.prog 10 #[.agg v1.cells,.agg v2.cells] w (Wj (sameB m o) w):=by
 have H1:=hD (fun wz (hb:Below w.heap.size w wz)=>(show WL (fun k=>k<wz.heap.size) wz v1 m from h1.keep (We.below hb fun _ hk=>hk) fun _ hk=>WK hk hb.size));have H2:=hD (fun wz (hb:Below w.heap.size w wz)=>(show WL (fun k=>k<wz.heap.size) wz v2 o from h2.keep (We.below hb fun _ hk=>hk) fun _ hk=>WK hk hb.size));have HR:Hid (sameB m o=(Ww typE ([],[]) m.types o.types && Ww impE (ByteArray.empty,ByteArray.empty,0) m.imps o.imps && Ww fncE WW m.funs o.funs && Ww UC (0,0) m.mems o.mems && Ww VJ (0,false,0) m.globs o.globs && Ww UA (ByteArray.empty,0,0) m.exps o.exps && Ww UB VC m.datas o.datas && Ww UE (ByteArray.empty,[]) m.cus o.cus)):=hD rfl;have HB99:Hid (restB m o=(Ww UC (0,0) m.mems o.mems && Ww VJ (0,false,0) m.globs o.globs && Ww UA (ByteArray.empty,0,0) m.exps o.exps && Ww UB VC m.datas o.datas && Ww UE (ByteArray.empty,[]) m.cus o.cus)):=hD rfl;generalize sameB m o=R at HR ⊢;have HL0:=hD (fun (h:m.types.length≠o.types.length)=>WQ (e:=typE) (d:=([],[])) h);have HN0:=hD (fun (n j:Nat) (hn:m.types.length=n) (hj:j<n) (h:typE (m.types.getD j ([],[])) (o.types.getD j ([],[]))=false)=>W6 (e:=typE) hn hj h);have HY0:=hD (fun (n:Nat) (hn:m.types.length=n) (hm:o.types.length=n) (h:UI typE ([],[]) m.types o.types n)=>VA (e:=typE) hn hm h);generalize Ww typE ([],[]) m.types o.types=b0 at HR HL0 HN0 HY0;have HL1:=hD (fun (h:m.imps.length≠o.imps.length)=>WQ (e:=impE) (d:=(ByteArray.empty,ByteArray.empty,0)) h);have HN1:=hD (fun (n j:Nat) (hn:m.imps.length=n) (hj:j<n) (h:impE (m.imps.getD j (ByteArray.empty,ByteArray.empty,0)) (o.imps.getD j (ByteArray.empty,ByteArray.empty,0))=false)=>W6 (e:=impE) hn hj h);have HY1:=hD (fun (n:Nat) (hn:m.imps.length=n) (hm:o.imps.length=n) (h:UI impE (ByteArray.empty,ByteArray.empty,0) m.imps o.imps n)=>VA (e:=impE) hn hm h);generalize Ww impE (ByteArray.empty,ByteArray.empty,0) m.imps o.imps=b1 at HR HL1 HN1 HY1;have HL2:=hD (fun (h:m.funs.length≠o.funs.length)=>WQ (e:=fncE) (d:=WW) h);have HN2:=hD (fun (n j:Nat) (hn:m.funs.length=n) (hj:j<n) (h:fncE (m.funs.getD j WW) (o.funs.getD j WW)=false)=>W6 (e:=fncE) hn hj h);have HY2:=hD (fun (n:Nat) (hn:m.funs.length=n) (hm:o.funs.length=n) (h:UI fncE WW m.funs o.funs n)=>VA (e:=fncE) hn hm h);generalize Ww fncE WW m.funs o.funs=b2 at HR HL2 HN2 HY2;have HL3:=hD (fun (h:m.mems.length≠o.mems.length)=>WQ (e:=UC) (d:=(0,0)) h);have HN3:=hD (fun (n j:Nat) (hn:m.mems.length=n) (hj:j<n) (h:UC (m.mems.getD j (0,0)) (o.mems.getD j (0,0))=false)=>W6 (e:=UC) hn hj h);have HY3:=hD (fun (n:Nat) (hn:m.mems.length=n) (hm:o.mems.length=n) (h:UI UC (0,0) m.mems o.mems n)=>VA (e:=UC) hn hm h);generalize Ww UC (0,0) m.mems o.mems=b3 at HR HL3 HN3 HY3 HB99;have HL4:=hD (fun (h:m.globs.length≠o.globs.length)=>WQ (e:=VJ) (d:=(0,false,0)) h);have HN4:=hD (fun (n j:Nat) (hn:m.globs.length=n) (hj:j<n) (h:VJ (m.globs.getD j (0,false,0)) (o.globs.getD j (0,false,0))=false)=>W6 (e:=VJ) hn hj h);have HY4:=hD (fun (n:Nat) (hn:m.globs.length=n) (hm:o.globs.length=n) (h:UI VJ (0,false,0) m.globs o.globs n)=>VA (e:=VJ) hn hm h);generalize Ww VJ (0,false,0) m.globs o.globs=b4 at HR HL4 HN4 HY4 HB99;have HL5:=hD (fun (h:m.exps.length≠o.exps.length)=>WQ (e:=UA) (d:=(ByteArray.empty,0,0)) h);have HN5:=hD (fun (n j:Nat) (hn:m.exps.length=n) (hj:j<n) (h:UA (m.exps.getD j (ByteArray.empty,0,0)) (o.exps.getD j (ByteArray.empty,0,0))=false)=>W6 (e:=UA) hn hj h);have HY5:=hD (fun (n:Nat) (hn:m.exps.length=n) (hm:o.exps.length=n) (h:UI UA (ByteArray.empty,0,0) m.exps o.exps n)=>VA (e:=UA) hn hm h);generalize Ww UA (ByteArray.empty,0,0) m.exps o.exps=b5 at HR HL5 HN5 HY5 HB99;have HL6:=hD (fun (h:m.datas.length≠o.datas.length)=>WQ (e:=UB) (d:=VC) h);have HN6:=hD (fun (n j:Nat) (hn:m.datas.length=n) (hj:j<n) (h:UB (m.datas.getD j VC) (o.datas.getD j VC)=false)=>W6 (e:=UB) hn hj h);have HY6:=hD (fun (n:Nat) (hn:m.datas.length=n) (hm:o.datas.length=n) (h:UI UB VC m.datas o.datas n)=>VA (e:=UB) hn hm h);generalize Ww UB VC m.datas o.datas=b6 at HR HL6 HN6 HY6 HB99;have HL7:=hD (fun (h:m.cus.length≠o.cus.length)=>WQ (e:=UE) (d:=(ByteArray.empty,[])) h);have HN7:=hD (fun (n j:Nat) (hn:m.cus.length=n) (hj:j<n) (h:UE (m.cus.getD j (ByteArray.empty,[])) (o.cus.getD j (ByteArray.empty,[]))=false)=>W6 (e:=UE) hn hj h);have HY7:=hD (fun (n:Nat) (hn:m.cus.length=n) (hm:o.cus.length=n) (h:UI UE (ByteArray.empty,[]) m.cus o.cus n)=>VA (e:=UE) hn hm h);generalize Ww UE (ByteArray.empty,[]) m.cus o.cus=b7 at HR HL7 HN7 HY7 HB99;obtain⟨A0,c0,A1,c1,A2,c2,A3,c3,A4,c4,A5,c5,A6,c6,A7,c7,rfl⟩:=WI h1;obtain⟨B0,e0,B1,e1,B2,e2,B3,e3,B4,e4,B5,e5,B6,e6,B7,e7,rfl⟩:=WI h2;simp only[Mv.cells];have lm0:m.types.length≤maxLen:=(Wb.form h1.types).elim fun _ h=>h.elim fun _ h=>Nat.le_trans h.2.1 h.2.2;unfold maxLen at lm0;have lm1:m.imps.length≤maxLen:=(Wb.form h1.imps).elim fun _ h=>h.elim fun _ h=>Nat.le_trans h.2.1 h.2.2;unfold maxLen at lm1;have lm2:m.funs.length≤maxLen:=(Wb.form h1.funs).elim fun _ h=>h.elim fun _ h=>Nat.le_trans h.2.1 h.2.2;unfold maxLen at lm2;have lm3:m.mems.length≤maxLen:=(Wb.form h1.mems).elim fun _ h=>h.elim fun _ h=>Nat.le_trans h.2.1 h.2.2;unfold maxLen at lm3;have lm4:m.globs.length≤maxLen:=(Wb.form h1.globs).elim fun _ h=>h.elim fun _ h=>Nat.le_trans h.2.1 h.2.2;unfold maxLen at lm4;have lm5:m.exps.length≤maxLen:=(Wb.form h1.exps).elim fun _ h=>h.elim fun _ h=>Nat.le_trans h.2.1 h.2.2;unfold maxLen at lm5;have lm6:m.datas.length≤maxLen:=(Wb.form h1.datas).elim fun _ h=>h.elim fun _ h=>Nat.le_trans h.2.1 h.2.2;unfold maxLen at lm6;have lm7:m.cus.length≤maxLen:=(Wb.form h1.cus).elim fun _ h=>h.elim fun _ h=>Nat.le_trans h.2.1 h.2.2;unfold maxLen at lm7;clear h1 h2;obtain⟨n0,hn0⟩:∃ n,m.types.length=n:=⟨_,rfl⟩;obtain⟨k0,hk0⟩:∃ n,o.types.length=n:=⟨_,rfl⟩;rw[hn0,hk0];rw[hn0]at lm0;have HQ0:=hD hn0;have HK0:=hD hk0;clear hn0 hk0;obtain⟨n1,hn1⟩:∃ n,m.imps.length=n:=⟨_,rfl⟩;obtain⟨k1,hk1⟩:∃ n,o.imps.length=n:=⟨_,rfl⟩;rw[hn1,hk1];rw[hn1]at lm1;have HQ1:=hD hn1;have HK1:=hD hk1;clear hn1 hk1;obtain⟨n2,hn2⟩:∃ n,m.funs.length=n:=⟨_,rfl⟩;obtain⟨k2,hk2⟩:∃ n,o.funs.length=n:=⟨_,rfl⟩;rw[hn2,hk2];rw[hn2]at lm2;have HQ2:=hD hn2;have HK2:=hD hk2;clear hn2 hk2;obtain⟨n3,hn3⟩:∃ n,m.mems.length=n:=⟨_,rfl⟩;obtain⟨k3,hk3⟩:∃ n,o.mems.length=n:=⟨_,rfl⟩;rw[hn3,hk3];rw[hn3]at lm3;have HQ3:=hD hn3;have HK3:=hD hk3;clear hn3 hk3;obtain⟨n4,hn4⟩:∃ n,m.globs.length=n:=⟨_,rfl⟩;obtain⟨k4,hk4⟩:∃ n,o.globs.length=n:=⟨_,rfl⟩;rw[hn4,hk4];rw[hn4]at lm4;have HQ4:=hD hn4;have HK4:=hD hk4;clear hn4 hk4;obtain⟨n5,hn5⟩:∃ n,m.exps.length=n:=⟨_,rfl⟩;obtain⟨k5,hk5⟩:∃ n,o.exps.length=n:=⟨_,rfl⟩;rw[hn5,hk5];rw[hn5]at lm5;have HQ5:=hD hn5;have HK5:=hD hk5;clear hn5 hk5;obtain⟨n6,hn6⟩:∃ n,m.datas.length=n:=⟨_,rfl⟩;obtain⟨k6,hk6⟩:∃ n,o.datas.length=n:=⟨_,rfl⟩;rw[hn6,hk6];rw[hn6]at lm6;have HQ6:=hD hn6;have HK6:=hD hk6;clear hn6 hk6;obtain⟨n7,hn7⟩:∃ n,m.cus.length=n:=⟨_,rfl⟩;obtain⟨k7,hk7⟩:∃ n,o.cus.length=n:=⟨_,rfl⟩;rw[hn7,hk7];rw[hn7]at lm7;have HQ7:=hD hn7;have HK7:=hD hk7;clear hn7 hk7;have HDR:=hD (fun wz (hb:Below w.heap.size w wz) hl=>dsrest_any wz _ _ m o (H1.out wz hb) (H2.out wz hb) hl);have HRR:Hid (restB m o=(b3 && b4 && b5 && b6 && b7)):=hD HB99.out;obtain⟨W,hW⟩:∃ W,W=w.alloc (.cells #[.slice A0 n0 c0,.slice A1 n1 c1,.slice A2 n2 c2,.slice A3 n3 c3,.slice A4 n4 c4,.slice A5 n5 c5,.slice A6 n6 c6,.slice A7 n7 c7] 36):=⟨_,rfl⟩;obtain⟨W2,hW2⟩:∃ W2,W2=W.alloc (.cells #[.slice B0 k0 e0,.slice B1 k1 e1,.slice B2 k2 e2,.slice B3 k3 e3,.slice B4 k4 e4,.slice B5 k5 e5,.slice B6 k6 e6,.slice B7 k7 e7] 36):=⟨_,rfl⟩;have hb1:Below w.heap.size w W:=by rw[hW];exact(bR _ _).alloc (nR _) _
 have hb2:Below W.heap.size W W2:=by rw[hW2];exact(bR _ _).alloc (nR _) _
 have hs:W.heap.size=w.heap.size+1:=by rw[hW];simp
 have HX1:=hD (fun wz (hb:Below W2.heap.size W2 wz)=>(show Box8 wz w.heap.size (.slice A0 n0 c0) (.slice A1 n1 c1) (.slice A2 n2 c2) (.slice A3 n3 c3) (.slice A4 n4 c4) (.slice A5 n5 c5) (.slice A6 n6 c6) (.slice A7 n7 c7) from by have hb:=Wa hb2 hb;subst hW;exact Vb w (.slice A0 n0 c0) (.slice A1 n1 c1) (.slice A2 n2 c2) (.slice A3 n3 c3) (.slice A4 n4 c4) (.slice A5 n5 c5) (.slice A6 n6 c6) (.slice A7 n7 c7) hb));have HX2:=hD (fun wz (hb:Below W2.heap.size W2 wz)=>(show Box8 wz (w.heap.size+1) (.slice B0 k0 e0) (.slice B1 k1 e1) (.slice B2 k2 e2) (.slice B3 k3 e3) (.slice B4 k4 e4) (.slice B5 k5 e5) (.slice B6 k6 e6) (.slice B7 k7 e7) from by rw[← hs];subst hW2;exact Vb W (.slice B0 k0 e0) (.slice B1 k1 e1) (.slice B2 k2 e2) (.slice B3 k3 e3) (.slice B4 k4 e4) (.slice B5 k5 e5) (.slice B6 k6 e6) (.slice B7 k7 e7) hb));have HBW:=hD (Wa hb1 hb2);clear hb1 hb2 hs;go_enter Tryz.func10,Tryz.ntmps10
 go_upto_region 1 with (fail)
 rw[← hW,← hW2];clear hW hW2;simp only[List.append_eq,List.cons_append,List.nil_append];have HB:Hid (Below W2.heap.size W2 W2):=hD (bR _ _);obtain⟨x0,x1,x2,x3,x4,x5,x6,x7⟩:=HX1.out W2 HB.out;obtain⟨y0,y1,y2,y3,y4,y5,y6,y7⟩:=HX2.out W2 HB.out;by_cases hq0:n0=k0
 rotate_left
 ·have hd0:((n0:Int) != (k0:Int))=true:=by simp;omega
  have HF:=hD (show R=false by rw[HR.out,HL0.out (by rw[HQ0.out,HK0.out];exact hq0)];simp);clear hq0;exact Zbv
 subst hq0;have hd0:((n0:Int) != (n0:Int))=false:=by simp
 by_cases hq1:n1=k1
 rotate_left
 ·have hd1:((n1:Int) != (k1:Int))=true:=by simp;omega
  have HF:=hD (show R=false by rw[HR.out,HL1.out (by rw[HQ1.out,HK1.out];exact hq1)];simp);clear hq1;exact Zbv
 subst hq1;have hd1:((n1:Int) != (n1:Int))=false:=by simp
 by_cases hq2:n2=k2
 rotate_left
 ·have hd2:((n2:Int) != (k2:Int))=true:=by simp;omega
  have HF:=hD (show R=false by rw[HR.out,HL2.out (by rw[HQ2.out,HK2.out];exact hq2)];simp);clear hq2;exact Zbv
 subst hq2;have hd2:((n2:Int) != (n2:Int))=false:=by simp
 by_cases hq3:n3=k3
 rotate_left
 ·have hd3:((n3:Int) != (k3:Int))=true:=by simp;omega
  have HF:=hD (show R=false by rw[HR.out,HL3.out (by rw[HQ3.out,HK3.out];exact hq3)];simp);clear hq3;exact Zbv
 subst hq3;have hd3:((n3:Int) != (n3:Int))=false:=by simp
 by_cases hq4:n4=k4
 rotate_left
 ·have hd4:((n4:Int) != (k4:Int))=true:=by simp;omega
  have HF:=hD (show R=false by rw[HR.out,HL4.out (by rw[HQ4.out,HK4.out];exact hq4)];simp);clear hq4;exact Zbv
 subst hq4;have hd4:((n4:Int) != (n4:Int))=false:=by simp
 by_cases hq5:n5=k5
 rotate_left
 ·have hd5:((n5:Int) != (k5:Int))=true:=by simp;omega
  have HF:=hD (show R=false by rw[HR.out,HL5.out (by rw[HQ5.out,HK5.out];exact hq5)];simp);clear hq5;exact Zbv
 subst hq5;have hd5:((n5:Int) != (n5:Int))=false:=by simp
 by_cases hq6:n6=k6
 rotate_left
 ·have hd6:((n6:Int) != (k6:Int))=true:=by simp;omega
  have HF:=hD (show R=false by rw[HR.out,HL6.out (by rw[HQ6.out,HK6.out];exact hq6)];simp);clear hq6;exact Zbv
 subst hq6;have hd6:((n6:Int) != (n6:Int))=false:=by simp
 by_cases hq7:n7=k7
 rotate_left
 ·have hd7:((n7:Int) != (k7:Int))=true:=by simp;omega
  have HF:=hD (show R=false by rw[HR.out,HL7.out (by rw[HQ7.out,HK7.out];exact hq7)];simp);clear hq7;exact Zbv
 subst hq7;have hd7:((n7:Int) != (n7:Int))=false:=by simp
 clear HL0 HL1 HL2 HL3 HL4 HL5 HL6 HL7;go_wp2_with fail
 go_loopw [81] (fun i wr=>∃ k:Nat,k≤n0∧i=.int .i64 (k:Int)∧Hid (Below W2.heap.size W2 wr)∧Hid (UI typE ([],[]) m.types o.types k)) (fun i _=>n0 - (intOf i).toNat)
 case atStart=>exact⟨0,nZ _,rfl,HB,hD (UI.zero _ _ _ _)⟩
 case round =>
  clear HB x0 x1 x2 x3 x4 x5 x6 x7 y0 y1 y2 y3 y4 y5 y6 y7;obtain⟨w0,rfl⟩:∃ w0,w0=wr:=⟨_,rfl⟩;obtain⟨k,hk,rfl,HB,HE⟩:=hrel;by_cases hlt:k<n0
  rotate_left
  ·have hd:decide ((k:Int)<(n0:Int))=false:=by simp;omega
   have HT0:=hD (HY0.out n0 HQ0.out HK0.out (show UI typE ([],[]) m.types o.types n0 by rw[show n0=k by omega];exact HE.out));clear HE HN0 HY0 hk;obtain⟨x0,x1,x2,x3,x4,x5,x6,x7⟩:=HX1.out w0 HB.out;obtain⟨y0,y1,y2,y3,y4,y5,y6,y7⟩:=HX2.out w0 HB.out;go_wp2_with fail
   clear hlt hd;go_loopw [100] (fun i wr=>∃ k:Nat,k≤n1∧i=.int .i64 (k:Int)∧Hid (Below W2.heap.size W2 wr)∧Hid (UI impE (ByteArray.empty,ByteArray.empty,0) m.imps o.imps k)) (fun i _=>n1 - (intOf i).toNat)
   case atStart=>exact⟨0,nZ _,rfl,HB,hD (UI.zero _ _ _ _)⟩
   case round =>
    clear HB x0 x1 x2 x3 x4 x5 x6 x7 y0 y1 y2 y3 y4 y5 y6 y7;obtain⟨w0,rfl⟩:∃ w0,w0=wr:=⟨_,rfl⟩;obtain⟨k,hk,rfl,HB,HE⟩:=hrel;by_cases hlt:k<n1
    rotate_left
    ·have hd:decide ((k:Int)<(n1:Int))=false:=by simp;omega
     have HT1:=hD (HY1.out n1 HQ1.out HK1.out (show UI impE (ByteArray.empty,ByteArray.empty,0) m.imps o.imps n1 by rw[show n1=k by omega];exact HE.out));clear HE HN1 HY1 hk;obtain⟨x0,x1,x2,x3,x4,x5,x6,x7⟩:=HX1.out w0 HB.out;obtain⟨y0,y1,y2,y3,y4,y5,y6,y7⟩:=HX2.out w0 HB.out;go_wp2_with fail
     clear hlt hd;go_loopw [118] (fun i wr=>∃ k:Nat,k≤n2∧i=.int .i64 (k:Int)∧Hid (Below W2.heap.size W2 wr)∧Hid (UI fncE WW m.funs o.funs k)) (fun i _=>n2 - (intOf i).toNat)
     case atStart=>exact⟨0,nZ _,rfl,HB,hD (UI.zero _ _ _ _)⟩
     case round =>
      clear HB x0 x1 x2 x3 x4 x5 x6 x7 y0 y1 y2 y3 y4 y5 y6 y7;obtain⟨w0,rfl⟩:∃ w0,w0=wr:=⟨_,rfl⟩;obtain⟨k,hk,rfl,HB,HE⟩:=hrel;by_cases hlt:k<n2
      rotate_left
      ·have hd:decide ((k:Int)<(n2:Int))=false:=by simp;omega
       have HT2:=hD (HY2.out n2 HQ2.out HK2.out (show UI fncE WW m.funs o.funs n2 by rw[show n2=k by omega];exact HE.out));clear HE HN2 HY2 hk;obtain⟨x0,x1,x2,x3,x4,x5,x6,x7⟩:=HX1.out w0 HB.out;obtain⟨y0,y1,y2,y3,y4,y5,y6,y7⟩:=HX2.out w0 HB.out;have hbl:∀ wz,Below W2.heap.size W2 wz→Below w.heap.size w wz:=fun wz h=>Wa HBW.out h;have hrs:restB m o=R:=by rw[HR.out,HT0.out,HT1.out,HT2.out,HRR.out];simp
       have hd9:=HDR.out w0 (Wa HBW.out HB.out) ⟨by rw[HQ3.out,HK3.out],by rw[HQ4.out,HK4.out],by rw[HQ5.out,HK5.out],by rw[HQ6.out,HK6.out],by rw[HQ7.out,HK7.out]⟩;rw[hrs]at hd9;simp only[Mv.cells]at hd9;rw[HQ0.out,HK0.out,HQ1.out,HK1.out,HQ2.out,HK2.out,HQ3.out,HK3.out,HQ4.out,HK4.out,HQ5.out,HK5.out,HQ6.out,HK6.out,HQ7.out,HK7.out]at hd9;have HD9:=hD hd9;clear HDR hrs hbl HRR hd9;go_wp2_with (go_at_call 48;refine HD9.out.mono ?_;rintro e wq ⟨rfl,hbq⟩)
       go_ret;exact⟨rfl,Wa HBW.out (Wa HB.out hbq)⟩
      ·have hkn:(0:Int)≤(k:Int)∧(k:Int)<(n2:Int):=by omega
       have hd:decide ((k:Int)<(n2:Int))=true:=by simp;omega
       have hA1:=(H1.out w0 (Wa HBW.out HB.out)).funs;have hA2:=(H2.out w0 (Wa HBW.out HB.out)).funs;obtain⟨g1,o1,c9,he,_,_⟩:=Wb.some_ hA1 (by rw[HQ2.out];omega);simp only[vI]at he;obtain⟨rfl,-,-⟩:=he;obtain⟨g2,o2,c9,he,_,_⟩:=Wb.some_ hA2 (by rw[HK2.out];omega);simp only[vI]at he;obtain⟨rfl,-,-⟩:=he;obtain⟨u10,k10,f10⟩:=Wb.at_ hA1 k 0 (by rw[HQ2.out];exact hlt) (by decide);obtain⟨u11,k11,f11⟩:=Wb.at_ hA1 k 1 (by rw[HQ2.out];exact hlt) (by decide);obtain⟨u12,k12,f12⟩:=Wb.at_ hA1 k 2 (by rw[HQ2.out];exact hlt) (by decide);obtain⟨u20,k20,f20⟩:=Wb.at_ hA2 k 0 (by rw[HK2.out];exact hlt) (by decide);obtain⟨u21,k21,f21⟩:=Wb.at_ hA2 k 1 (by rw[HK2.out];exact hlt) (by decide);obtain⟨u22,k22,f22⟩:=Wb.at_ hA2 k 2 (by rw[HK2.out];exact hlt) (by decide);have HYE:=hD (fun (h:fncE (m.funs.getD k WW) (o.funs.getD k WW)=true)=>HE.out.succ h);have HNE:=hD (fun (h:fncE (m.funs.getD k WW) (o.funs.getD k WW)=false)=>HN2.out n2 k HQ2.out hlt h);clear hA1 hA2;generalize m.funs.getD k WW=x at f10 f11 f12 HYE HNE;obtain⟨x0,x1,x2⟩:=x;obtain rfl:u10=.int .i64 x0:=f10;have f11:Wh (fun k=>k<w0.heap.size) w0 u11 x1:=f11;obtain⟨P11,e11,rfl,_,_⟩:=Wh.form f11;have f12:WO (fun k=>k<w0.heap.size) w0 u12 x2:=f12;obtain⟨P12,e12,rfl,_,_⟩:=Wb.form f12;generalize o.funs.getD k WW=y at f20 f21 f22 HYE HNE;obtain⟨y0,y1,y2⟩:=y;obtain rfl:u20=.int .i64 y0:=f20;have f21:Wh (fun k=>k<w0.heap.size) w0 u21 y1:=f21;obtain⟨P21,e21,rfl,_,_⟩:=Wh.form f21;have f22:WO (fun k=>k<w0.heap.size) w0 u22 y2:=f22;obtain⟨P22,e22,rfl,_,_⟩:=Wb.form f22;rw[Nat.add_zero]at k10 k20;obtain⟨a0,a1,a2,a3,a4,a5,a6,a7⟩:=HX1.out w0 HB.out;obtain⟨b0,b1,b2,b3,b4,b5,b6,b7⟩:=HX2.out w0 HB.out;rw[show fncE ⟨x0,x1,x2⟩ ⟨y0,y1,y2⟩=(x0==y0 && (Vu x1 y1 && (codeE x2 y2))) from rfl]at HYE HNE;have C1:=hD (fun wz (hb:Below w0.heap.size w0 wz)=>(show Calls Tryz.prog 46 #[.slice P11 x1.length e11,.slice P21 y1.length e21] wz (Wj (Vu x1 y1) wz) from rints_is (fun k=>k<wz.heap.size) wz _ _ x1 y1 (Wh.keep f11 (We.below hb fun _ hk=>hk) fun _ hk=>WK hk hb.size) (Wh.keep f21 (We.below hb fun _ hk=>hk) fun _ hk=>WK hk hb.size)));have C2:=hD (fun wz (hb:Below w0.heap.size w0 wz)=>(show Calls Tryz.prog 47 #[.slice P12 x2.length e12,.slice P22 y2.length e22] wz (Wj (codeE x2 y2) wz) from dinsts_any wz _ _ x2 y2 (WO.keep f12 (We.below hb fun _ hk=>hk) fun _ hk=>WK hk hb.size) (WO.keep f22 (We.below hb fun _ hk=>hk) fun _ hk=>WK hk hb.size)));generalize Vu x1 y1=b1' at C1 HYE HNE;generalize codeE x2 y2=b2' at C2 HYE HNE;generalize x1.length=m11 at *;generalize x2.length=m12 at *;generalize y1.length=m21 at *;generalize y2.length=m22 at *;clear f11 f12 f21 f22;have HFC:=hD (fun wz (hb:Below w0.heap.size w0 wz)=>(show wz.cell? ⟨g1,o1+k * 3,none⟩=some (.int .i64 x0)∧wz.cell? ⟨g1,o1+k * 3+1,none⟩=some (.slice P11 m11 e11)∧wz.cell? ⟨g1,o1+k * 3+2,none⟩=some (.slice P12 m12 e12)∧wz.cell? ⟨g2,o2+k * 3,none⟩=some (.int .i64 y0)∧wz.cell? ⟨g2,o2+k * 3+1,none⟩=some (.slice P21 m21 e21)∧wz.cell? ⟨g2,o2+k * 3+2,none⟩=some (.slice P22 m22 e22)∧wz.cell? ⟨w.heap.size,2,none⟩=some (.slice (some ⟨g1,o1,none⟩) n2 c2)∧wz.cell? ⟨w.heap.size+1,2,none⟩=some (.slice (some ⟨g2,o2,none⟩) n2 e2) from ⟨(hb.cell (p:=⟨g1,o1+k * 3,none⟩) (wL _ _ k10)).trans k10,(hb.cell (p:=⟨g1,o1+k * 3+1,none⟩) (wL _ _ k11)).trans k11,(hb.cell (p:=⟨g1,o1+k * 3+2,none⟩) (wL _ _ k12)).trans k12,(hb.cell (p:=⟨g2,o2+k * 3,none⟩) (wL _ _ k20)).trans k20,(hb.cell (p:=⟨g2,o2+k * 3+1,none⟩) (wL _ _ k21)).trans k21,(hb.cell (p:=⟨g2,o2+k * 3+2,none⟩) (wL _ _ k22)).trans k22,(hb.cell (p:=⟨w.heap.size,2,none⟩) (wL _ _ a2)).trans a2,(hb.cell (p:=⟨w.heap.size+1,2,none⟩) (wL _ _ b2)).trans b2⟩));clear a0 a1 a2 a3 a4 a5 a6 a7 b0 b1 b2 b3 b4 b5 b6 b7
       go_upto_region 18 with (fail)
       clear k10 k20 k11 k21 k12 k22;by_cases hc0:x0=y0
       rotate_left
       ·have hn0:(x0==y0)=false:=by simpa using hc0
        have hm0:(x0 != y0)=true:=by simpa using hc0
        rw[hn0]at HNE;exact Ze
       ·subst hc0;have hm0:(x0 != x0)=false:=by simp
        rw[show(x0==x0)=true by simp,Bool.true_and]at HYE HNE;cases b1' with
        | false =>
         exact Ze
        | true =>
         rw[Bool.true_and]at HYE HNE;cases b2' with
         | false =>
          exact Ze
         | true =>
          have HY2:=hD (HYE.out (by simp));clear HYE HNE;refine wp_region_held_drew (S:=fun wz=>Below w0.heap.size w0 wz) (by kernel_rfl) ((bR _ _).drew) (fun hS=>?_);show wpAnyH _ _ _ _ _ 45 #[false,false,false,false,false,false,false,false,false,false,false,false,false,false,false,false,false,false,false,false,false,false,false,false,false,false,false,false,false,false,false,false,false,false,false,false,false,false,false,false,false,false,false,false,false] _ _;first|refine mT 0 121 rfl hS ?_|refine mN 0 121 rfl hS ?_
          first|refine mT 1 122 rfl hS ?_ (hy:=by intro wS hSw;obtain⟨s0,s1,s2,s3,s4,s5,s6,s7⟩:=HFC.out wS hSw;go_simp;try with_reducible rfl)|refine mN 1 122 rfl hS ?_
          first|refine mT 2 123 rfl hS ?_|refine mN 2 123 rfl hS ?_
          first|refine mT 3 124 rfl hS ?_|refine mN 3 124 rfl hS ?_
          first|refine mT 4 125 rfl hS ?_|refine mN 4 125 rfl hS ?_
          first|refine mT 5 126 rfl hS ?_ (hy:=by intro wS hSw;obtain⟨s0,s1,s2,s3,s4,s5,s6,s7⟩:=HFC.out wS hSw;go_simp;try with_reducible rfl)|refine mN 5 126 rfl hS ?_
          first|refine mT 6 127 rfl hS ?_|refine mN 6 127 rfl hS ?_
          first|refine mT 7 128 rfl hS ?_ (hy:=by intro wS hSw;obtain⟨s0,s1,s2,s3,s4,s5,s6,s7⟩:=HFC.out wS hSw;go_simp;try with_reducible rfl)|refine mN 7 128 rfl hS ?_
          first|refine mT 8 129 rfl hS ?_|refine mN 8 129 rfl hS ?_
          first|refine mT 9 130 rfl hS ?_|refine mN 9 130 rfl hS ?_
          first|refine mT 10 131 rfl hS ?_|refine mN 10 131 rfl hS ?_
          first|refine mT 11 132 rfl hS ?_ (hy:=by intro wS hSw;obtain⟨s0,s1,s2,s3,s4,s5,s6,s7⟩:=HFC.out wS hSw;go_simp;try with_reducible rfl)|refine mN 11 132 rfl hS ?_
          first|refine mT 12 133 rfl hS ?_|refine mN 12 133 rfl hS ?_
          first|refine mT 13 134 rfl hS ?_|refine mN 13 134 rfl hS ?_
          first|refine mT 14 135 rfl hS ?_|refine mN 14 135 rfl hS ?_
          first|refine mT 15 136 rfl hS ?_ (hy:=by intro wS hSw;obtain⟨s0,s1,s2,s3,s4,s5,s6,s7⟩:=HFC.out wS hSw;go_simp;try with_reducible rfl)|refine mN 15 136 rfl hS ?_
          first|refine mT 16 137 rfl hS ?_|refine mN 16 137 rfl hS ?_
          first|refine mT 17 138 rfl hS ?_|refine mN 17 138 rfl hS ?_
          first|refine mT 18 139 rfl hS ?_|refine mN 18 139 rfl hS ?_
          first|refine mT 19 140 rfl hS ?_ (hy:=by intro wS hSw;obtain⟨s0,s1,s2,s3,s4,s5,s6,s7⟩:=HFC.out wS hSw;go_simp;try with_reducible rfl)|refine mN 19 140 rfl hS ?_
          first|refine mT 20 141 rfl hS ?_|refine mN 20 141 rfl hS ?_
          first|refine mT 21 142 rfl hS ?_ (hy:=by intro wS hSw;obtain⟨s0,s1,s2,s3,s4,s5,s6,s7⟩:=HFC.out wS hSw;go_simp;try with_reducible rfl)|refine mN 21 142 rfl hS ?_
          first|refine mT 22 143 rfl hS ?_|refine mN 22 143 rfl hS ?_
          first|refine mT 23 144 rfl hS ?_|refine mN 23 144 rfl hS ?_
          first|refine mT 24 145 rfl hS ?_|refine mN 24 145 rfl hS ?_
          first|refine mT 25 146 rfl hS ?_ (hy:=by intro wS hSw;obtain⟨s0,s1,s2,s3,s4,s5,s6,s7⟩:=HFC.out wS hSw;go_simp;try with_reducible rfl)|refine mN 25 146 rfl hS ?_
          refine mR 26 147 rfl fun K hK=>?_;first|(go_simp;go_at_call 46;refine(C1.out _ hS).mono ?_;rintro e wq ⟨rfl,hwq⟩;go_wp2_with fail;refine hK.out _ _ (Wa hS hwq) (fun hS'=>?_);clear hK K hS hwq;have hS:=hS';clear hS';try simp only[sA,List.set])|(go_simp;refine hK.out _ _ hS (fun _=>?_);clear hK K)
          first|refine mT 27 148 rfl hS ?_|refine mN 27 148 rfl hS ?_
          first|refine mT 28 149 rfl hS ?_|refine mN 28 149 rfl hS ?_
          first|refine mT 29 150 rfl hS ?_|refine mN 29 150 rfl hS ?_
          first|refine mT 30 151 rfl hS ?_|refine mN 30 151 rfl hS ?_
          first|refine mT 31 152 rfl hS ?_ (hy:=by intro wS hSw;obtain⟨s0,s1,s2,s3,s4,s5,s6,s7⟩:=HFC.out wS hSw;go_simp;try with_reducible rfl)|refine mN 31 152 rfl hS ?_
          first|refine mT 32 153 rfl hS ?_|refine mN 32 153 rfl hS ?_
          first|refine mT 33 154 rfl hS ?_|refine mN 33 154 rfl hS ?_
          first|refine mT 34 155 rfl hS ?_|refine mN 34 155 rfl hS ?_
          first|refine mT 35 156 rfl hS ?_ (hy:=by intro wS hSw;obtain⟨s0,s1,s2,s3,s4,s5,s6,s7⟩:=HFC.out wS hSw;go_simp;try with_reducible rfl)|refine mN 35 156 rfl hS ?_
          first|refine mT 36 157 rfl hS ?_|refine mN 36 157 rfl hS ?_
          first|refine mT 37 158 rfl hS ?_ (hy:=by intro wS hSw;obtain⟨s0,s1,s2,s3,s4,s5,s6,s7⟩:=HFC.out wS hSw;go_simp;try with_reducible rfl)|refine mN 37 158 rfl hS ?_
          first|refine mT 38 159 rfl hS ?_|refine mN 38 159 rfl hS ?_
          first|refine mT 39 160 rfl hS ?_|refine mN 39 160 rfl hS ?_
          first|refine mT 40 161 rfl hS ?_|refine mN 40 161 rfl hS ?_
          first|refine mT 41 162 rfl hS ?_ (hy:=by intro wS hSw;obtain⟨s0,s1,s2,s3,s4,s5,s6,s7⟩:=HFC.out wS hSw;go_simp;try with_reducible rfl)|refine mN 41 162 rfl hS ?_
          refine mR 42 163 rfl fun K hK=>?_;first|(go_simp;go_at_call 47;refine(C2.out _ hS).mono ?_;rintro e wq ⟨rfl,hwq⟩;go_wp2_with fail;refine hK.out _ _ (Wa hS hwq) (fun hS'=>?_);clear hK K hS hwq;have hS:=hS';clear hS';try simp only[sA,List.set])|(go_simp;refine hK.out _ _ hS (fun _=>?_);clear hK K)
          first|refine mT 43 164 rfl hS ?_|refine mN 43 164 rfl hS ?_
          first|refine mT 44 165 rfl hS ?_|refine mN 44 165 rfl hS ?_
          exact Zby
    ·have hkn:(0:Int)≤(k:Int)∧(k:Int)<(n1:Int):=by omega
     have hd:decide ((k:Int)<(n1:Int))=true:=by simp;omega
     have hA1:=(H1.out w0 (Wa HBW.out HB.out)).imps;have hA2:=(H2.out w0 (Wa HBW.out HB.out)).imps;obtain⟨g1,o1,c9,he,_,_⟩:=Wb.some_ hA1 (by rw[HQ1.out];omega);simp only[vI]at he;obtain⟨rfl,-,-⟩:=he;obtain⟨g2,o2,c9,he,_,_⟩:=Wb.some_ hA2 (by rw[HK1.out];omega);simp only[vI]at he;obtain⟨rfl,-,-⟩:=he;obtain⟨u10,k10,f10⟩:=Wb.at_ hA1 k 0 (by rw[HQ1.out];exact hlt) (by decide);obtain⟨u11,k11,f11⟩:=Wb.at_ hA1 k 1 (by rw[HQ1.out];exact hlt) (by decide);obtain⟨u12,k12,f12⟩:=Wb.at_ hA1 k 2 (by rw[HQ1.out];exact hlt) (by decide);obtain⟨u20,k20,f20⟩:=Wb.at_ hA2 k 0 (by rw[HK1.out];exact hlt) (by decide);obtain⟨u21,k21,f21⟩:=Wb.at_ hA2 k 1 (by rw[HK1.out];exact hlt) (by decide);obtain⟨u22,k22,f22⟩:=Wb.at_ hA2 k 2 (by rw[HK1.out];exact hlt) (by decide);have HYE:=hD (fun (h:impE (m.imps.getD k (ByteArray.empty,ByteArray.empty,0)) (o.imps.getD k (ByteArray.empty,ByteArray.empty,0))=true)=>HE.out.succ h);have HNE:=hD (fun (h:impE (m.imps.getD k (ByteArray.empty,ByteArray.empty,0)) (o.imps.getD k (ByteArray.empty,ByteArray.empty,0))=false)=>HN1.out n1 k HQ1.out hlt h);clear hA1 hA2;generalize m.imps.getD k (ByteArray.empty,ByteArray.empty,0)=x at f10 f11 f12 HYE HNE;obtain⟨x0,x1,x2⟩:=x;obtain rfl:u10=.string x0:=f10;obtain rfl:u11=.string x1:=f11;obtain rfl:u12=.int .i64 x2:=f12;generalize o.imps.getD k (ByteArray.empty,ByteArray.empty,0)=y at f20 f21 f22 HYE HNE;obtain⟨y0,y1,y2⟩:=y;obtain rfl:u20=.string y0:=f20;obtain rfl:u21=.string y1:=f21;obtain rfl:u22=.int .i64 y2:=f22;rw[Nat.add_zero]at k10 k20;obtain⟨a0,a1,a2,a3,a4,a5,a6,a7⟩:=HX1.out w0 HB.out;obtain⟨b0,b1,b2,b3,b4,b5,b6,b7⟩:=HX2.out w0 HB.out;rw[show impE ⟨x0,x1,x2⟩ ⟨y0,y1,y2⟩=(V4 x0 y0 && (V4 x1 y1 && (x2==y2))) from rfl]at HYE HNE;have hnq:=fun w=>neq_imp w x0 y0 x1 y1 x2 y2;generalize (V4 x0 y0 && (V4 x1 y1 && (x2==y2)))=bb at hnq HYE HNE;exact Zz
  ·have hkn:(0:Int)≤(k:Int)∧(k:Int)<(n0:Int):=by omega
   have hd:decide ((k:Int)<(n0:Int))=true:=by simp;omega
   have hA1:=(H1.out w0 (Wa HBW.out HB.out)).types;have hA2:=(H2.out w0 (Wa HBW.out HB.out)).types;obtain⟨g1,o1,c9,he,_,_⟩:=Wb.some_ hA1 (by rw[HQ0.out];omega);simp only[vI]at he;obtain⟨rfl,-,-⟩:=he;obtain⟨g2,o2,c9,he,_,_⟩:=Wb.some_ hA2 (by rw[HK0.out];omega);simp only[vI]at he;obtain⟨rfl,-,-⟩:=he;obtain⟨u10,k10,f10⟩:=Wb.at_ hA1 k 0 (by rw[HQ0.out];exact hlt) (by decide);obtain⟨u11,k11,f11⟩:=Wb.at_ hA1 k 1 (by rw[HQ0.out];exact hlt) (by decide);obtain⟨u20,k20,f20⟩:=Wb.at_ hA2 k 0 (by rw[HK0.out];exact hlt) (by decide);obtain⟨u21,k21,f21⟩:=Wb.at_ hA2 k 1 (by rw[HK0.out];exact hlt) (by decide);have HYE:=hD (fun (h:typE (m.types.getD k ([],[])) (o.types.getD k ([],[]))=true)=>HE.out.succ h);have HNE:=hD (fun (h:typE (m.types.getD k ([],[])) (o.types.getD k ([],[]))=false)=>HN0.out n0 k HQ0.out hlt h);clear hA1 hA2;generalize m.types.getD k ([],[])=x at f10 f11 HYE HNE;obtain⟨x0,x1⟩:=x;have f10:Wh (fun k=>k<w0.heap.size) w0 u10 x0:=f10;obtain⟨P10,e10,rfl,_,_⟩:=Wh.form f10;have f11:Wh (fun k=>k<w0.heap.size) w0 u11 x1:=f11;obtain⟨P11,e11,rfl,_,_⟩:=Wh.form f11;generalize o.types.getD k ([],[])=y at f20 f21 HYE HNE;obtain⟨y0,y1⟩:=y;have f20:Wh (fun k=>k<w0.heap.size) w0 u20 y0:=f20;obtain⟨P20,e20,rfl,_,_⟩:=Wh.form f20;have f21:Wh (fun k=>k<w0.heap.size) w0 u21 y1:=f21;obtain⟨P21,e21,rfl,_,_⟩:=Wh.form f21;rw[Nat.add_zero]at k10 k20;obtain⟨a0,a1,a2,a3,a4,a5,a6,a7⟩:=HX1.out w0 HB.out;obtain⟨b0,b1,b2,b3,b4,b5,b6,b7⟩:=HX2.out w0 HB.out;rw[show typE ⟨x0,x1⟩ ⟨y0,y1⟩=(Vu x0 y0 && (Vu x1 y1)) from rfl]at HYE HNE;have C0:=hD (fun wz (hb:Below w0.heap.size w0 wz)=>(show Calls Tryz.prog 25 #[.agg #[.slice P10 x0.length e10,.slice P11 x1.length e11],.agg #[.slice P20 y0.length e20,.slice P21 y1.length e21]] wz (Wj (Vu x0 y0 && (Vu x1 y1)) wz) from rtypes_e wz _ _ _ _ x0 x1 y0 y1 (Wh.keep f10 (We.below hb fun _ hk=>hk) fun _ hk=>WK hk hb.size) (Wh.keep f11 (We.below hb fun _ hk=>hk) fun _ hk=>WK hk hb.size) (Wh.keep f20 (We.below hb fun _ hk=>hk) fun _ hk=>WK hk hb.size) (Wh.keep f21 (We.below hb fun _ hk=>hk) fun _ hk=>WK hk hb.size)));generalize (Vu x0 y0 && (Vu x1 y1))=bb at C0 HYE HNE;generalize x0.length=m10 at *;generalize x1.length=m11 at *;generalize y0.length=m20 at *;generalize y1.length=m21 at *;clear f10 f11 f20 f21;have HFC:=hD (fun wz (hb:Below w0.heap.size w0 wz)=>(show wz.cell? ⟨g1,o1+k * 2,none⟩=some (.slice P10 m10 e10)∧wz.cell? ⟨g1,o1+k * 2+1,none⟩=some (.slice P11 m11 e11)∧wz.cell? ⟨g2,o2+k * 2,none⟩=some (.slice P20 m20 e20)∧wz.cell? ⟨g2,o2+k * 2+1,none⟩=some (.slice P21 m21 e21)∧wz.cell? ⟨w.heap.size,0,none⟩=some (.slice (some ⟨g1,o1,none⟩) n0 c0)∧wz.cell? ⟨w.heap.size+1,0,none⟩=some (.slice (some ⟨g2,o2,none⟩) n0 e0) from ⟨(hb.cell (p:=⟨g1,o1+k * 2,none⟩) (wL _ _ k10)).trans k10,(hb.cell (p:=⟨g1,o1+k * 2+1,none⟩) (wL _ _ k11)).trans k11,(hb.cell (p:=⟨g2,o2+k * 2,none⟩) (wL _ _ k20)).trans k20,(hb.cell (p:=⟨g2,o2+k * 2+1,none⟩) (wL _ _ k21)).trans k21,(hb.cell (p:=⟨w.heap.size,0,none⟩) (wL _ _ a0)).trans a0,(hb.cell (p:=⟨w.heap.size+1,0,none⟩) (wL _ _ b0)).trans b0⟩));clear a0 a1 a2 a3 a4 a5 a6 a7 b0 b1 b2 b3 b4 b5 b6 b7
   go_upto_region 6 with (fail)
   clear k10 k20 k11 k21;cases bb with
   | true =>
    have HY2:=hD (HYE.out rfl);clear HYE HNE;refine wp_region_held_drew (S:=fun wz=>Below w0.heap.size w0 wz) (by kernel_rfl) ((bR _ _).drew) (fun hS=>?_);show wpAnyH _ _ _ _ _ 12 #[false,false,false,false,false,false,false,false,false,false,false,false] _ _;first|refine mT 0 84 rfl hS ?_|refine mN 0 84 rfl hS ?_
    first|refine mT 1 85 rfl hS ?_ (hy:=by intro wS hSw;obtain⟨s0,s1,s2,s3,s4,s5⟩:=HFC.out wS hSw;go_simp;try with_reducible rfl)|refine mN 1 85 rfl hS ?_
    first|refine mT 2 86 rfl hS ?_|refine mN 2 86 rfl hS ?_
    first|refine mT 3 87 rfl hS ?_|refine mN 3 87 rfl hS ?_
    first|refine mT 4 88 rfl hS ?_ (hy:=by intro wS hSw;obtain⟨s0,s1,s2,s3,s4,s5⟩:=HFC.out wS hSw;go_simp;try with_reducible rfl)|refine mN 4 88 rfl hS ?_
    first|refine mT 5 89 rfl hS ?_|refine mN 5 89 rfl hS ?_
    first|refine mT 6 90 rfl hS ?_ (hy:=by intro wS hSw;obtain⟨s0,s1,s2,s3,s4,s5⟩:=HFC.out wS hSw;go_simp;try with_reducible rfl)|refine mN 6 90 rfl hS ?_
    first|refine mT 7 91 rfl hS ?_|refine mN 7 91 rfl hS ?_
    first|refine mT 8 92 rfl hS ?_|refine mN 8 92 rfl hS ?_
    first|refine mT 9 93 rfl hS ?_ (hy:=by intro wS hSw;obtain⟨s0,s1,s2,s3,s4,s5⟩:=HFC.out wS hSw;go_simp;try with_reducible rfl)|refine mN 9 93 rfl hS ?_
    refine mR 10 94 rfl fun K hK=>?_;first|(go_simp;go_at_call 25;refine(C0.out _ hS).mono ?_;rintro e wq ⟨rfl,hwq⟩;go_wp2_with fail;refine hK.out _ _ (Wa hS hwq) (fun hS'=>?_);clear hK K hS hwq;have hS:=hS';clear hS';try simp only[sA,List.set])|(go_simp;refine hK.out _ _ hS (fun _=>?_);clear hK K)
    first|refine mT 11 95 rfl hS ?_|refine mN 11 95 rfl hS ?_
    exact Zby
   | false =>
    have HF9:=hD (HNE.out rfl);clear HYE HNE;have HF:=hD (show R=false by rw[HR.out,HF9.out];simp);clear HF9;refine wp_region_held_drew (S:=fun wz=>Below w0.heap.size w0 wz) (by kernel_rfl) ((bR _ _).drew) (fun hS=>?_);show wpAnyH _ _ _ _ _ 12 #[false,false,false,false,false,false,false,false,false,false,false,false] _ _;first|refine mT 0 84 rfl hS ?_|refine mN 0 84 rfl hS ?_
    first|refine mT 1 85 rfl hS ?_ (hy:=by intro wS hSw;obtain⟨s0,s1,s2,s3,s4,s5⟩:=HFC.out wS hSw;go_simp;try with_reducible rfl)|refine mN 1 85 rfl hS ?_
    first|refine mT 2 86 rfl hS ?_|refine mN 2 86 rfl hS ?_
    first|refine mT 3 87 rfl hS ?_|refine mN 3 87 rfl hS ?_
    first|refine mT 4 88 rfl hS ?_ (hy:=by intro wS hSw;obtain⟨s0,s1,s2,s3,s4,s5⟩:=HFC.out wS hSw;go_simp;try with_reducible rfl)|refine mN 4 88 rfl hS ?_
    first|refine mT 5 89 rfl hS ?_|refine mN 5 89 rfl hS ?_
    first|refine mT 6 90 rfl hS ?_ (hy:=by intro wS hSw;obtain⟨s0,s1,s2,s3,s4,s5⟩:=HFC.out wS hSw;go_simp;try with_reducible rfl)|refine mN 6 90 rfl hS ?_
    first|refine mT 7 91 rfl hS ?_|refine mN 7 91 rfl hS ?_
    first|refine mT 8 92 rfl hS ?_|refine mN 8 92 rfl hS ?_
    first|refine mT 9 93 rfl hS ?_ (hy:=by intro wS hSw;obtain⟨s0,s1,s2,s3,s4,s5⟩:=HFC.out wS hSw;go_simp;try with_reducible rfl)|refine mN 9 93 rfl hS ?_
    refine mR 10 94 rfl fun K hK=>?_;first|(go_simp;go_at_call 25;refine(C0.out _ hS).mono ?_;rintro e wq ⟨rfl,hwq⟩;go_wp2_with fail;refine hK.out _ _ (Wa hS hwq) (fun hS'=>?_);clear hK K hS hwq;have hS:=hS';clear hS';try simp only[sA,List.set])|(go_simp;refine hK.out _ _ hS (fun _=>?_);clear hK K)
    first|refine mT 11 95 rfl hS ?_|refine mN 11 95 rfl hS ?_
    refine wpAnyH_done (by kernel_rfl) ?_ _;go_wp2;go_ret;exact⟨WA (by rw[HF.out]),Wa HBW.out (Wa HB.out hS)⟩
end Go.Proofs.YtgmgcadlkebokaaGreatDoor
