/- A part of the proof. -/
import Derived.Test.YtgmgcadlkebokaaGreatDoorJ36
import Derived.Test.YtgmgcadlkebokaaGreatDoorJ37
import Derived.Laws.BytesArg
namespace Go.Proofs.YtgmgcadlkebokaaGreatDoor
open Go.RowKit
set_option maxHeartbeats 16000000
set_option maxRecDepth 100000
theorem Zm {P:Prop}(h:P:=by
 have HF9:=hD (HNE.out (by simp));clear HYE HNE;have HF:=hD (show R=false by rw[HR.out,HF9.out];simp);clear HF9;refine wp_region_held_drew (S:=fun wz=>Below w0.heap.size w0 wz) (by kernel_rfl) ((bR _ _).drew) (fun hS=>?_);show wpAnyH _ _ _ _ _ 30 #[false,false,false,false,false,false,false,false,false,false,false,false,false,false,false,false,false,false,false,false,false,false,false,false,false,false,false,false,false,false] _ _;first|refine mT 0 117 rfl hS ?_|refine mN 0 117 rfl hS ?_
 first|refine mT 1 118 rfl hS ?_ (hy:=by intro wS hSw;obtain⟨s0,s1,s2,s3,s4,s5⟩:=HFC.out wS hSw;go_simp;try with_reducible rfl)|refine mN 1 118 rfl hS ?_
 first|refine mT 2 119 rfl hS ?_|refine mN 2 119 rfl hS ?_
 first|refine mT 3 120 rfl hS ?_|refine mN 3 120 rfl hS ?_
 first|refine mT 4 121 rfl hS ?_|refine mN 4 121 rfl hS ?_
 first|refine mT 5 122 rfl hS ?_ (hy:=by intro wS hSw;obtain⟨s0,s1,s2,s3,s4,s5⟩:=HFC.out wS hSw;go_simp;try with_reducible rfl)|refine mN 5 122 rfl hS ?_
 first|refine mT 6 123 rfl hS ?_|refine mN 6 123 rfl hS ?_
 first|refine mT 7 124 rfl hS ?_ (hy:=by intro wS hSw;obtain⟨s0,s1,s2,s3,s4,s5⟩:=HFC.out wS hSw;go_simp;try with_reducible rfl)|refine mN 7 124 rfl hS ?_
 first|refine mT 8 125 rfl hS ?_|refine mN 8 125 rfl hS ?_
 first|refine mT 9 126 rfl hS ?_|refine mN 9 126 rfl hS ?_
 first|refine mT 10 127 rfl hS ?_|refine mN 10 127 rfl hS ?_
 first|refine mT 11 128 rfl hS ?_ (hy:=by intro wS hSw;obtain⟨s0,s1,s2,s3,s4,s5⟩:=HFC.out wS hSw;go_simp;try with_reducible rfl)|refine mN 11 128 rfl hS ?_
 first|refine mT 12 129 rfl hS ?_|refine mN 12 129 rfl hS ?_
 first|refine mT 13 130 rfl hS ?_|refine mN 13 130 rfl hS ?_
 first|refine mT 14 131 rfl hS ?_|refine mN 14 131 rfl hS ?_
 first|refine mT 15 132 rfl hS ?_ (hy:=by intro wS hSw;obtain⟨s0,s1,s2,s3,s4,s5⟩:=HFC.out wS hSw;go_simp;try with_reducible rfl)|refine mN 15 132 rfl hS ?_
 first|refine mT 16 133 rfl hS ?_|refine mN 16 133 rfl hS ?_
 first|refine mT 17 134 rfl hS ?_|refine mN 17 134 rfl hS ?_
 first|refine mT 18 135 rfl hS ?_|refine mN 18 135 rfl hS ?_
 first|refine mT 19 136 rfl hS ?_ (hy:=by intro wS hSw;obtain⟨s0,s1,s2,s3,s4,s5⟩:=HFC.out wS hSw;go_simp;try with_reducible rfl)|refine mN 19 136 rfl hS ?_
 first|refine mT 20 137 rfl hS ?_ (hy:=by intro wS hSw;have q9:=S1.out wS hSw;go_simp;try with_reducible rfl)|refine mN 20 137 rfl hS ?_
 first|refine mT 21 138 rfl hS ?_|refine mN 21 138 rfl hS ?_
 first|refine mT 22 139 rfl hS ?_ (hy:=by intro wS hSw;obtain⟨s0,s1,s2,s3,s4,s5⟩:=HFC.out wS hSw;go_simp;try with_reducible rfl)|refine mN 22 139 rfl hS ?_
 first|refine mT 23 140 rfl hS ?_|refine mN 23 140 rfl hS ?_
 first|refine mT 24 141 rfl hS ?_|refine mN 24 141 rfl hS ?_
 first|refine mT 25 142 rfl hS ?_|refine mN 25 142 rfl hS ?_
 first|refine mT 26 143 rfl hS ?_ (hy:=by intro wS hSw;obtain⟨s0,s1,s2,s3,s4,s5⟩:=HFC.out wS hSw;go_simp;try with_reducible rfl)|refine mN 26 143 rfl hS ?_
 first|refine mT 27 144 rfl hS ?_ (hy:=by intro wS hSw;have q9:=S2.out wS hSw;go_simp;try with_reducible rfl)|refine mN 27 144 rfl hS ?_
 first|refine mT 28 145 rfl hS ?_|refine mN 28 145 rfl hS ?_
 first|refine mT 29 146 rfl hS ?_|refine mN 29 146 rfl hS ?_
 refine wpAnyH_done (by kernel_rfl) ?_ _;go_wp2;go_ret;exact⟨WA (by rw[HF.out]),Wa HBW.out (Wa HB.out hS)⟩):P:=h
theorem Zz {P:Prop}(h:P:=by
 cases bb with
 | true =>
  have HY2:=hD (HYE.out rfl);clear HYE HNE;simp only[Bool.not_true]at hnq;go_wp2_with fail
  go_quiet (fail)
  go_wp2;go_roundw
  case rel=>exact⟨k+1,by omega,by go_num,hD (Wa HB.out (Wn (bR _ _) _)),HY2⟩
  case measure=>simp[intOf];omega
 | false =>
  have HF9:=hD (HNE.out rfl);clear HYE HNE;simp only[Bool.not_false]at hnq;have HF:=hD (show R=false by rw[HR.out,HF9.out];simp);clear HF9;go_wp2_with fail
  go_quiet (fail)
  go_wp2;go_ret;exact⟨WA (by rw[HF.out]),Wa HBW.out (Wa HB.out (Wn (bR _ _) _))⟩):P:=h
theorem ZF {P:Prop}(h:P:=by
 refine Wf.one (i:=12) (by kernel_rfl) ?_;obtain⟨z0,z1,z2,z3,y0',y1',y2',y3'⟩:=box4 hP;refine Wp.n rfl fun K hK=>?_;go_simp;refine hK.out _ _ (.inr (fill4_below hS lP _ _ _ _)) ?_;clear hK K z0 z1 z2 z3 y0' y1' y2' y3';try simp only[sA,List.set]
 replace hS:=fill4_below hS lP (.bool x0) (.int .i64 x1) (.int .i64 x2) (.slice P13 m13 e13);replace hP:=fill4_at hP (.bool x0) (.int .i64 x1) (.int .i64 x2) (.slice P13 m13 e13);replace hQ:=fill4_far (P:=P) hQ hne.symm (.bool x0) (.int .i64 x1) (.int .i64 x2) (.slice P13 m13 e13);generalize ((((w7.setCell ⟨P,0,none⟩ (.bool x0)).setCell ⟨P,1,none⟩ (.int .i64 x1)).setCell ⟨P,2,none⟩ (.int .i64 x2)).setCell ⟨P,3,none⟩ (.slice P13 m13 e13))=w8 at *;refine Wf.one (i:=13) (by kernel_rfl) ?_;obtain⟨z0,z1,z2,z3,y0',y1',y2',y3'⟩:=box4 hQ;refine Wp.n rfl fun K hK=>?_;go_simp;refine hK.out _ _ (.inl rfl) ?_;clear hK K z0 z1 z2 z3 y0' y1' y2' y3';try simp only[sA,List.set]
 replace hS:=fill4_below hS lQ (.bool y0) (.int .i64 y1) (.int .i64 y2) (.slice P23 m23 e23);replace hQ:=fill4_at hQ (.bool y0) (.int .i64 y1) (.int .i64 y2) (.slice P23 m23 e23);replace hP:=fill4_far (P:=Q) hP (hne) (.bool y0) (.int .i64 y1) (.int .i64 y2) (.slice P23 m23 e23);generalize ((((w8.setCell ⟨Q,0,none⟩ (.bool y0)).setCell ⟨Q,1,none⟩ (.int .i64 y1)).setCell ⟨Q,2,none⟩ (.int .i64 y2)).setCell ⟨Q,3,none⟩ (.slice P23 m23 e23))=w9 at *;refine Wf.done (by kernel_rfl) ?_ _;go_wp2
 go_meet
 exact⟨P,Q,rfl,rfl,hD hS,hD (cells4_of hP),hD (cells4_of hQ)⟩):P:=h
theorem Zba {P:Prop}(h:P:=by
 have HF9:=hD (HNE.out (by simp));clear HYE HNE;have HF:=hD (show R=false by rw[HR.out,HF9.out];simp);clear HF9;go_wp2;go_ret;exact⟨WA (by rw[HF.out]),Wa HBW.out (Wa HB.out HB5.out)⟩):P:=h
theorem Zby {P:Prop}(h:P:=by
 refine wpAnyH_done (by kernel_rfl) ?_ _;go_wp2;go_roundw
 case rel=>exact⟨k+1,by omega,by go_num,hD (Wa HB.out hS),HY2⟩
 case measure=>simp[intOf];omega):P:=h
def strS (l:List Nat):ByteArray:=strOfNums (l.map fun x:Nat=>(x:Int))
theorem WD.small {K:Nat→Prop} {w:World} {v:Value} {l:List Nat} (h:WD K w v l):∀ b ∈ l,b<256:=by
 obtain⟨A,c,_,_,_,_,_,hb⟩:=h;exact hb
theorem conv_empty (w:World) (a:Addr) (c:Nat):(convert 57 9 (.slice (some a) 0 c)).run Tryz.prog w=.ok (.string (strS [])) w:=by
 rw[run_convert_bytes_string w 57 9 5 _ 0 c Tryz.underlying57 Tryz.underlying5 Tryz.underlying9];simp[Conv.bytesToString,loadCells,loadCellsFrom,strS,strOfNums];rfl
theorem bytes_str (w:World) (v:Value) (l:List Nat) (h:WD (fun k=>k<w.heap.size) w v l):(convert 57 9 v).run Tryz.prog w=.ok (.string (strS l)) w:=by
 obtain⟨A,c,rfl,hm,hc,h0,h3,_⟩:=h;rcases Nat.eq_zero_or_pos l.length with hl|hl
 ·obtain rfl:=List.eq_nil_of_length_eq_zero hl;rcases A with _|a
  ·exact run_convert_bytes_nil w 57 5 Tryz.underlying57 Tryz.underlying5 0 c 9 Tryz.underlying9
  ·exact conv_empty w a c
 ·obtain⟨g,o,rfl,_,hcell⟩:=h3 hl;exact run_convert_bytes_arg w 57 5 Tryz.underlying57 Tryz.underlying5 g o l.length c (l.map fun x:Nat=>(x:Int)) (by simp) (fun i hi=>by rw[hcell i hi];simp[List.getD,hi]) 9 Tryz.underlying9
theorem nums_strB (l:List Nat) (h:∀ b ∈ l,b<256):Vs (strS l)=l:=by
 unfold Vs strS;rw[strOfNums_data,List.map_map,List.map_map]
 conv=>rhs;rw[← List.map_id l]
 refine List.map_congr_left fun b hb=>?_;have:=h b hb;simp only[Function.comp_apply,Int.toNat_natCast,id_eq];rw[UInt8.toNat_ofNat'];omega
theorem str_bytes (x y:List Nat) (hx:∀ b ∈ x,b<256) (hy:∀ b ∈ y,b<256):((strS x).toList==(strS y).toList)=Un x y:=by
 rw[strE_list];unfold V4 Un;rw[nums_strB x hx,nums_strB y hy]
def Cells4 (w:World) (P:Nat) (a b c d:Value):Prop:=w.cell? ⟨P,0,none⟩=some a∧w.cell? ⟨P,1,none⟩=some b∧w.cell? ⟨P,2,none⟩=some c∧w.cell? ⟨P,3,none⟩=some d
theorem alloc_at (w:World) (cs:Array Value) (t:TypeId):(w.alloc (.cells cs t)).heap[w.heap.size]?=some (.cells cs t (0,0)):=by simp[World.alloc,-World.alloc_eq]
section
variable {w w0:World} {P Q:Nat} {z0 z1 z2 z3:Value} {T:TypeId}
theorem box4 (h:w.heap[P]?=some (.cells #[z0,z1,z2,z3] T (0,0))):w.cell? ⟨P,0,none⟩=some z0∧w.cell? ⟨P,1,none⟩=some z1∧w.cell? ⟨P,2,none⟩=some z2∧w.cell? ⟨P,3,none⟩=some z3∧w.frozen? ⟨P,0,none⟩=false∧w.frozen? ⟨P,1,none⟩=false∧w.frozen? ⟨P,2,none⟩=false∧w.frozen? ⟨P,3,none⟩=false :=
 ⟨by simp[World.cell?,h],by simp[World.cell?,h],by simp[World.cell?,h],by simp[World.cell?,h],by simp[World.frozen?,h],by simp[World.frozen?,h],by simp[World.frozen?,h],by simp[World.frozen?,h]⟩
theorem cells4_of (h:w.heap[P]?=some (.cells #[z0,z1,z2,z3] T (0,0))):Cells4 w P z0 z1 z2 z3 :=
 ⟨by simp[World.cell?,h],by simp[World.cell?,h],by simp[World.cell?,h],by simp[World.cell?,h]⟩
theorem fill4_at (h:w.heap[P]?=some (.cells #[z0,z1,z2,z3] T (0,0))) (a b c d:Value):((((w.setCell ⟨P,0,none⟩ a).setCell ⟨P,1,none⟩ b).setCell ⟨P,2,none⟩ c).setCell ⟨P,3,none⟩ d).heap[P]?=some (.cells #[a,b,c,d] T (0,0)):=by
 have h0:=Wi w P 0 _ T a h;have h1:=Wi _ P 1 _ T b h0;have h2:=Wi _ P 2 _ T c h1;exact Wi _ P 3 _ T d h2
theorem fill4_far {o:Obj} (h:w.heap[Q]?=some o) (hne:Q≠P) (a b c d:Value):((((w.setCell ⟨P,0,none⟩ a).setCell ⟨P,1,none⟩ b).setCell ⟨P,2,none⟩ c).setCell ⟨P,3,none⟩ d).heap[Q]?=some o:=by
 have hn:¬ P=Q:=fun e=>hne e.symm;simp[World.setCell,Array.getElem?_modify,hn,h]
theorem fill4_below (h:Below w0.heap.size w0 w) (hP:w0.heap.size≤P) (a b c d:Value):Below w0.heap.size w0 ((((w.setCell ⟨P,0,none⟩ a).setCell ⟨P,1,none⟩ b).setCell ⟨P,2,none⟩ c).setCell ⟨P,3,none⟩ d) :=
 (((h.setCell (by exact hP) _).setCell (by exact hP) _).setCell (by exact hP) _).setCell (by exact hP) _
end
def restB (m o:Vz):Bool:=Ww UC (0,0) m.mems o.mems && Ww VJ (0,false,0) m.globs o.globs && Ww UA (ByteArray.empty,0,0) m.exps o.exps && Ww UB VC m.datas o.datas && Ww UE (ByteArray.empty,[]) m.cus o.cus
theorem dsrest_any (w:World) (v1 v2:Mv) (m o:Vz) (h1:WL (fun k=>k<w.heap.size) w v1 m) (h2:WL (fun k=>k<w.heap.size) w v2 o) (hl:m.mems.length=o.mems.length∧m.globs.length=o.globs.length∧m.exps.length=o.exps.length∧m.datas.length=o.datas.length∧m.cus.length=o.cus.length):Calls Tryz.prog 48 #[.agg v1.cells,.agg v2.cells] w (Wj (restB m o) w):=by
 have H1:=hD (fun wz (hb:Below w.heap.size w wz)=>(show WL (fun k=>k<wz.heap.size) wz v1 m from h1.keep (We.below hb fun _ hk=>hk) fun _ hk=>WK hk hb.size));have H2:=hD (fun wz (hb:Below w.heap.size w wz)=>(show WL (fun k=>k<wz.heap.size) wz v2 o from h2.keep (We.below hb fun _ hk=>hk) fun _ hk=>WK hk hb.size));have HR:Hid (restB m o=(Ww UC (0,0) m.mems o.mems && Ww VJ (0,false,0) m.globs o.globs && Ww UA (ByteArray.empty,0,0) m.exps o.exps && Ww UB VC m.datas o.datas && Ww UE (ByteArray.empty,[]) m.cus o.cus)):=hD rfl;generalize restB m o=R at HR ⊢;have HL3:=hD (fun (h:m.mems.length≠o.mems.length)=>WQ (e:=UC) (d:=(0,0)) h);have HN3:=hD (fun (n j:Nat) (hn:m.mems.length=n) (hj:j<n) (h:UC (m.mems.getD j (0,0)) (o.mems.getD j (0,0))=false)=>W6 (e:=UC) hn hj h);have HY3:=hD (fun (n:Nat) (hn:m.mems.length=n) (hm:o.mems.length=n) (h:UI UC (0,0) m.mems o.mems n)=>VA (e:=UC) hn hm h);generalize Ww UC (0,0) m.mems o.mems=b3 at HR HL3 HN3 HY3;have HL4:=hD (fun (h:m.globs.length≠o.globs.length)=>WQ (e:=VJ) (d:=(0,false,0)) h);have HN4:=hD (fun (n j:Nat) (hn:m.globs.length=n) (hj:j<n) (h:VJ (m.globs.getD j (0,false,0)) (o.globs.getD j (0,false,0))=false)=>W6 (e:=VJ) hn hj h);have HY4:=hD (fun (n:Nat) (hn:m.globs.length=n) (hm:o.globs.length=n) (h:UI VJ (0,false,0) m.globs o.globs n)=>VA (e:=VJ) hn hm h);generalize Ww VJ (0,false,0) m.globs o.globs=b4 at HR HL4 HN4 HY4;have HL5:=hD (fun (h:m.exps.length≠o.exps.length)=>WQ (e:=UA) (d:=(ByteArray.empty,0,0)) h);have HN5:=hD (fun (n j:Nat) (hn:m.exps.length=n) (hj:j<n) (h:UA (m.exps.getD j (ByteArray.empty,0,0)) (o.exps.getD j (ByteArray.empty,0,0))=false)=>W6 (e:=UA) hn hj h);have HY5:=hD (fun (n:Nat) (hn:m.exps.length=n) (hm:o.exps.length=n) (h:UI UA (ByteArray.empty,0,0) m.exps o.exps n)=>VA (e:=UA) hn hm h);generalize Ww UA (ByteArray.empty,0,0) m.exps o.exps=b5 at HR HL5 HN5 HY5;have HL6:=hD (fun (h:m.datas.length≠o.datas.length)=>WQ (e:=UB) (d:=VC) h);have HN6:=hD (fun (n j:Nat) (hn:m.datas.length=n) (hj:j<n) (h:UB (m.datas.getD j VC) (o.datas.getD j VC)=false)=>W6 (e:=UB) hn hj h);have HY6:=hD (fun (n:Nat) (hn:m.datas.length=n) (hm:o.datas.length=n) (h:UI UB VC m.datas o.datas n)=>VA (e:=UB) hn hm h);generalize Ww UB VC m.datas o.datas=b6 at HR HL6 HN6 HY6;have HL7:=hD (fun (h:m.cus.length≠o.cus.length)=>WQ (e:=UE) (d:=(ByteArray.empty,[])) h);have HN7:=hD (fun (n j:Nat) (hn:m.cus.length=n) (hj:j<n) (h:UE (m.cus.getD j (ByteArray.empty,[])) (o.cus.getD j (ByteArray.empty,[]))=false)=>W6 (e:=UE) hn hj h);have HY7:=hD (fun (n:Nat) (hn:m.cus.length=n) (hm:o.cus.length=n) (h:UI UE (ByteArray.empty,[]) m.cus o.cus n)=>VA (e:=UE) hn hm h);generalize Ww UE (ByteArray.empty,[]) m.cus o.cus=b7 at HR HL7 HN7 HY7;obtain⟨A0,c0,A1,c1,A2,c2,A3,c3,A4,c4,A5,c5,A6,c6,A7,c7,rfl⟩:=WI h1;obtain⟨B0,e0,B1,e1,B2,e2,B3,e3,B4,e4,B5,e5,B6,e6,B7,e7,rfl⟩:=WI h2;simp only[Mv.cells];have lm3:m.mems.length≤maxLen:=(Wb.form h1.mems).elim fun _ h=>h.elim fun _ h=>Nat.le_trans h.2.1 h.2.2;unfold maxLen at lm3;have lm4:m.globs.length≤maxLen:=(Wb.form h1.globs).elim fun _ h=>h.elim fun _ h=>Nat.le_trans h.2.1 h.2.2;unfold maxLen at lm4;have lm5:m.exps.length≤maxLen:=(Wb.form h1.exps).elim fun _ h=>h.elim fun _ h=>Nat.le_trans h.2.1 h.2.2;unfold maxLen at lm5;have lm6:m.datas.length≤maxLen:=(Wb.form h1.datas).elim fun _ h=>h.elim fun _ h=>Nat.le_trans h.2.1 h.2.2;unfold maxLen at lm6;have lm7:m.cus.length≤maxLen:=(Wb.form h1.cus).elim fun _ h=>h.elim fun _ h=>Nat.le_trans h.2.1 h.2.2;unfold maxLen at lm7;clear h1 h2;obtain⟨n0,hn0⟩:∃ n,m.types.length=n:=⟨_,rfl⟩;obtain⟨k0,hk0⟩:∃ n,o.types.length=n:=⟨_,rfl⟩;rw[hn0,hk0];have HQ0:=hD hn0;have HK0:=hD hk0;clear hn0 hk0;obtain⟨n1,hn1⟩:∃ n,m.imps.length=n:=⟨_,rfl⟩;obtain⟨k1,hk1⟩:∃ n,o.imps.length=n:=⟨_,rfl⟩;rw[hn1,hk1];have HQ1:=hD hn1;have HK1:=hD hk1;clear hn1 hk1;obtain⟨n2,hn2⟩:∃ n,m.funs.length=n:=⟨_,rfl⟩;obtain⟨k2,hk2⟩:∃ n,o.funs.length=n:=⟨_,rfl⟩;rw[hn2,hk2];have HQ2:=hD hn2;have HK2:=hD hk2;clear hn2 hk2;obtain⟨n3,hn3⟩:∃ n,m.mems.length=n:=⟨_,rfl⟩;obtain⟨k3,hk3⟩:∃ n,o.mems.length=n:=⟨_,rfl⟩;rw[hn3,hk3];rw[hn3]at lm3;have q3:n3=k3:=by rw[← hn3,← hk3];exact hl.1
 have HQ3:=hD hn3;have HK3:=hD hk3;clear hn3 hk3;obtain⟨n4,hn4⟩:∃ n,m.globs.length=n:=⟨_,rfl⟩;obtain⟨k4,hk4⟩:∃ n,o.globs.length=n:=⟨_,rfl⟩;rw[hn4,hk4];rw[hn4]at lm4;have q4:n4=k4:=by rw[← hn4,← hk4];exact hl.2.1
 have HQ4:=hD hn4;have HK4:=hD hk4;clear hn4 hk4;obtain⟨n5,hn5⟩:∃ n,m.exps.length=n:=⟨_,rfl⟩;obtain⟨k5,hk5⟩:∃ n,o.exps.length=n:=⟨_,rfl⟩;rw[hn5,hk5];rw[hn5]at lm5;have q5:n5=k5:=by rw[← hn5,← hk5];exact hl.2.2.1
 have HQ5:=hD hn5;have HK5:=hD hk5;clear hn5 hk5;obtain⟨n6,hn6⟩:∃ n,m.datas.length=n:=⟨_,rfl⟩;obtain⟨k6,hk6⟩:∃ n,o.datas.length=n:=⟨_,rfl⟩;rw[hn6,hk6];rw[hn6]at lm6;have q6:n6=k6:=by rw[← hn6,← hk6];exact hl.2.2.2.1
 have HQ6:=hD hn6;have HK6:=hD hk6;clear hn6 hk6;obtain⟨n7,hn7⟩:∃ n,m.cus.length=n:=⟨_,rfl⟩;obtain⟨k7,hk7⟩:∃ n,o.cus.length=n:=⟨_,rfl⟩;rw[hn7,hk7];rw[hn7]at lm7;have q7:n7=k7:=by rw[← hn7,← hk7];exact hl.2.2.2.2
 have HQ7:=hD hn7;have HK7:=hD hk7;clear hn7 hk7;clear hl;subst q3;subst q4;subst q5;subst q6;subst q7;obtain⟨W,hW⟩:∃ W,W=w.alloc (.cells #[.slice A0 n0 c0,.slice A1 n1 c1,.slice A2 n2 c2,.slice A3 n3 c3,.slice A4 n4 c4,.slice A5 n5 c5,.slice A6 n6 c6,.slice A7 n7 c7] 36):=⟨_,rfl⟩;obtain⟨W2,hW2⟩:∃ W2,W2=W.alloc (.cells #[.slice B0 k0 e0,.slice B1 k1 e1,.slice B2 k2 e2,.slice B3 n3 e3,.slice B4 n4 e4,.slice B5 n5 e5,.slice B6 n6 e6,.slice B7 n7 e7] 36):=⟨_,rfl⟩;have hb1:Below w.heap.size w W:=by rw[hW];exact(bR _ _).alloc (nR _) _
 have hb2:Below W.heap.size W W2:=by rw[hW2];exact(bR _ _).alloc (nR _) _
 have hs:W.heap.size=w.heap.size+1:=by rw[hW];simp
 have HX1:=hD (fun wz (hb:Below W2.heap.size W2 wz)=>(show Box8 wz w.heap.size (.slice A0 n0 c0) (.slice A1 n1 c1) (.slice A2 n2 c2) (.slice A3 n3 c3) (.slice A4 n4 c4) (.slice A5 n5 c5) (.slice A6 n6 c6) (.slice A7 n7 c7) from by have hb:=Wa hb2 hb;subst hW;exact Vb w (.slice A0 n0 c0) (.slice A1 n1 c1) (.slice A2 n2 c2) (.slice A3 n3 c3) (.slice A4 n4 c4) (.slice A5 n5 c5) (.slice A6 n6 c6) (.slice A7 n7 c7) hb));have HX2:=hD (fun wz (hb:Below W2.heap.size W2 wz)=>(show Box8 wz (w.heap.size+1) (.slice B0 k0 e0) (.slice B1 k1 e1) (.slice B2 k2 e2) (.slice B3 n3 e3) (.slice B4 n4 e4) (.slice B5 n5 e5) (.slice B6 n6 e6) (.slice B7 n7 e7) from by rw[← hs];subst hW2;exact Vb W (.slice B0 k0 e0) (.slice B1 k1 e1) (.slice B2 k2 e2) (.slice B3 n3 e3) (.slice B4 n4 e4) (.slice B5 n5 e5) (.slice B6 n6 e6) (.slice B7 n7 e7) hb));have HBW:=hD (Wa hb1 hb2);clear hb1 hb2 hs;go_enter Tryz.func48,Tryz.ntmps48
 go_upto_region 1 with (fail)
 rw[← hW,← hW2];clear hW hW2;have HB:Hid (Below W2.heap.size W2 W2):=hD (bR _ _);obtain⟨x0,x1,x2,x3,x4,x5,x6,x7⟩:=HX1.out W2 HB.out;obtain⟨y0,y1,y2,y3,y4,y5,y6,y7⟩:=HX2.out W2 HB.out;go_wp2_with fail
 go_loopw [15] (fun i wr=>∃ k:Nat,k≤n3∧i=.int .i64 (k:Int)∧Hid (Below W2.heap.size W2 wr)∧Hid (UI UC (0,0) m.mems o.mems k)) (fun i _=>n3 - (intOf i).toNat)
 case atStart=>exact⟨0,nZ _,rfl,HB,hD (UI.zero _ _ _ _)⟩
 case round =>
  clear HB x0 x1 x2 x3 x4 x5 x6 x7 y0 y1 y2 y3 y4 y5 y6 y7;obtain⟨w0,rfl⟩:∃ w0,w0=wr:=⟨_,rfl⟩;obtain⟨k,hk,rfl,HB,HE⟩:=hrel;by_cases hlt:k<n3
  rotate_left
  ·have hd:decide ((k:Int)<(n3:Int))=false:=by simp;omega
   have HT3:=hD (HY3.out n3 HQ3.out HK3.out (show UI UC (0,0) m.mems o.mems n3 by rw[show n3=k by omega];exact HE.out));clear HE HN3 HY3 hk;obtain⟨x0,x1,x2,x3,x4,x5,x6,x7⟩:=HX1.out w0 HB.out;obtain⟨y0,y1,y2,y3,y4,y5,y6,y7⟩:=HX2.out w0 HB.out;go_wp2_with fail
   clear hlt hd;go_loopw [33] (fun i wr=>∃ k:Nat,k≤n4∧i=.int .i64 (k:Int)∧Hid (Below W2.heap.size W2 wr)∧Hid (UI VJ (0,false,0) m.globs o.globs k)) (fun i _=>n4 - (intOf i).toNat)
   case atStart=>exact⟨0,nZ _,rfl,HB,hD (UI.zero _ _ _ _)⟩
   case round =>
    clear HB x0 x1 x2 x3 x4 x5 x6 x7 y0 y1 y2 y3 y4 y5 y6 y7;obtain⟨w0,rfl⟩:∃ w0,w0=wr:=⟨_,rfl⟩;obtain⟨k,hk,rfl,HB,HE⟩:=hrel;by_cases hlt:k<n4
    rotate_left
    ·have hd:decide ((k:Int)<(n4:Int))=false:=by simp;omega
     have HT4:=hD (HY4.out n4 HQ4.out HK4.out (show UI VJ (0,false,0) m.globs o.globs n4 by rw[show n4=k by omega];exact HE.out));clear HE HN4 HY4 hk;obtain⟨x0,x1,x2,x3,x4,x5,x6,x7⟩:=HX1.out w0 HB.out;obtain⟨y0,y1,y2,y3,y4,y5,y6,y7⟩:=HX2.out w0 HB.out;go_wp2_with fail
     clear hlt hd;go_loopw [51] (fun i wr=>∃ k:Nat,k≤n5∧i=.int .i64 (k:Int)∧Hid (Below W2.heap.size W2 wr)∧Hid (UI UA (ByteArray.empty,0,0) m.exps o.exps k)) (fun i _=>n5 - (intOf i).toNat)
     case atStart=>exact⟨0,nZ _,rfl,HB,hD (UI.zero _ _ _ _)⟩
     case round =>
      clear HB x0 x1 x2 x3 x4 x5 x6 x7 y0 y1 y2 y3 y4 y5 y6 y7;obtain⟨w0,rfl⟩:∃ w0,w0=wr:=⟨_,rfl⟩;obtain⟨k,hk,rfl,HB,HE⟩:=hrel;by_cases hlt:k<n5
      rotate_left
      ·have hd:decide ((k:Int)<(n5:Int))=false:=by simp;omega
       have HT5:=hD (HY5.out n5 HQ5.out HK5.out (show UI UA (ByteArray.empty,0,0) m.exps o.exps n5 by rw[show n5=k by omega];exact HE.out));clear HE HN5 HY5 hk;obtain⟨x0,x1,x2,x3,x4,x5,x6,x7⟩:=HX1.out w0 HB.out;obtain⟨y0,y1,y2,y3,y4,y5,y6,y7⟩:=HX2.out w0 HB.out;go_wp2_with fail
       clear hlt hd;go_loopw [69] (fun i wr=>∃ k:Nat,k≤n6∧i=.int .i64 (k:Int)∧Hid (Below W2.heap.size W2 wr)∧Hid (UI UB VC m.datas o.datas k)) (fun i _=>n6 - (intOf i).toNat)
       case atStart=>exact⟨0,nZ _,rfl,HB,hD (UI.zero _ _ _ _)⟩
       case round =>
        clear HB x0 x1 x2 x3 x4 x5 x6 x7 y0 y1 y2 y3 y4 y5 y6 y7;obtain⟨w0,rfl⟩:∃ w0,w0=wr:=⟨_,rfl⟩;obtain⟨k,hk,rfl,HB,HE⟩:=hrel;by_cases hlt:k<n6
        rotate_left
        ·have hd:decide ((k:Int)<(n6:Int))=false:=by simp;omega
         have HT6:=hD (HY6.out n6 HQ6.out HK6.out (show UI UB VC m.datas o.datas n6 by rw[show n6=k by omega];exact HE.out));clear HE HN6 HY6 hk;obtain⟨x0,x1,x2,x3,x4,x5,x6,x7⟩:=HX1.out w0 HB.out;obtain⟨y0,y1,y2,y3,y4,y5,y6,y7⟩:=HX2.out w0 HB.out;go_wp2_with fail
         clear hlt hd;go_loopw [114] (fun i wr=>∃ k:Nat,k≤n7∧i=.int .i64 (k:Int)∧Hid (Below W2.heap.size W2 wr)∧Hid (UI UE (ByteArray.empty,[]) m.cus o.cus k)) (fun i _=>n7 - (intOf i).toNat)
         case atStart=>exact⟨0,nZ _,rfl,HB,hD (UI.zero _ _ _ _)⟩
         case round =>
          clear HB x0 x1 x2 x3 x4 x5 x6 x7 y0 y1 y2 y3 y4 y5 y6 y7;obtain⟨w0,rfl⟩:∃ w0,w0=wr:=⟨_,rfl⟩;obtain⟨k,hk,rfl,HB,HE⟩:=hrel;by_cases hlt:k<n7
          rotate_left
          ·have hd:decide ((k:Int)<(n7:Int))=false:=by simp;omega
           have HT7:=hD (HY7.out n7 HQ7.out HK7.out (show UI UE (ByteArray.empty,[]) m.cus o.cus n7 by rw[show n7=k by omega];exact HE.out));clear HE HN7 HY7 hk;obtain⟨x0,x1,x2,x3,x4,x5,x6,x7⟩:=HX1.out w0 HB.out;obtain⟨y0,y1,y2,y3,y4,y5,y6,y7⟩:=HX2.out w0 HB.out;have HF:=hD (show R=true by rw[HR.out,HT3.out,HT4.out,HT5.out,HT6.out,HT7.out];rfl);go_wp2;go_ret;exact⟨WA (by rw[HF.out]),Wa HBW.out HB.out⟩
          ·have hkn:(0:Int)≤(k:Int)∧(k:Int)<(n7:Int):=by omega
           have hd:decide ((k:Int)<(n7:Int))=true:=by simp;omega
           have hA1:=(H1.out w0 (Wa HBW.out HB.out)).cus;have hA2:=(H2.out w0 (Wa HBW.out HB.out)).cus;obtain⟨g1,o1,c9,he,_,_⟩:=Wb.some_ hA1 (by rw[HQ7.out];omega);simp only[vI]at he;obtain⟨rfl,-,-⟩:=he;obtain⟨g2,o2,c9,he,_,_⟩:=Wb.some_ hA2 (by rw[HK7.out];omega);simp only[vI]at he;obtain⟨rfl,-,-⟩:=he;obtain⟨u10,k10,f10⟩:=Wb.at_ hA1 k 0 (by rw[HQ7.out];exact hlt) (by decide);obtain⟨u11,k11,f11⟩:=Wb.at_ hA1 k 1 (by rw[HQ7.out];exact hlt) (by decide);obtain⟨u20,k20,f20⟩:=Wb.at_ hA2 k 0 (by rw[HK7.out];exact hlt) (by decide);obtain⟨u21,k21,f21⟩:=Wb.at_ hA2 k 1 (by rw[HK7.out];exact hlt) (by decide);have HYE:=hD (fun (h:UE (m.cus.getD k (ByteArray.empty,[])) (o.cus.getD k (ByteArray.empty,[]))=true)=>HE.out.succ h);have HNE:=hD (fun (h:UE (m.cus.getD k (ByteArray.empty,[])) (o.cus.getD k (ByteArray.empty,[]))=false)=>HN7.out n7 k HQ7.out hlt h);clear hA1 hA2;generalize m.cus.getD k (ByteArray.empty,[])=x at f10 f11 HYE HNE;obtain⟨x0,x1⟩:=x;obtain rfl:u10=.string x0:=f10;have f11:WD (fun k=>k<w0.heap.size) w0 u11 x1:=f11;obtain⟨P11,e11,rfl,_,_⟩:=WD.form f11;generalize o.cus.getD k (ByteArray.empty,[])=y at f20 f21 HYE HNE;obtain⟨y0,y1⟩:=y;obtain rfl:u20=.string y0:=f20;have f21:WD (fun k=>k<w0.heap.size) w0 u21 y1:=f21;obtain⟨P21,e21,rfl,_,_⟩:=WD.form f21;rw[Nat.add_zero]at k10 k20;obtain⟨a0,a1,a2,a3,a4,a5,a6,a7⟩:=HX1.out w0 HB.out;obtain⟨b0,b1,b2,b3,b4,b5,b6,b7⟩:=HX2.out w0 HB.out;rw[show UE ⟨x0,x1⟩ ⟨y0,y1⟩=(V4 x0 y0 && (Un x1 y1)) from rfl]at HYE HNE;have S1:=hD (fun wz (hb:Below w0.heap.size w0 wz)=>bytes_str wz _ _ (WD.keep f11 (We.below hb fun _ hk=>hk) fun _ hk=>WK hk hb.size));have S2:=hD (fun wz (hb:Below w0.heap.size w0 wz)=>bytes_str wz _ _ (WD.keep f21 (We.below hb fun _ hk=>hk) fun _ hk=>WK hk hb.size));have hse:=str_bytes x1 y1 f11.small f21.small;generalize Un x1 y1=bl at hse HYE HNE;generalize strS x1=sx at S1 hse;generalize strS y1=sy at S2 hse;generalize x1.length=m11 at *;generalize y1.length=m21 at *;clear f11 f21;have HFC:=hD (fun wz (hb:Below w0.heap.size w0 wz)=>(show wz.cell? ⟨g1,o1+k * 2,none⟩=some (.string x0)∧wz.cell? ⟨g1,o1+k * 2+1,none⟩=some (.slice P11 m11 e11)∧wz.cell? ⟨g2,o2+k * 2,none⟩=some (.string y0)∧wz.cell? ⟨g2,o2+k * 2+1,none⟩=some (.slice P21 m21 e21)∧wz.cell? ⟨w.heap.size,7,none⟩=some (.slice (some ⟨g1,o1,none⟩) n7 c7)∧wz.cell? ⟨w.heap.size+1,7,none⟩=some (.slice (some ⟨g2,o2,none⟩) n7 e7) from ⟨(hb.cell (p:=⟨g1,o1+k * 2,none⟩) (wL _ _ k10)).trans k10,(hb.cell (p:=⟨g1,o1+k * 2+1,none⟩) (wL _ _ k11)).trans k11,(hb.cell (p:=⟨g2,o2+k * 2,none⟩) (wL _ _ k20)).trans k20,(hb.cell (p:=⟨g2,o2+k * 2+1,none⟩) (wL _ _ k21)).trans k21,(hb.cell (p:=⟨w.heap.size,7,none⟩) (wL _ _ a7)).trans a7,(hb.cell (p:=⟨w.heap.size+1,7,none⟩) (wL _ _ b7)).trans b7⟩));clear a0 a1 a2 a3 a4 a5 a6 a7 b0 b1 b2 b3 b4 b5 b6 b7
           go_upto_region 29 with (fail)
           clear k10 k20 k11 k21;have ds0:=strE_list x0 y0;have dl0:=hse;generalize V4 x0 y0=b0' at ds0 HYE HNE;cases b0' with
           | false =>
            exact Zm
           | true =>
            rw[Bool.true_and]at HYE HNE;cases bl with
            | false =>
             exact Zm
            | true =>
             have HY2:=hD (HYE.out (by simp));clear HYE HNE;refine wp_region_held_drew (S:=fun wz=>Below w0.heap.size w0 wz) (by kernel_rfl) ((bR _ _).drew) (fun hS=>?_);show wpAnyH _ _ _ _ _ 30 #[false,false,false,false,false,false,false,false,false,false,false,false,false,false,false,false,false,false,false,false,false,false,false,false,false,false,false,false,false,false] _ _;first|refine mT 0 117 rfl hS ?_|refine mN 0 117 rfl hS ?_
             first|refine mT 1 118 rfl hS ?_ (hy:=by intro wS hSw;obtain⟨s0,s1,s2,s3,s4,s5⟩:=HFC.out wS hSw;go_simp;try with_reducible rfl)|refine mN 1 118 rfl hS ?_
             first|refine mT 2 119 rfl hS ?_|refine mN 2 119 rfl hS ?_
             first|refine mT 3 120 rfl hS ?_|refine mN 3 120 rfl hS ?_
             first|refine mT 4 121 rfl hS ?_|refine mN 4 121 rfl hS ?_
             first|refine mT 5 122 rfl hS ?_ (hy:=by intro wS hSw;obtain⟨s0,s1,s2,s3,s4,s5⟩:=HFC.out wS hSw;go_simp;try with_reducible rfl)|refine mN 5 122 rfl hS ?_
             first|refine mT 6 123 rfl hS ?_|refine mN 6 123 rfl hS ?_
             first|refine mT 7 124 rfl hS ?_ (hy:=by intro wS hSw;obtain⟨s0,s1,s2,s3,s4,s5⟩:=HFC.out wS hSw;go_simp;try with_reducible rfl)|refine mN 7 124 rfl hS ?_
             first|refine mT 8 125 rfl hS ?_|refine mN 8 125 rfl hS ?_
             first|refine mT 9 126 rfl hS ?_|refine mN 9 126 rfl hS ?_
             first|refine mT 10 127 rfl hS ?_|refine mN 10 127 rfl hS ?_
             first|refine mT 11 128 rfl hS ?_ (hy:=by intro wS hSw;obtain⟨s0,s1,s2,s3,s4,s5⟩:=HFC.out wS hSw;go_simp;try with_reducible rfl)|refine mN 11 128 rfl hS ?_
             first|refine mT 12 129 rfl hS ?_|refine mN 12 129 rfl hS ?_
             first|refine mT 13 130 rfl hS ?_|refine mN 13 130 rfl hS ?_
             first|refine mT 14 131 rfl hS ?_|refine mN 14 131 rfl hS ?_
             first|refine mT 15 132 rfl hS ?_ (hy:=by intro wS hSw;obtain⟨s0,s1,s2,s3,s4,s5⟩:=HFC.out wS hSw;go_simp;try with_reducible rfl)|refine mN 15 132 rfl hS ?_
             first|refine mT 16 133 rfl hS ?_|refine mN 16 133 rfl hS ?_
             first|refine mT 17 134 rfl hS ?_|refine mN 17 134 rfl hS ?_
             first|refine mT 18 135 rfl hS ?_|refine mN 18 135 rfl hS ?_
             first|refine mT 19 136 rfl hS ?_ (hy:=by intro wS hSw;obtain⟨s0,s1,s2,s3,s4,s5⟩:=HFC.out wS hSw;go_simp;try with_reducible rfl)|refine mN 19 136 rfl hS ?_
             first|refine mT 20 137 rfl hS ?_ (hy:=by intro wS hSw;have q9:=S1.out wS hSw;go_simp;try with_reducible rfl)|refine mN 20 137 rfl hS ?_
             first|refine mT 21 138 rfl hS ?_|refine mN 21 138 rfl hS ?_
             first|refine mT 22 139 rfl hS ?_ (hy:=by intro wS hSw;obtain⟨s0,s1,s2,s3,s4,s5⟩:=HFC.out wS hSw;go_simp;try with_reducible rfl)|refine mN 22 139 rfl hS ?_
             first|refine mT 23 140 rfl hS ?_|refine mN 23 140 rfl hS ?_
             first|refine mT 24 141 rfl hS ?_|refine mN 24 141 rfl hS ?_
             first|refine mT 25 142 rfl hS ?_|refine mN 25 142 rfl hS ?_
             first|refine mT 26 143 rfl hS ?_ (hy:=by intro wS hSw;obtain⟨s0,s1,s2,s3,s4,s5⟩:=HFC.out wS hSw;go_simp;try with_reducible rfl)|refine mN 26 143 rfl hS ?_
             first|refine mT 27 144 rfl hS ?_ (hy:=by intro wS hSw;have q9:=S2.out wS hSw;go_simp;try with_reducible rfl)|refine mN 27 144 rfl hS ?_
             first|refine mT 28 145 rfl hS ?_|refine mN 28 145 rfl hS ?_
             first|refine mT 29 146 rfl hS ?_|refine mN 29 146 rfl hS ?_
             exact Zby
        ·have hkn:(0:Int)≤(k:Int)∧(k:Int)<(n6:Int):=by omega
         have hd:decide ((k:Int)<(n6:Int))=true:=by simp;omega
         have hA1:=(H1.out w0 (Wa HBW.out HB.out)).datas;have hA2:=(H2.out w0 (Wa HBW.out HB.out)).datas;obtain⟨g1,o1,c9,he,_,_⟩:=Wb.some_ hA1 (by rw[HQ6.out];omega);simp only[vI]at he;obtain⟨rfl,-,-⟩:=he;obtain⟨g2,o2,c9,he,_,_⟩:=Wb.some_ hA2 (by rw[HK6.out];omega);simp only[vI]at he;obtain⟨rfl,-,-⟩:=he;obtain⟨u10,k10,f10⟩:=Wb.at_ hA1 k 0 (by rw[HQ6.out];exact hlt) (by decide);obtain⟨u11,k11,f11⟩:=Wb.at_ hA1 k 1 (by rw[HQ6.out];exact hlt) (by decide);obtain⟨u12,k12,f12⟩:=Wb.at_ hA1 k 2 (by rw[HQ6.out];exact hlt) (by decide);obtain⟨u13,k13,f13⟩:=Wb.at_ hA1 k 3 (by rw[HQ6.out];exact hlt) (by decide);obtain⟨u20,k20,f20⟩:=Wb.at_ hA2 k 0 (by rw[HK6.out];exact hlt) (by decide);obtain⟨u21,k21,f21⟩:=Wb.at_ hA2 k 1 (by rw[HK6.out];exact hlt) (by decide);obtain⟨u22,k22,f22⟩:=Wb.at_ hA2 k 2 (by rw[HK6.out];exact hlt) (by decide);obtain⟨u23,k23,f23⟩:=Wb.at_ hA2 k 3 (by rw[HK6.out];exact hlt) (by decide);have HYE:=hD (fun (h:UB (m.datas.getD k VC) (o.datas.getD k VC)=true)=>HE.out.succ h);have HNE:=hD (fun (h:UB (m.datas.getD k VC) (o.datas.getD k VC)=false)=>HN6.out n6 k HQ6.out hlt h);clear hA1 hA2;generalize m.datas.getD k VC=x at f10 f11 f12 f13 HYE HNE;obtain⟨x0,x1,x2,x3⟩:=x;obtain rfl:u10=.bool x0:=f10;obtain rfl:u11=.int .i64 x1:=f11;obtain rfl:u12=.int .i64 x2:=f12;have f13:WD (fun k=>k<w0.heap.size) w0 u13 x3:=f13;obtain⟨P13,e13,rfl,_,_⟩:=WD.form f13;generalize o.datas.getD k VC=y at f20 f21 f22 f23 HYE HNE;obtain⟨y0,y1,y2,y3⟩:=y;obtain rfl:u20=.bool y0:=f20;obtain rfl:u21=.int .i64 y1:=f21;obtain rfl:u22=.int .i64 y2:=f22;have f23:WD (fun k=>k<w0.heap.size) w0 u23 y3:=f23;obtain⟨P23,e23,rfl,_,_⟩:=WD.form f23;rw[Nat.add_zero]at k10 k20;obtain⟨a0,a1,a2,a3,a4,a5,a6,a7⟩:=HX1.out w0 HB.out;obtain⟨b0,b1,b2,b3,b4,b5,b6,b7⟩:=HX2.out w0 HB.out;rw[show UB ⟨x0,x1,x2,x3⟩ ⟨y0,y1,y2,y3⟩=(x0==y0 && (x1==y1 && (x2==y2 && (Un x3 y3)))) from rfl]at HYE HNE;have S1:=hD (fun wz (hb:Below w0.heap.size w0 wz)=>bytes_str wz _ _ (WD.keep f13 (We.below hb fun _ hk=>hk) fun _ hk=>WK hk hb.size));have S2:=hD (fun wz (hb:Below w0.heap.size w0 wz)=>bytes_str wz _ _ (WD.keep f23 (We.below hb fun _ hk=>hk) fun _ hk=>WK hk hb.size));have hse:=str_bytes x3 y3 f13.small f23.small;generalize Un x3 y3=bl at hse HYE HNE;generalize strS x3=sx at S1 hse;generalize strS y3=sy at S2 hse;generalize x3.length=m13 at *;generalize y3.length=m23 at *;clear f13 f23;have HFC:=hD (fun wz (hb:Below w0.heap.size w0 wz)=>(show wz.cell? ⟨g1,o1+k * 4,none⟩=some (.bool x0)∧wz.cell? ⟨g1,o1+k * 4+1,none⟩=some (.int .i64 x1)∧wz.cell? ⟨g1,o1+k * 4+2,none⟩=some (.int .i64 x2)∧wz.cell? ⟨g1,o1+k * 4+3,none⟩=some (.slice P13 m13 e13)∧wz.cell? ⟨g2,o2+k * 4,none⟩=some (.bool y0)∧wz.cell? ⟨g2,o2+k * 4+1,none⟩=some (.int .i64 y1)∧wz.cell? ⟨g2,o2+k * 4+2,none⟩=some (.int .i64 y2)∧wz.cell? ⟨g2,o2+k * 4+3,none⟩=some (.slice P23 m23 e23)∧wz.cell? ⟨w.heap.size,6,none⟩=some (.slice (some ⟨g1,o1,none⟩) n6 c6)∧wz.cell? ⟨w.heap.size+1,6,none⟩=some (.slice (some ⟨g2,o2,none⟩) n6 e6) from ⟨(hb.cell (p:=⟨g1,o1+k * 4,none⟩) (wL _ _ k10)).trans k10,(hb.cell (p:=⟨g1,o1+k * 4+1,none⟩) (wL _ _ k11)).trans k11,(hb.cell (p:=⟨g1,o1+k * 4+2,none⟩) (wL _ _ k12)).trans k12,(hb.cell (p:=⟨g1,o1+k * 4+3,none⟩) (wL _ _ k13)).trans k13,(hb.cell (p:=⟨g2,o2+k * 4,none⟩) (wL _ _ k20)).trans k20,(hb.cell (p:=⟨g2,o2+k * 4+1,none⟩) (wL _ _ k21)).trans k21,(hb.cell (p:=⟨g2,o2+k * 4+2,none⟩) (wL _ _ k22)).trans k22,(hb.cell (p:=⟨g2,o2+k * 4+3,none⟩) (wL _ _ k23)).trans k23,(hb.cell (p:=⟨w.heap.size,6,none⟩) (wL _ _ a6)).trans a6,(hb.cell (p:=⟨w.heap.size+1,6,none⟩) (wL _ _ b6)).trans b6⟩));clear a0 a1 a2 a3 a4 a5 a6 a7 b0 b1 b2 b3 b4 b5 b6 b7
         go_upto_region 22 with (fail)
         clear k10 k20 k11 k21 k12 k22 k13 k23
         go_cut [9,10] from 70 to 110 (fun p q wx=>∃ (P Q:Nat),p=.pointer (some ⟨P,0,none⟩)∧q=.pointer (some ⟨Q,0,none⟩)∧Hid (Below w0.heap.size w0 wx)∧Hid (Cells4 wx P (.bool x0) (.int .i64 x1) (.int .i64 x2) (.slice P13 m13 e13))∧Hid (Cells4 wx Q (.bool y0) (.int .i64 y1) (.int .i64 y2) (.slice P23 m23 e23)))
         case first =>
          refine Wf.start (X:=13) (S:=fun w'=>Below w0.heap.size w0 w') (by kernel_rfl) ?_;have hS:Below w0.heap.size w0 w0.drew:=(bR _ _).drew;generalize w0.drew=w5 at hS ⊢;have HS5:=hD hS;show Wf _ _ _ _ _ _ 14 #[false,false,false,false,false,false,false,false,false,false,false,false,false,false] _ _;refine Wf.tk 0 72 rfl hS ?_;refine Wf.tk 1 73 rfl hS ?_ (hy:=by intro wS hSw;obtain⟨s0,s1,s2,s3,s4,s5,s6,s7,s8,s9⟩:=HFC.out wS hSw;go_simp;try with_reducible rfl);refine Wf.tk 2 74 rfl hS ?_;refine Wf.tk 3 75 rfl hS ?_;refine Wf.tk 4 76 rfl hS ?_ (hy:=by intro wS hSw;obtain⟨s0,s1,s2,s3,s4,s5,s6,s7,s8,s9⟩:=HFC.out wS hSw;go_simp;try with_reducible rfl);refine Wf.tk 5 77 rfl hS ?_;refine Wf.tk 6 78 rfl hS ?_ (hy:=by intro wS hSw;obtain⟨s0,s1,s2,s3,s4,s5,s6,s7,s8,s9⟩:=HFC.out wS hSw;go_simp;try with_reducible rfl);refine Wf.tk 7 79 rfl hS ?_;refine Wf.tk 8 80 rfl hS ?_;refine Wf.tk 9 81 rfl hS ?_ (hy:=by intro wS hSw;obtain⟨s0,s1,s2,s3,s4,s5,s6,s7,s8,s9⟩:=HFC.out wS hSw;go_simp;try with_reducible rfl);clear HFC;refine Wf.two (i:=10) (j:=11) (by kernel_rfl) ?_ ?_
          ·refine Wp.m 9 rfl fun K hK=>?_;go_simp;refine hK.out _ _ (.inr (Wg hS _)) ?_;clear hK K;try simp only[sA,List.set]
           have hP:=alloc_at w5 #[.bool false,.int .i64 0,.int .i64 0,.slice none 0 0] 59;have lP:w0.heap.size≤w5.heap.size:=hS.size;replace hS:=Wg hS (.cells #[.bool false,.int .i64 0,.int .i64 0,.slice none 0 0] 59);generalize w5.heap.size=P at *;generalize w5.alloc (.cells #[.bool false,.int .i64 0,.int .i64 0,.slice none 0 0] 59)=w6 at *;refine Wf.om 11 10 rfl fun K hK=>?_;go_simp;refine hK.out _ _ (.inr (Wg hS _)) ?_;clear hK K;try simp only[sA,List.set]
           have hQ:=alloc_at w6 #[.bool false,.int .i64 0,.int .i64 0,.slice none 0 0] 59;have lQ:w0.heap.size≤w6.heap.size:=hS.size;have hne:P≠w6.heap.size:=Nat.ne_of_lt (Array.getElem?_eq_some_iff.1 hP).1;replace hP:=(Below.heap_alloc w6 (.cells #[.bool false,.int .i64 0,.int .i64 0,.slice none 0 0] 59) _ (Array.getElem?_eq_some_iff.1 hP).1).trans hP;replace hS:=Wg hS (.cells #[.bool false,.int .i64 0,.int .i64 0,.slice none 0 0] 59);generalize w6.heap.size=Q at *;generalize w6.alloc (.cells #[.bool false,.int .i64 0,.int .i64 0,.slice none 0 0] 59)=w7 at *;exact ZF
          ·refine Wp.m 10 rfl fun K hK=>?_;go_simp;refine hK.out _ _ (.inr (Wg hS _)) ?_;clear hK K;try simp only[sA,List.set]
           have hQ:=alloc_at w5 #[.bool false,.int .i64 0,.int .i64 0,.slice none 0 0] 59;have lQ:w0.heap.size≤w5.heap.size:=hS.size;replace hS:=Wg hS (.cells #[.bool false,.int .i64 0,.int .i64 0,.slice none 0 0] 59);generalize w5.heap.size=Q at *;generalize w5.alloc (.cells #[.bool false,.int .i64 0,.int .i64 0,.slice none 0 0] 59)=w6 at *;refine Wf.om 10 9 rfl fun K hK=>?_;go_simp;refine hK.out _ _ (.inr (Wg hS _)) ?_;clear hK K;try simp only[sA,List.set]
           have hP:=alloc_at w6 #[.bool false,.int .i64 0,.int .i64 0,.slice none 0 0] 59;have lP:w0.heap.size≤w6.heap.size:=hS.size;have hne:Q≠w6.heap.size:=Nat.ne_of_lt (Array.getElem?_eq_some_iff.1 hQ).1;replace hQ:=(Below.heap_alloc w6 (.cells #[.bool false,.int .i64 0,.int .i64 0,.slice none 0 0] 59) _ (Array.getElem?_eq_some_iff.1 hQ).1).trans hQ;replace hS:=Wg hS (.cells #[.bool false,.int .i64 0,.int .i64 0,.slice none 0 0] 59);generalize w6.heap.size=P at *;generalize w6.alloc (.cells #[.bool false,.int .i64 0,.int .i64 0,.slice none 0 0] 59)=w7 at *;replace hne:=hne.symm;exact ZF
         case rest =>
          obtain⟨P,Q,rfl,rfl,HB5,HP5,HQ5⟩:=hcut;obtain⟨w9,rfl⟩:∃ w9,w9=wc:=⟨_,rfl⟩;obtain⟨z0,z1,z2,z3⟩:=HP5.out;obtain⟨s0,s1,s2,s3⟩:=HQ5.out;have q1:=S1.out w9 HB5.out;have q2:=S2.out w9 HB5.out;clear S1 S2 HFC HP5 HQ5;by_cases hc0:x0=y0
          rotate_left
          ·have hn0:(x0==y0)=false:=by simpa using hc0
           have hm0:(x0 != y0)=true:=by simpa using hc0
           rw[hn0]at HNE;exact Zba
          ·subst hc0;have hm0:(x0 != x0)=false:=by simp
           rw[show(x0==x0)=true by simp,Bool.true_and]at HYE HNE;by_cases hc1:x1=y1
           rotate_left
           ·have hn1:(x1==y1)=false:=by simpa using hc1
            have hm1:(x1 != y1)=true:=by simpa using hc1
            rw[hn1]at HNE;exact Zba
           ·subst hc1;have hm1:(x1 != x1)=false:=by simp
            rw[show(x1==x1)=true by simp,Bool.true_and]at HYE HNE;by_cases hc2:x2=y2
            rotate_left
            ·have hn2:(x2==y2)=false:=by simpa using hc2
             have hm2:(x2 != y2)=true:=by simpa using hc2
             rw[hn2]at HNE;exact Zba
            ·subst hc2;have hm2:(x2 != x2)=false:=by simp
             rw[show(x2==x2)=true by simp,Bool.true_and]at HYE HNE;cases bl with
             | false =>
              exact Zba
             | true =>
              have HY2:=hD (HYE.out (by simp));clear HYE HNE;go_wp2;go_roundw
              case rel=>exact⟨k+1,by omega,by go_num,hD (Wa HB.out HB5.out),HY2⟩
              case measure=>simp[intOf];omega
      ·have hkn:(0:Int)≤(k:Int)∧(k:Int)<(n5:Int):=by omega
       have hd:decide ((k:Int)<(n5:Int))=true:=by simp;omega
       have hA1:=(H1.out w0 (Wa HBW.out HB.out)).exps;have hA2:=(H2.out w0 (Wa HBW.out HB.out)).exps;obtain⟨g1,o1,c9,he,_,_⟩:=Wb.some_ hA1 (by rw[HQ5.out];omega);simp only[vI]at he;obtain⟨rfl,-,-⟩:=he;obtain⟨g2,o2,c9,he,_,_⟩:=Wb.some_ hA2 (by rw[HK5.out];omega);simp only[vI]at he;obtain⟨rfl,-,-⟩:=he;obtain⟨u10,k10,f10⟩:=Wb.at_ hA1 k 0 (by rw[HQ5.out];exact hlt) (by decide);obtain⟨u11,k11,f11⟩:=Wb.at_ hA1 k 1 (by rw[HQ5.out];exact hlt) (by decide);obtain⟨u12,k12,f12⟩:=Wb.at_ hA1 k 2 (by rw[HQ5.out];exact hlt) (by decide);obtain⟨u20,k20,f20⟩:=Wb.at_ hA2 k 0 (by rw[HK5.out];exact hlt) (by decide);obtain⟨u21,k21,f21⟩:=Wb.at_ hA2 k 1 (by rw[HK5.out];exact hlt) (by decide);obtain⟨u22,k22,f22⟩:=Wb.at_ hA2 k 2 (by rw[HK5.out];exact hlt) (by decide);have HYE:=hD (fun (h:UA (m.exps.getD k (ByteArray.empty,0,0)) (o.exps.getD k (ByteArray.empty,0,0))=true)=>HE.out.succ h);have HNE:=hD (fun (h:UA (m.exps.getD k (ByteArray.empty,0,0)) (o.exps.getD k (ByteArray.empty,0,0))=false)=>HN5.out n5 k HQ5.out hlt h);clear hA1 hA2;generalize m.exps.getD k (ByteArray.empty,0,0)=x at f10 f11 f12 HYE HNE;obtain⟨x0,x1,x2⟩:=x;obtain rfl:u10=.string x0:=f10;obtain rfl:u11=.int .i64 x1:=f11;obtain rfl:u12=.int .i64 x2:=f12;generalize o.exps.getD k (ByteArray.empty,0,0)=y at f20 f21 f22 HYE HNE;obtain⟨y0,y1,y2⟩:=y;obtain rfl:u20=.string y0:=f20;obtain rfl:u21=.int .i64 y1:=f21;obtain rfl:u22=.int .i64 y2:=f22;rw[Nat.add_zero]at k10 k20;obtain⟨a0,a1,a2,a3,a4,a5,a6,a7⟩:=HX1.out w0 HB.out;obtain⟨b0,b1,b2,b3,b4,b5,b6,b7⟩:=HX2.out w0 HB.out;rw[show UA ⟨x0,x1,x2⟩ ⟨y0,y1,y2⟩=(V4 x0 y0 && (x1==y1 && (x2==y2))) from rfl]at HYE HNE;have hnq:=fun w=>neq_exp w x0 y0 x1 y1 x2 y2;generalize (V4 x0 y0 && (x1==y1 && (x2==y2)))=bb at hnq HYE HNE;exact Zz
    ·have hkn:(0:Int)≤(k:Int)∧(k:Int)<(n4:Int):=by omega
     have hd:decide ((k:Int)<(n4:Int))=true:=by simp;omega
     have hA1:=(H1.out w0 (Wa HBW.out HB.out)).globs;have hA2:=(H2.out w0 (Wa HBW.out HB.out)).globs;obtain⟨g1,o1,c9,he,_,_⟩:=Wb.some_ hA1 (by rw[HQ4.out];omega);simp only[vI]at he;obtain⟨rfl,-,-⟩:=he;obtain⟨g2,o2,c9,he,_,_⟩:=Wb.some_ hA2 (by rw[HK4.out];omega);simp only[vI]at he;obtain⟨rfl,-,-⟩:=he;obtain⟨u10,k10,f10⟩:=Wb.at_ hA1 k 0 (by rw[HQ4.out];exact hlt) (by decide);obtain⟨u11,k11,f11⟩:=Wb.at_ hA1 k 1 (by rw[HQ4.out];exact hlt) (by decide);obtain⟨u12,k12,f12⟩:=Wb.at_ hA1 k 2 (by rw[HQ4.out];exact hlt) (by decide);obtain⟨u20,k20,f20⟩:=Wb.at_ hA2 k 0 (by rw[HK4.out];exact hlt) (by decide);obtain⟨u21,k21,f21⟩:=Wb.at_ hA2 k 1 (by rw[HK4.out];exact hlt) (by decide);obtain⟨u22,k22,f22⟩:=Wb.at_ hA2 k 2 (by rw[HK4.out];exact hlt) (by decide);have HYE:=hD (fun (h:VJ (m.globs.getD k (0,false,0)) (o.globs.getD k (0,false,0))=true)=>HE.out.succ h);have HNE:=hD (fun (h:VJ (m.globs.getD k (0,false,0)) (o.globs.getD k (0,false,0))=false)=>HN4.out n4 k HQ4.out hlt h);clear hA1 hA2;generalize m.globs.getD k (0,false,0)=x at f10 f11 f12 HYE HNE;obtain⟨x0,x1,x2⟩:=x;obtain rfl:u10=.int .i64 x0:=f10;obtain rfl:u11=.bool x1:=f11;obtain rfl:u12=.int .u64 x2:=f12.1;generalize o.globs.getD k (0,false,0)=y at f20 f21 f22 HYE HNE;obtain⟨y0,y1,y2⟩:=y;obtain rfl:u20=.int .i64 y0:=f20;obtain rfl:u21=.bool y1:=f21;obtain rfl:u22=.int .u64 y2:=f22.1;rw[Nat.add_zero]at k10 k20;obtain⟨a0,a1,a2,a3,a4,a5,a6,a7⟩:=HX1.out w0 HB.out;obtain⟨b0,b1,b2,b3,b4,b5,b6,b7⟩:=HX2.out w0 HB.out;rw[show VJ ⟨x0,x1,x2⟩ ⟨y0,y1,y2⟩=(x0==y0 && (x1==y1 && (x2==y2))) from rfl]at HYE HNE;have hnq:=fun w=>neq_glob w x0 y0 x1 y1 x2 y2;generalize (x0==y0 && (x1==y1 && (x2==y2)))=bb at hnq HYE HNE;exact Zz
  ·have hkn:(0:Int)≤(k:Int)∧(k:Int)<(n3:Int):=by omega
   have hd:decide ((k:Int)<(n3:Int))=true:=by simp;omega
   have hA1:=(H1.out w0 (Wa HBW.out HB.out)).mems;have hA2:=(H2.out w0 (Wa HBW.out HB.out)).mems;obtain⟨g1,o1,c9,he,_,_⟩:=Wb.some_ hA1 (by rw[HQ3.out];omega);simp only[vI]at he;obtain⟨rfl,-,-⟩:=he;obtain⟨g2,o2,c9,he,_,_⟩:=Wb.some_ hA2 (by rw[HK3.out];omega);simp only[vI]at he;obtain⟨rfl,-,-⟩:=he;obtain⟨u10,k10,f10⟩:=Wb.at_ hA1 k 0 (by rw[HQ3.out];exact hlt) (by decide);obtain⟨u11,k11,f11⟩:=Wb.at_ hA1 k 1 (by rw[HQ3.out];exact hlt) (by decide);obtain⟨u20,k20,f20⟩:=Wb.at_ hA2 k 0 (by rw[HK3.out];exact hlt) (by decide);obtain⟨u21,k21,f21⟩:=Wb.at_ hA2 k 1 (by rw[HK3.out];exact hlt) (by decide);have HYE:=hD (fun (h:UC (m.mems.getD k (0,0)) (o.mems.getD k (0,0))=true)=>HE.out.succ h);have HNE:=hD (fun (h:UC (m.mems.getD k (0,0)) (o.mems.getD k (0,0))=false)=>HN3.out n3 k HQ3.out hlt h);clear hA1 hA2;generalize m.mems.getD k (0,0)=x at f10 f11 HYE HNE;obtain⟨x0,x1⟩:=x;obtain rfl:u10=.int .i64 x0:=f10;obtain rfl:u11=.int .i64 x1:=f11;generalize o.mems.getD k (0,0)=y at f20 f21 HYE HNE;obtain⟨y0,y1⟩:=y;obtain rfl:u20=.int .i64 y0:=f20;obtain rfl:u21=.int .i64 y1:=f21;rw[Nat.add_zero]at k10 k20;obtain⟨a0,a1,a2,a3,a4,a5,a6,a7⟩:=HX1.out w0 HB.out;obtain⟨b0,b1,b2,b3,b4,b5,b6,b7⟩:=HX2.out w0 HB.out;rw[show UC ⟨x0,x1⟩ ⟨y0,y1⟩=(x0==y0 && (x1==y1)) from rfl]at HYE HNE;have hnq:=fun w=>neq_mem w x0 y0 x1 y1;generalize (x0==y0 && (x1==y1))=bb at hnq HYE HNE;exact Zz
end Go.Proofs.YtgmgcadlkebokaaGreatDoor
