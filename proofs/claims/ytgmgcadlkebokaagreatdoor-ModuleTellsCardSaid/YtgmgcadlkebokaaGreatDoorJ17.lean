/- A part of the proof. -/
import Derived.Test.YtgmgcadlkebokaaGreatDoorJ16
import Derived.Test.YtgmgcadlkebokaaGreatDoorJ13
import Derived.OneCell
namespace Go.Proofs.YtgmgcadlkebokaaGreatDoor
section
open Go.RowKit
theorem num_ways (op:Int) (h:WR op=true):op=69∨(70≤op∧op≤79)∨op=80∨(81≤op∧op≤90)∨(97≤op∧op≤102)∨(103≤op∧op≤105)∨(106≤op∧op≤120)∨(121≤op∧op≤123)∨(124≤op∧op≤138)∨(153≤op∧op≤159)∨(160≤op∧op≤166)∨op=167∨op=170∨op=171∨op=172∨op=173∨op=176∨op=177∨op=183∨op=184∨(185≤op∧op≤186)∨op=189∨op=191∨op=192∨op=193∨(194≤op∧op≤196)∨op=64514∨op=64515∨op=64518∨op=64519:=by
 have e:isB op=true∨isF op=true:=by simpa [WR] using h
 rcases e with e|e
 ·have:=of_decide_eq_true e;omega
 ·have:=of_decide_eq_true e;omega
theorem rnum_any (op:Int) (w:World):Calls Tryz.prog 84 #[.int .i64 op] w (Wx op w):=by
 by_cases h:WR op=true
 case neg=>exact rnum_no op (by simpa using h) w
 rcases num_ways op h with rfl|⟨h0,h1⟩|rfl|⟨h0,h1⟩|⟨h0,h1⟩|⟨h0,h1⟩|⟨h0,h1⟩|⟨h0,h1⟩|⟨h0,h1⟩|⟨h0,h1⟩|⟨h0,h1⟩|rfl|rfl|rfl|rfl|rfl|rfl|rfl|rfl|rfl|⟨h0,h1⟩|rfl|rfl|rfl|rfl|⟨h0,h1⟩|rfl|rfl|rfl|rfl
 ·exact rnum_69 w
 ·exact rnum_70 op h0 h1 w
 ·exact rnum_80 w
 ·exact rnum_81 op h0 h1 w
 ·exact rnum_97 op h0 h1 w
 ·exact rnum_103 op h0 h1 w
 ·exact rnum_106 op h0 h1 w
 ·exact rnum_121 op h0 h1 w
 ·exact rnum_124 op h0 h1 w
 ·exact rnum_153 op h0 h1 w
 ·exact rnum_160 op h0 h1 w
 ·exact rnum_167 w
 ·exact rnum_170 w
 ·exact rnum_171 w
 ·exact rnum_172 w
 ·exact rnum_173 w
 ·exact rnum_176 w
 ·exact rnum_177 w
 ·exact rnum_183 w
 ·exact rnum_184 w
 ·exact rnum_185 op h0 h1 w
 ·exact rnum_189 w
 ·exact rnum_191 w
 ·exact rnum_192 w
 ·exact rnum_193 w
 ·exact rnum_194 op h0 h1 w
 ·exact rnum_64514 w
 ·exact rnum_64515 w
 ·exact rnum_64518 w
 ·exact rnum_64519 w
abbrev RNumAt (b:Bool) (w:World) (e:Ending) (w':World):Prop:=∃ ao n c ao' n' c',e=.returned (.tuple #[.slice ao n c,.slice ao' n' c',.bool b])∧Below w.heap.size w w'
theorem rnum_at (op:Int) (b:Bool) (h:WR op=b) (w:World):Calls Tryz.prog 84 #[.int .i64 op] w (RNumAt b w) :=
 (rnum_any op w).mono fun e w' hp=>by
  obtain⟨p,q,rfl,hp,hq,hb⟩:=hp;obtain⟨ao,n,c,rfl⟩:=hp.slice;obtain⟨ao',n',c',rfl⟩:=hq.slice;exact⟨ao,n,c,ao',n',c',by rw[h],hb⟩
end
section
open Go.RowKit
set_option maxHeartbeats 2000000
set_option maxRecDepth 100000
theorem ZcK {P:Prop}(h:P:=by
 rcases hat with h|h
 ·exact HB.out g (h ▸ hg)
 ·have e:=h.symm.trans hg;simp at e;have:=hb.size;omega):P:=h
theorem RowOf.ints {w:World} {v:Value} {l:List Int} (h:RowOf w v l):Wh (fun k=>k<w.heap.size) w v l:=by
 rcases h with ⟨rfl,rfl⟩|⟨g,cap,rfl,h1,h2,h3,h4⟩
 ·exact Wh.nil _ _
 ·exact⟨_,cap,rfl,by unfold maxLen;omega,(fun h=>by cases h),fun _=>⟨g,0,rfl,h1,fun j hj=>by rw[Nat.zero_add];exact h4 j hj⟩⟩
theorem RowNew.ints {w w':World} {v:Value} {l:List Int} (h:RowNew w w' v l):Wh (fun k=>w.heap.size≤k∧k<w'.heap.size) w' v l:=by
 rcases h.1 with ⟨rfl,rfl⟩|⟨g,cap,rfl,h1,h2,h3,h4⟩
 ·exact Wh.nil _ _
 ·exact⟨_,cap,rfl,by unfold maxLen;omega,(fun h=>by cases h),fun _=>⟨g,0,rfl,⟨h.2 g rfl,h1⟩,fun j hj=>by rw[Nat.zero_add];exact h4 j hj⟩⟩
theorem owns_ints_at {K:Nat→Prop} {w:World} {base:Nat} {e:TypeId} {v:Value} {l:List Int} (h:w.ownsRow base e 1 v l.length (l.map (Value.int .i64))) (hl:l.length≤1000000) (hK:∀ g,v.ownBlock=some g→g<w.heap.size→K g):Wh K w v l:=by
 rcases h.2 with ⟨rfl,h0⟩|⟨g,cap,cur,rfl,_⟩
 ·obtain rfl:l=[]:=List.eq_nil_of_length_eq_zero h0;exact Wh.nil _ _
 ·refine⟨_,cap,rfl,by unfold maxLen;omega,(fun h=>by cases h),fun _=>⟨g,0,rfl,hK g rfl (h.lt g rfl).2,fun j hj=>?_⟩⟩;rw[Nat.zero_add,h.cellAt j (by rw[Nat.mul_one];exact hj)];simp[hj]
def OpsPost (w:World) (e:Ending) (w':World):Prop:=∃ (v:Value) (l:List Int),e=.returned v∧Wh (fun k=>w.heap.size≤k∧k<w'.heap.size) w' v l∧0<l.length∧l.length≤200∧(∀ t ∈ l,69≤t∧okB t 0 0 0 []=true)∧Below w.heap.size w w'
theorem ops_any (w:World):Calls Tryz.prog 99 #[] w (OpsPost w):=by
 go_enter Tryz.func99,Tryz.ntmps99;go_wp2_with fail
 go_loopw [1,2,3,4,5] (fun l i _ _ _ wr=>∃ (k:Nat) (xs:List Int),k≤128∧i=.int .i64 (69+(k:Int))∧Hid (wr.ownsRow 0 3 1 l xs.length (xs.map (Value.int .i64)))∧Hid (∀ g,l.ownBlock=some g→w.heap.size≤g)∧xs.length≤k∧Hid (∀ t ∈ xs,69≤t∧okB t 0 0 0 []=true)∧Below w.heap.size w wr) (fun _ i _ _ _ _=>128 - (intOf i - 69).toNat)
 case atStart=>exact⟨0,[],nZ _,by simp,hD (World.ownsRow_nil _ _ _ _),hD (fun g h=>by cases h),by simp,hD (by simp),bR _ _⟩
 case round =>
  obtain⟨k,xs,hk,rfl,HO,HB,hx,HX,hb⟩:=hrel;obtain⟨Al,cl,rfl⟩:=Wd HO.out;by_cases hlt:k<128
  ·have hd:decide (69+(k:Int)≤196)=true:=by simp;omega
   have HR:=hD (rnum_any (69+(k:Int)) wr);unfold Wx at HR;have HNB:=hD (num_ok (69+(k:Int)));generalize WR (69+(k:Int))=bb at HR HNB;go_wp2_with fail
   go_at_call 84;refine HR.out.mono ?_;rintro e w1 ⟨p,q,rfl,hp,hq,hb1⟩;obtain⟨ap,np,cp,rfl⟩:=hp.slice;obtain⟨aq,nq,cq,rfl⟩:=hq.slice;have HO1:=hD (owns_below HO.out hb1);replace hb:=Wa hb hb1;clear hp hq hb1 HR HO;cases bb
   case' true =>
    go_wp2_with (at_builtin;(refine Wm rfl (.tmp 17) (.tmp 19) 22 3 rfl _ 1 8 Tryz.underlying22 Tryz.infoInt rfl (by decide) (by decide) _ xs.length (xs.map (Value.int .i64)) (by rfl) (HO1.out.alloc _) _ 1 [.int .i64 (69+(k:Int))] (by rfl) (by rfl) (Vq w1 _ _ 1 1) (WV [69+(k:Int)]) (by omega) ?_;intro v' w' hown hgr hat))
    have hb2:=(hb.alloc hb.size (.cells #[.int .i64 (69+(k:Int))] 3)).grown hgr (Nat.le_trans hb.size (by simp)) HB.out;have hnew:∀ g,v'.ownBlock=some g→w.heap.size≤g:=fun g hg=>by
     exact ZcK
    go_roundw
    case rel=>exact⟨k+1,xs++[69+(k:Int)],by omega,by simp;omega,hD (by rw[List.length_append,List.map_append];exact hown),hD hnew,by simp;omega,hD (fun t ht=>by
     rcases List.mem_append.1 ht with h|h
     ·exact HX.out t h
     ·obtain rfl:=List.mem_singleton.1 h;exact⟨by omega,HNB.out trivial⟩),hb2⟩
    case measure=>simp[intOf];omega
   case' false =>
    go_wp2;go_roundw
    case rel=>exact⟨k+1,xs,by omega,by simp;omega,HO1,HB,by omega,HX,hb⟩
    case measure=>simp[intOf];omega
  ·obtain rfl:k=128:=by omega
   go_wp2_with (at_builtin;refine Wm rfl (.tmp 21) (.tmp 22) 22 3 rfl _ 1 8 Tryz.underlying22 Tryz.infoInt rfl (by decide) (by decide) _ xs.length (xs.map (Value.int .i64)) (by rfl) (HO.out.alloc _) _ 11 ([64514,64515,64518,64519,192,193,194,195,196,64514,64518].map (Value.int .i64)) (by rfl) (by rfl) (Vq wr _ _ 11 11) (WV _) (by omega) ?_;intro v' w' hown hgr hat)
   have hb2:=(hb.alloc hb.size (.cells #[.int .i64 64514,.int .i64 64515,.int .i64 64518,.int .i64 64519,.int .i64 192,.int .i64 193,.int .i64 194,.int .i64 195,.int .i64 196,.int .i64 64514,.int .i64 64518] 3)).grown hgr (Nat.le_trans hb.size (by simp)) HB.out;go_ret;refine⟨_,xs++[64514,64515,64518,64519,192,193,194,195,196,64514,64518],rfl,?_,by simp,by simp;omega,fun t ht=>?_,hb2⟩
   ·refine owns_ints_at (base:=0) (e:=3) ?_ (by simp;omega) (fun g hg hlt=>⟨?_,hlt⟩)
    ·rw[List.length_append,List.map_append];exact hown
    ·exact ZcK
   ·rcases List.mem_append.1 ht with h|h
    ·exact HX.out t h
    ·exact(show ∀ t ∈ ([64514,64515,64518,64519,192,193,194,195,196,64514,64518]:List Int),69≤t∧okB t 0 0 0 []=true by decide +kernel) t h
end
section
open Go.RowKit
set_option maxHeartbeats 8000000
set_option maxRecDepth 100000
theorem Z1 {P:Prop}(h:P:=by
 refine(HM.out).mono ?_;rintro e w2 ⟨rfl,x2,hg2,hs2,hf2⟩;have HS2:=hD (HS1.out.trans (hs2));have H2:=hD hg2;have HR2:=hD (HR1.out.fine hf2);have c0:=H2.out.c0;clear hg2 hs2 H1 HS1 HR1;clear hf2;go_wp2;go_ret;exact⟨_,rfl,_,H2.out,HS2.out,HR2.out.le (by omega)⟩):P:=h
theorem WJ.newInts {F:Fx} {w w':World} {x:St} (h:WJ F w x) {v:Value} {l:List Int} (hv:Wh (fun k=>w.heap.size≤k∧k<w'.heap.size) w' v l):Wh (Ug F w' x) w' v l:=hv.keep (We.refl _ _) fun _ hk=>⟨hk.2,h.new_free hk.1⟩
theorem params_le (op:Int):(paramsB op).length≤2∧(resultsB op).length≤1:=by
 unfold paramsB resultsB;by_cases h:WR op=true
 ·rw[if_pos h,if_pos h,List.length_replicate];have:=sig_count op h;exact⟨by omega,by simp⟩
 ·rw[if_neg h,if_neg h];exact⟨by simp,by simp⟩
theorem lit3 (r:Nat) (hr:r<3):∃ v:Int,#[Value.int .i64 127,.int .i64 126,.int .i64 124][r]?=some (.int .i64 v):=by
 match r with
 | 0|1|2=>exact⟨_,rfl⟩
theorem one_of_body {F:Fx} {L:Int} (hb:∀ q',BodyOk { F with o:=some q' } L) (hE:∀ k,¬ F.E k):OneOk F L:=by
 intro w x ht h hh hn hn8 hl0 hlL hw0 hqn;obtain⟨q,hq,hqn⟩:=hqn;have HBLK:=hD (fun (wz:World) (z:St) (hg:WJ F wz z) (h1:ht≤z.s.length) (h2:z.nl=x.nl) (h3:0≤z.left) (h4:z.left≤x.left) (h5:wgt z≤799900)=>block_any hb hg hq ht h1 (by omega) (by omega) (by omega) h3 (by omega) h5 hE);have HE:=hD hE;have hw:=hw0;have H0:=hD h;have HS0:=hD (Wt.refl F w x);have HR0:=hD (show Us x x ht 0 from ⟨hh,nR _,rfl,hl0,Int.le_refl _⟩);have c0:=h.c0;have HNN:=hD (And.intro hn hn8);clear hb h hq hqn hh hl0 hlL hE hw0 hn hn8;go_enter Tryz.func61,Tryz.ntmps61;go_wp2_with fail
 go_at_call 15;refine(Wy H0.out 16 (by omega) (by omega)).mono ?_;rintro e w1 ⟨r1,hr1,rfl,x1,hg1,hs1,hn1⟩;have HS1:=hD (HS0.out.trans (hs1));have H1:=hD hg1;have HR1:=hD (HR0.out.fine (hn1.fine (ht:=ht) HR0.out.1));have c0:=H1.out.c0;clear hg1 hs1 H0 HS0 HR0;clear hn1;rcases(show r1<4∨r1=4∨r1=5∨r1=6∨(r1=7∨r1=8)∨r1=9∨(r1=10∨r1=11)∨r1=12∨r1=13∨r1=14∨r1=15 by omega) with h4|rfl|rfl|rfl|h7|rfl|h10|rfl|rfl|rfl|rfl
 ·rcases(show r1=0∨r1=1∨r1=2∨r1=3 by omega) with rfl|rfl|rfl|rfl
  all_goals
   go_wp2_with fail
   go_at_call 99;refine(ops_any _).mono ?_;rintro e w2 ⟨v,l,rfl,hl,hl0,hl2,hl69,hb2⟩;obtain⟨gl,ol,cl,hv,_,_⟩:=hl.some_ hl0;obtain⟨hg2,hs2⟩:=H1.out.below hb2;have HL:=hD (H1.out.newInts hl);have HL69:=hD hl69;rw[hv]at HL ⊢;clear hv hl hb2 hl69;generalize hll:l.length=ll at *;have HLL:=hD hll;clear hll;have HS2:=hD (HS1.out.trans hs2);have H2:=hD hg2;have HR2:=HR1;have c0:=H2.out.c0;clear hg2 hs2 H1 HS1 HR1;go_wp2_with fail
   go_at_call 15;refine(Wy H2.out ll (by omega) (by omega)).mono ?_;rintro e w3 ⟨r3,hr3,rfl,x3,hg3,hs3,hn3⟩;have hcell:=(hs3.ints HL.out).at_ r3 hr3;obtain⟨op,hop⟩:∃ op,l.getD r3 0=op:=⟨_,rfl⟩;have hop69:69≤op∧okB op 0 0 0 []=true:=by rw[← hop];exact HL69.out _ (getD_mem l r3 0 (by rw[HLL.out];exact hr3))
   have HOK3:=hD hop69.2;replace hop69:=hop69.1;rw[hop]at hcell;have HPL:=hD (plain_of (show op≠2∧op≠3∧op≠4∧op≠5∧op≠11 by omega));clear hop hop69 HL69 HLL;have HS3:=hD (HS2.out.trans (hs3));have H3:=hD hg3;have HR3:=hD (HR2.out.fine (hn3.fine (ht:=ht) HR2.out.1));have c0:=H3.out.c0;clear hg3 hs3 H2 HS2 HR2;clear hn3 HL;have HNM:=hD (fun wz=>rnum_any op wz);have HPL2:=hD (params_le op);unfold Wx at HNM;generalize WR op=nb at HNM;go_wp2_with fail
   go_at_call 84;refine(HNM.out _).mono ?_;rintro e w4 ⟨p,q2,rfl,hp,hq2,hb4⟩;obtain⟨hg4,hs4⟩:=H3.out.below hb4;have hip:=H3.out.newInts hp.ints;have hiq:=H3.out.newInts hq2.ints;obtain⟨Ap,cp,hpv,_,_⟩:=hip.form;obtain⟨Aq,cq,hqv,_,_⟩:=hiq.form;rw[hpv]at hip ⊢;rw[hqv]at hiq ⊢;clear hpv hqv hp hq2 hb4 hcell HNM;obtain⟨hp2,hq1⟩:=HPL2.out;generalize paramsB op=P at *;generalize resultsB op=Q at *;generalize hnp:P.length=np at *;generalize hnq:Q.length=nq at *;have HNP:=hD hnp;have HNQ:=hD hnq;have HIP:=hD hip;have HIQ:=hD hiq;clear hnp hnq hip hiq HPL2;have HS4:=hD (HS3.out.trans hs4);have H4:=hD hg4;have HR4:=HR3;have c0:=H4.out.c0;clear hg4 hs4 H3 HS3 HR3;go_wp2_with fail
   go_at_call 100;refine(Ur H4.out _ P HIP.out (by rw[HNP.out];omega) ht HR4.out.1 ((HR4.out.most hw).le (by omega))).mono ?_;rintro e w5 ⟨rfl,x5,hg5,hs5,hu5,hz5⟩;rw[HNP.out]at hz5;have HIP5:=hD (hs5.ints HIP.out);have HIQ5:=hD (hs5.ints HIQ.out);have HS5:=hD (HS4.out.trans (hs5));have H5:=hD hg5;have HR5:=hD (HR4.out.fine (hu5.fine (ht:=ht+np) hz5));have c0:=H5.out.c0;clear hg5 hs5 H4 HS4 HR4;clear hu5 hz5 HIP HIQ;go_wp2_with fail
   go_at_call 20;refine(Va H5.out _ _ _ _ ((HR5.out.most hw).le (by omega)) HPL.out HOK3.out).mono ?_;rintro e w6 ⟨rfl,x6,hg6,hs6,hn6⟩;have HIP6:=hD (hs6.ints HIP5.out);have HIQ6:=hD (hs6.ints HIQ5.out);have HS6:=hD (HS5.out.trans (hs6));have H6:=hD hg6;have HR6:=hD (HR5.out.fine (hn6.fine (ht:=ht+np) HR5.out.1));have c0:=H6.out.c0;clear hg6 hs6 H5 HS5 HR5;clear hn6 HIP5 HIQ5;go_wp2_with fail
   go_at_call 101;refine(swap_any H6.out _ _ P Q HIP6.out HIQ6.out (by rw[HNP.out];have:=HR6.out.1;omega) (by rw[HNQ.out];omega) ((HR6.out.most hw).le (by omega))).mono ?_;rintro e w7 ⟨rfl,x7,hg7,hs7,z1,z2,z3,z4⟩;rw[HNP.out,HNQ.out]at z1;have hf7:V9 x6 x7 ht 1:=⟨by have:=HR6.out.1;omega,by omega,z3,z4⟩;have HS7:=hD (HS6.out.trans (hs7));have H7:=hD hg7;have HR7:=hD (HR6.out.fine hf7);have c0:=H7.out.c0;clear hg7 hs7 H6 HS6 HR6;clear z1 z2 z3 z4 hf7 HIP6 HIQ6;clear c0;go_wp2;go_ret;exact⟨_,rfl,_,H7.out,HS7.out,HR7.out.le (by omega)⟩
 ·have hal:=fun o=>(H1.out.alloc o).1.c0;go_wp2_with fail
  go_at_call 15;refine(Wy (x:=x1) (H1.out.alloc _).1 3 (by omega) (by omega)).mono ?_;rintro e w2 ⟨r2,hr2,rfl,x2,hg2,hs2,hn2⟩;obtain⟨t,hv⟩:=lit3 r2 hr2;have hcv:=(H1.out.new_cell _ _ hs2 r2).trans hv;have HS2:=hD (HS1.out.trans ((H1.out.alloc _).2.trans hs2));have H2:=hD hg2;have HR2:=hD (HR1.out.fine (hn2.fine (ht:=ht) HR1.out.1));have c0:=H2.out.c0;clear hg2 hs2 H1 HS1 HR1;clear hn2 hv hal;go_wp2_with fail
  go_at_call 63;refine(value_any H2.out t ((HR2.out.most hw).le (by omega))).mono ?_;rintro e w3 ⟨rfl,x3,hg3,hs3,hn3⟩;have HS3:=hD (HS2.out.trans (hs3));have H3:=hD hg3;have HR3:=hD (HR2.out.fine (hn3.fine (ht:=ht) HR2.out.1));have c0:=H3.out.c0;clear hg3 hs3 H2 HS2 HR2;clear hn3 hcv;clear c0;go_wp2;go_ret;exact⟨_,rfl,_,H3.out,HS3.out,HR3.out.le (by omega)⟩
 ·obtain⟨Alo,clo,hlov,_,_⟩:=H1.out.reads.loc.1.form;have hlo100:=H1.out.reads.loc.2;have HC9:Hid (∀ (wy:World) (y:St),WJ F wy y→wy.cell? ⟨F.G,9,none⟩=some (.slice Alo F.lo.length clo)):=fun wy y hy=>by rw[hy.c9,hlov]
  have HLC:Hid (∀ (wy:World) (y:St),WJ F wy y→Wh (Vh F wy y) wy (.slice Alo F.lo.length clo) F.lo):=fun wy y hy=>by have h9:=hy.reads.loc.1;rwa [hlov]at h9
  clear hlov;generalize hnl:F.lo.length=nlo at *;have HNL:=hD hnl;clear hnl;have c9:=HC9.out _ _ H1.out;rcases Nat.eq_zero_or_pos nlo with h0|h0
  ·subst h0;clear HLC HC9;go_wp2;go_ret;exact⟨_,rfl,_,H1.out,HS1.out,HR1.out.le (by omega)⟩
  ·have hd0:decide ((0:Int)<(nlo:Int))=true:=by simp;omega
   go_wp2_with fail
   go_region_held3 (fun w'=>w'.cell? ⟨F.G,0,none⟩=some (.pointer (some ⟨F.T,0,none⟩))∧w'.cell? ⟨F.G,9,none⟩=some (.slice Alo nlo clo))
    (first|go_keep|exact⟨hg2.c0,HC9.out _ _ hg2⟩)
    ((go_at_call 15;refine(Wy H1.out.drew.1 nlo (by omega) (by omega)).mono ?_;rintro e w2 ⟨r2,hr2,rfl,x2,hg2,hs2,hn2⟩))
   have HS2:=hD (HS1.out.trans (H1.out.drew.2.trans hs2));have H2:=hD hg2;have HR2:=hD (HR1.out.fine (hn2.fine (ht:=ht) HR1.out.1));have c0:=H2.out.c0;clear hg2 hs2 H1 HS1 HR1;clear hn2 hd0;have HA:Hid (∃ g o,Alo=some ⟨g,o,none⟩):=by obtain⟨g,o,c,he,_,_⟩:=(HLC.out _ _ H2.out).some_ (by rw[HNL.out];exact h0);simp only[vI]at he;exact⟨g,o,he.1⟩
   obtain⟨glo,olo,rfl⟩:=HA.out;have HCL:Hid (∀ (wy:World) (y:St),WJ F wy y→wy.cell? ⟨glo,olo+r2,none⟩=some (.int .i64 (F.lo.getD r2 0))):=fun wy y hy=>(HLC.out wy y hy).at_ r2 hr2;generalize F.lo.getD r2 0=t at HCL;clear HLC HA c9;have c9:=HC9.out _ _ H2.out;have k2:=HCL.out _ _ H2.out;have hli:=H2.out.lit [t] 3 (by simp);obtain⟨hga,hsa⟩:=H2.out.alloc (.cells ([t].map (Value.int .i64)).toArray 3);go_wp2_with fail
   go_at_call 100;refine(Ur hga _ [t] hli (by simp) ht HR2.out.1 ((HR2.out.most hw).le (by omega))).mono ?_;rintro e w3 ⟨rfl,x3,hg3,hs3,hu3,hz3⟩;replace hs3:=hsa.trans hs3;replace hz3:ht+1≤x3.s.length:=hz3;have HS3:=hD (HS2.out.trans (hs3));have H3:=hD hg3;have HR3:=hD (HR2.out.fine (hu3.fine (ht:=ht+1) hz3));have c0:=H3.out.c0;clear hg3 hs3 H2 HS2 HR2;clear hli hga hsa hu3 hz3;clear c9 k2;go_wp2_with fail
   go_at_call 15;refine(Wy H3.out 2 (by omega) (by omega)).mono ?_;rintro e w4 ⟨r4,hr4,rfl,x4,hg4,hs4,hn4⟩;have HS4:=hD (HS3.out.trans (hs4));have H4:=hD hg4;have HR4:=hD (HR3.out.fine (hn4.fine (ht:=ht+1) HR3.out.1));have c0:=H4.out.c0;clear hg4 hs4 H3 HS3 HR3;clear hn4;rcases(show r4=0∨r4=1 by omega) with rfl|rfl
   ·go_wp2_with fail
    go_at_call 20;refine(Va H4.out _ _ _ _ ((HR4.out.most hw).le (by omega))).mono ?_;rintro e w5 ⟨rfl,x5,hg5,hs5,hn5⟩;have HS5:=hD (HS4.out.trans (hs5));have H5:=hD hg5;have HR5:=hD (HR4.out.fine (hn5.fine (ht:=ht+1) HR4.out.1));have c0:=H5.out.c0;clear hg5 hs5 H4 HS4 HR4;clear hn5;have HR6:=hD (HR5.out.lower (b:=ht) (by omega));clear c0;go_wp2;go_ret;exact⟨_,rfl,_,H5.out,HS5.out,HR6.out.le (by omega)⟩
   ·go_wp2_with fail
    go_at_call 20;refine(Va H4.out _ _ _ _ ((HR4.out.most hw).le (by omega))).mono ?_;rintro e w5 ⟨rfl,x5,hg5,hs5,hn5⟩;have HS5:=hD (HS4.out.trans (hs5));have H5:=hD hg5;have HR5:=hD (HR4.out.fine (hn5.fine (ht:=ht+1) HR4.out.1));have c0:=H5.out.c0;clear hg5 hs5 H4 HS4 HR4;clear hn5;have c9:=HC9.out _ _ H5.out;have k2:=HCL.out _ _ H5.out;have hli:=H5.out.lit [t] 3 (by simp);obtain⟨hga,hsa⟩:=H5.out.alloc (.cells ([t].map (Value.int .i64)).toArray 3);go_wp2_with fail
    go_at_call 101;refine(swap_any hga _ _ [t] [] hli (Wh.nil _ _) (by show 1≤_;have:=HR5.out.1;omega) (by simp) ((HR5.out.most hw).le (by omega))).mono ?_;rintro e w6 ⟨rfl,x6,hg6,hs6,z1,z2,z3,z4⟩;replace z1:x6.s.length+1=x5.s.length+0:=z1;have hf6:V9 x5 x6 ht 0:=⟨by have:=HR5.out.1;omega,by omega,z3,z4⟩;have HS6:=hD (HS5.out.trans (hsa.trans hs6));have H6:=hD hg6;have HR6:=hD (HR5.out.fine hf6);have c0:=H6.out.c0;clear hg6 hs6 H5 HS5 HR5;clear hli hga hsa z1 z2 z3 z4 hf6;clear c9 k2;clear c0;go_wp2;go_ret;exact⟨_,rfl,_,H6.out,HS6.out,HR6.out.le (by omega)⟩
 ·go_wp2_with fail
  go_at_call 15;refine(Wy H1.out 3 (by omega) (by omega)).mono ?_;rintro e w2 ⟨r2,hr2,rfl,x2,hg2,hs2,hn2⟩;have HS2:=hD (HS1.out.trans (hs2));have H2:=hD hg2;have HR2:=hD (HR1.out.fine (hn2.fine (ht:=ht) HR1.out.1));have c0:=H2.out.c0;clear hg2 hs2 H1 HS1 HR1;clear hn2;obtain⟨gm,om,cm,hm4,_,_⟩:=Wb.some_ H2.out.reads.globs.1 (by rw[H2.out.reads.globs.2];omega);have hfk:=H2.out.reads.globs.1;rw[hm4]at hfk;have k5:=H2.out.c5;rw[hm4,H2.out.reads.globs.2]at k5;have kt:=hfk.at_ r2 (by rw[H2.out.reads.globs.2];omega) (by omega);generalize F.gs.getD r2 0=t at kt;rw[Nat.add_zero]at kt;clear hfk hm4;have hli:=H2.out.lit [t] 3 (by simp);obtain⟨hga,hsa⟩:=H2.out.alloc (.cells ([t].map (Value.int .i64)).toArray 3);go_wp2_with fail
  go_at_call 100;refine(Ur hga _ [t] hli (by simp) ht HR2.out.1 ((HR2.out.most hw).le (by omega))).mono ?_;rintro e w3 ⟨rfl,x3,hg3,hs3,hu3,hz3⟩;replace hs3:=hsa.trans hs3;replace hz3:ht+1≤x3.s.length:=hz3;have HS3:=hD (HS2.out.trans (hs3));have H3:=hD hg3;have HR3:=hD (HR2.out.fine (hu3.fine (ht:=ht+1) hz3));have c0:=H3.out.c0;clear hg3 hs3 H2 HS2 HR2;clear hli hga hsa hu3 hz3;clear k5 kt;go_wp2_with fail
  go_at_call 20;refine(Va H3.out _ _ _ _ ((HR3.out.most hw).le (by omega))).mono ?_;rintro e w4 ⟨rfl,x4,hg4,hs4,hn4⟩;have HS4:=hD (HS3.out.trans (hs4));have H4:=hD hg4;have HR4:=hD (HR3.out.fine (hn4.fine (ht:=ht+1) HR3.out.1));have c0:=H4.out.c0;clear hg4 hs4 H3 HS3 HR3;clear hn4;have hli:=H4.out.lit [t] 3 (by simp);obtain⟨hga,hsa⟩:=H4.out.alloc (.cells ([t].map (Value.int .i64)).toArray 3);go_wp2_with fail
  go_at_call 101;refine(swap_any hga _ _ [t] [] hli (Wh.nil _ _) (by show 1≤_;have:=HR4.out.1;omega) (by simp) ((HR4.out.most hw).le (by omega))).mono ?_;rintro e w5 ⟨rfl,x5,hg5,hs5,z1,z2,z3,z4⟩;replace z1:x5.s.length+1=x4.s.length+0:=z1;have hf5:V9 x4 x5 ht 0:=⟨by have:=HR4.out.1;omega,by omega,z3,z4⟩;have HS5:=hD (HS4.out.trans (hsa.trans hs5));have H5:=hD hg5;have HR5:=hD (HR4.out.fine hf5);have c0:=H5.out.c0;clear hg5 hs5 H4 HS4 HR4;clear hli hga hsa z1 z2 z3 z4 hf5;clear c0;go_wp2;go_ret;exact⟨_,rfl,_,H5.out,HS5.out,HR5.out.le (by omega)⟩
 ·rcases h7 with rfl|rfl
  all_goals
   have HM:=hD (memory_any H1.out ht HR1.out.1 ((HR1.out.most hw).le (by omega)));go_wp2_with fail
   go_at_call 102;exact Z1
 ·have HM:=hD (bulk_any H1.out ht HR1.out.1 ((HR1.out.most hw).le (by omega)));go_wp2_with fail
  go_at_call 103;exact Z1
 ·rcases h10 with rfl|rfl
  all_goals
   have HM:=hD (HBLK.out _ _ H1.out HR1.out.1 HR1.out.2.2.1 HR1.out.2.2.2.1 HR1.out.2.2.2.2 (by have:=HR1.out.2.1;omega));go_wp2_with fail
   go_at_call 104;refine(HM.out).mono ?_;rintro e w2 ⟨rfl,x2,hg2,hs2,hf2⟩;have HS2:=hD (HS1.out.trans (hs2));have H2:=hD hg2;have HR2:=hD (HR1.out.trans hf2);have c0:=H2.out.c0;clear hg2 hs2 H1 HS1 HR1;clear hf2;go_wp2;go_ret;exact⟨_,rfl,_,H2.out,HS2.out,HR2.out.le (by omega)⟩
 ·have HM:=hD (call_any H1.out ht HR1.out.1 ((HR1.out.most hw).le (by omega)));go_wp2_with fail
  go_at_call 105;exact Z1
 ·have HM:=hD (leave_any H1.out ht HR1.out.1 (by have:=HR1.out.2.2.1;have:=HNN.out;omega) (by have:=HR1.out.2.2.1;have:=HNN.out;omega) ((HR1.out.most hw).le (by omega)) HE.out);go_wp2_with fail
  go_at_call 106;refine HM.out.mono ?_;rintro e w2 ⟨bb,rfl,x2,hg2,hs2,hf2⟩;have HS2:=hD (HS1.out.trans (hs2));have H2:=hD hg2;have HR2:=hD (HR1.out.fine hf2);have c0:=H2.out.c0;clear hg2 hs2 H1 HS1 HR1;clear hf2;clear c0;go_wp2;go_ret;exact⟨_,rfl,_,H2.out,HS2.out,HR2.out.le (by omega)⟩
 ·have HM:=hD (branchIf_any H1.out ht HR1.out.1 (by have:=HR1.out.2.2.1;have:=HNN.out;omega) (by have:=HR1.out.2.2.1;have:=HNN.out;omega) ((HR1.out.most hw).le (by omega)));go_wp2_with fail
  go_at_call 107;exact Z1
 ·have hal:=fun o=>(H1.out.alloc o).1.c0;go_wp2_with fail
  go_at_call 15;refine(Wy (x:=x1) (H1.out.alloc _).1 3 (by omega) (by omega)).mono ?_;rintro e w2 ⟨r2,hr2,rfl,x2,hg2,hs2,hn2⟩;obtain⟨t,hv⟩:=lit3 r2 hr2;have hcv:=(H1.out.new_cell _ _ hs2 r2).trans hv;have HS2:=hD (HS1.out.trans ((H1.out.alloc _).2.trans hs2));have H2:=hD hg2;have HR2:=hD (HR1.out.fine (hn2.fine (ht:=ht) HR1.out.1));have c0:=H2.out.c0;clear hg2 hs2 H1 HS1 HR1;clear hn2 hv hal;have hli:=H2.out.lit [t,t,127] 3 (by simp);obtain⟨hga,hsa⟩:=H2.out.alloc (.cells ([t,t,127].map (Value.int .i64)).toArray 3);go_wp2_with fail
  go_at_call 100;refine(Ur hga _ [t,t,127] hli (by simp) ht HR2.out.1 ((HR2.out.most hw).le (by omega))).mono ?_;rintro e w3 ⟨rfl,x3,hg3,hs3,hu3,hz3⟩;replace hs3:=hsa.trans hs3;replace hz3:ht+3≤x3.s.length:=hz3;have HS3:=hD (HS2.out.trans (hs3));have H3:=hD hg3;have HR3:=hD (HR2.out.fine (hu3.fine (ht:=ht+3) hz3));have c0:=H3.out.c0;clear hg3 hs3 H2 HS2 HR2;clear hli hga hsa hu3 hz3;clear hcv;go_wp2_with fail
  go_at_call 20;refine(Va H3.out _ _ _ _ ((HR3.out.most hw).le (by omega))).mono ?_;rintro e w4 ⟨rfl,x4,hg4,hs4,hn4⟩;have HS4:=hD (HS3.out.trans (hs4));have H4:=hD hg4;have HR4:=hD (HR3.out.fine (hn4.fine (ht:=ht+3) HR3.out.1));have c0:=H4.out.c0;clear hg4 hs4 H3 HS3 HR3;clear hn4;have hli:=H4.out.lit [t,t,127] 3 (by simp);obtain⟨hga,hsa⟩:=H4.out.alloc (.cells ([t,t,127].map (Value.int .i64)).toArray 3);have hlj:=hga.lit [t] 3 (by simp);rw[show(w4.alloc (.cells ([t,t,127].map (Value.int .i64)).toArray 3)).heap.size=w4.heap.size+1 by simp]at hlj;obtain⟨hgb,hsb⟩:=hga.alloc (.cells ([t].map (Value.int .i64)).toArray 3);go_wp2_with fail
  go_at_call 101;refine(swap_any hgb _ _ [t,t,127] [t] (hsb.ints hli) hlj (by show 3≤_;have:=HR4.out.1;omega) (by simp) ((HR4.out.most hw).le (by omega))).mono ?_;rintro e w5 ⟨rfl,x5,hg5,hs5,z1,z2,z3,z4⟩;replace z1:x5.s.length+3=x4.s.length+1:=z1;have hf5:V9 x4 x5 ht 0:=⟨by have:=HR4.out.1;omega,by omega,z3,z4⟩;have HS5:=hD (HS4.out.trans (hsa.trans (hsb.trans hs5)));have H5:=hD hg5;have HR5:=hD (HR4.out.fine hf5);have c0:=H5.out.c0;clear hg5 hs5 H4 HS4 HR4;clear hli hga hsa z1 z2 z3 z4 hf5 hlj hgb hsb;clear c0;go_wp2;go_ret;exact⟨_,rfl,_,H5.out,HS5.out,HR5.out.le (by omega)⟩
end
section
open Go.RowKit
theorem body_ok {F:Fx} (hE:∀ k,¬ F.E k) (n:Nat):n≤1000→∀ o,BodyOk { F with o:=o } ((n:Int) - 1)∧OneOk { F with o:=o } ((n:Int) - 1):=by
 induction n with
 | zero =>
  intro _ o;exact⟨fun w x ht n h hh hn hn8 hl0 hlL=>by omega,fun w x ht h hh hn hn8 hl0 hlL=>by omega⟩
 | succ n ih =>
  intro hn o;have hb:∀ o,BodyOk { F with o:=o } (((n+1:Nat):Int) - 1):=fun o=>body_of_one (by have h:=(ih (by omega) o).2;rwa [show((n+1:Nat):Int) - 1 - 1=(n:Int) - 1 by omega]) (by omega);exact⟨hb o,one_of_body (F:={ F with o:=o }) (fun q'=>hb (some q')) hE⟩
theorem body_any {F:Fx} {q:List Nat} {w:World} {x:St} (h:WJ F w x) (hq:F.o=some q) (ht n:Nat) (hh:ht≤x.s.length) (hn:0<x.nl) (hn8:x.nl≤8) (hqn:q.length≤x.nl) (hl0:0≤x.left) (hl:x.left≤900) (hw:wgt x≤800000) (hn1:n≤1000) (hE:∀ k,¬ F.E k) :
 Calls Tryz.prog 18 #[.pointer (some ⟨F.G,0,none⟩),.int .i64 (ht:Int),.int .i64 (n:Int)] w (GrewPost F w x ht 0) :=
 (body_ok (F:=F) hE 1000 (nR _) F.o).1 w x ht n h hh hn hn8 hl0 (by omega) hw ⟨q,hq,hqn⟩ hn1
end
section
open Go.RowKit
set_option maxHeartbeats 800000
set_option maxRecDepth 100000
def LocPost (l:List Int) (w:World) (e:Ending) (w':World):Prop:=∃ v,e=.returned v∧Wh (fun k=>w.heap.size≤k∧k<w'.heap.size) w' v l∧Below w.heap.size w w'
theorem owns_new {w w':World} {base:Nat} {e:TypeId} {v:Value} {l:List Int} {n:Nat} {xs:List Value} (h:w'.ownsRow base e 1 v n xs) (hn:n=l.length) (hx:xs=l.map (Value.int .i64)) (hl:l.length≤1000000) (hK:∀ g,v.ownBlock=some g→w.heap.size≤g):Wh (fun k=>w.heap.size≤k∧k<w'.heap.size) w' v l:=by
 subst hn hx;rcases h.2 with ⟨rfl,h0⟩|⟨g,cap,cur,rfl,_⟩
 ·obtain rfl:l=[]:=List.eq_nil_of_length_eq_zero h0;exact Wh.nil _ _
 ·refine⟨_,cap,rfl,by unfold maxLen;omega,(fun h=>by cases h),fun _=>⟨g,0,rfl,⟨hK g rfl,(h.lt g rfl).2⟩,fun j hj=>?_⟩⟩;rw[Nat.zero_add,h.cellAt j (by rw[Nat.mul_one];exact hj)];simp[hj]
theorem rloc_gen (w:World) (K:Nat→Prop) (hK:∀ k,K k→k<w.heap.size) (m0 m1 m2 m3 m4 m5 m6 m7:Value) (ts:List (List Int×List Int)) (is fs:List Int) (h0:Vn K w m0 ts) (h1:VE K w m1 3 2 is) (h2:VE K w m2 3 0 fs) (hn:ts.length+is.length+fs.length≤300000)
 (d t:Nat) (hd:d<fs.length) (hft:fs.getD d 0=(t:Int)) (ht:t<ts.length) (h3:(ts.getD t ([],[])).1.length≤100000) (lv:Value) (ll:List Int) (hlv:∀ g o n c,m2=.slice (some ⟨g,o,none⟩) n c→w.cell? ⟨g,o+d * 3+1,none⟩=some lv) (hll:Wh K w lv ll) (hl100:ll.length≤100000) :
 Calls Tryz.prog 16 #[.agg #[m0,m1,m2,m3,m4,m5,m6,m7],.int .i64 ((is.length+d:Nat):Int)] w (LocPost ((ts.getD t ([],[])).1++ll) w):=by
 have hb1:Below w.heap.size w (w.alloc (.cells #[m0,m1,m2,m3,m4,m5,m6,m7] 36)):=(bR _ _).alloc (nR _) _;have HK1:Hid (We K w (w.alloc (.cells #[m0,m1,m2,m3,m4,m5,m6,m7] 36))):=hD (.below hb1 hK);have HSG:=hD (rsig_yes K (w.alloc (.cells #[m0,m1,m2,m3,m4,m5,m6,m7] 36)) m0 m1 m2 m3 m4 m5 m6 m7 ts is fs (h0.keep HK1.out fun _ h=>h) (h1.keep HK1.out fun _ h=>h) (h2.keep HK1.out fun _ h=>h) (by omega) (is.length+d) t (.inr ⟨by omega,by omega,by rw[Nat.add_sub_cancel_left];exact hft⟩) ht);obtain⟨g2,o2,c2,rfl,_,_⟩:=Wb.some_ h2 (by omega);obtain⟨A1,c1,rfl,_,_⟩:=Wb.form h1;have klv:=hlv g2 o2 _ _ rfl;obtain⟨Al,cl,hle,_,_⟩:=hll.form;rw[hle]at klv hll;have HLL:=hD hll;have hg2:K g2:=by
  obtain⟨A,c',he,_,_,_,h9⟩:=h2;simp only[vI]at he;obtain⟨g',o',he2,hg',_⟩:=h9 (by omega);rw[← he.1]at he2;simp only[Option.some.injEq,Addr.mk.injEq]at he2;rw[he2.1];exact hg'
 have HB1:=hD hb1;have HKK:=hD hK;have HG2:=hD hg2;have HKL:=hD klv;generalize hI:is.length=ni at *;generalize hF:fs.length=nf at *;generalize ts.getD t ([],[])=tt at *;generalize hLL:ll.length=nl at *;have HNL:=hD hLL;have hni:ni≤300000:=by omega
 have hnf:nf≤300000:=by omega
 clear h0 h1 h2 hlv hll hle hg2 hb1 klv hK hft ht hI hF hLL hn;have e1:IntKind.i64.wrap (((ni+d:Nat):Int) - (ni:Int))=(d:Int):=by rw[show((ni+d:Nat):Int) - (ni:Int)=(d:Int) by omega];exact IntWalk.i64_in _ (by omega)
 have d3:decide (ni+d<ni)=false:=by simp
 obtain⟨fv,hfv⟩:∃ fv:Nat,fv=ni+d:=⟨_,rfl⟩;rw[← hfv]at HSG e1 d3 ⊢;clear hfv;go_enter Tryz.func16,Tryz.ntmps16;have bc:∀ j:Nat,(w.alloc (.cells #[m0,.slice A1 ni c1,.slice (some ⟨g2,o2,none⟩) nf c2,m3,m4,m5,m6,m7] 36)).cell? ⟨w.heap.size,j,none⟩=#[m0,.slice A1 ni c1,.slice (some ⟨g2,o2,none⟩) nf c2,m3,m4,m5,m6,m7][j]?:=fun j=>by rw[wN]
 have b0:=bc 0;have b1:=bc 1;have b2:=bc 2;have b3:=bc 3;have b4:=bc 4;have b5:=bc 5;have b6:=bc 6;have b7:=bc 7;simp only[List.getElem?_toArray,List.getElem?_cons_zero,List.getElem?_cons_succ]at b0 b1 b2 b3 b4 b5 b6 b7;have HB1c:=hD b1;have HB2c:=hD b2;clear bc;go_wp2_with fail
 go_at_call 17;refine HSG.out.mono ?_;rintro e w2 ⟨p,r,rfl,hip,hir,hbel⟩;obtain⟨Ap,cp,hpv,_,_⟩:=hip.form;obtain⟨Ar,cr,hrv,_,_⟩:=hir.form;rw[hpv]at hip ⊢;rw[hrv]at hir ⊢;generalize hP:tt.1.length=np at *;generalize hR:tt.2.length=nr at *;have HNP:=hD hP;have HIP:=hD hip;have HB2:=hD (HB1.out.trans (hbel.mono HB1.out.size));have HW0:=hD hip;clear hpv hrv hir hip;have hp3:np≤100000:=by omega
 obtain⟨W2,hW2⟩:∃ W2,W2=w2.alloc (.cells #[.slice Ap np cp,.slice Ar nr cr] 68):=⟨_,rfl⟩;have hbW:Below (w.alloc (.cells #[m0,.slice A1 ni c1,.slice (some ⟨g2,o2,none⟩) nf c2,m3,m4,m5,m6,m7] 36)).heap.size (w.alloc (.cells #[m0,.slice A1 ni c1,.slice (some ⟨g2,o2,none⟩) nf c2,m3,m4,m5,m6,m7] 36)) W2:=by rw[hW2];exact Wg hbel _
 have hlt:w.heap.size<(w.alloc (.cells #[m0,.slice A1 ni c1,.slice (some ⟨g2,o2,none⟩) nf c2,m3,m4,m5,m6,m7] 36)).heap.size:=by simp
 have HBW:=hD (Wa HB1.out hbW);have q1:W2.cell? ⟨w.heap.size,1,none⟩=some (.slice A1 ni c1):=(hbW.cell (p:=⟨w.heap.size,1,none⟩) hlt).trans b1;have q2:W2.cell? ⟨w.heap.size,2,none⟩=some (.slice (some ⟨g2,o2,none⟩) nf c2):=(hbW.cell (p:=⟨w.heap.size,2,none⟩) hlt).trans b2;have q3:W2.cell? ⟨w2.heap.size,0,none⟩=some (.slice Ap np cp):=by rw[hW2];exact wN w2 _ _ 0
 have q4:W2.cell? ⟨g2,o2+d * 3+1,none⟩=some (.slice Al nl cl):=(HBW.out.cell (p:=⟨g2,o2+d * 3+1,none⟩) (HKK.out _ HG2.out)).trans HKL.out;have HFT:Hid (∀ w1,We (fun k=>k<W2.heap.size) W2 w1→w1.cell? ⟨w.heap.size,1,none⟩=some (.slice A1 ni c1)∧w1.cell? ⟨w.heap.size,2,none⟩=some (.slice (some ⟨g2,o2,none⟩) nf c2)∧w1.cell? ⟨w2.heap.size,0,none⟩=some (.slice Ap np cp)∧w1.cell? ⟨g2,o2+d * 3+1,none⟩=some (.slice Al nl cl)):=fun w1 hk =>
  ⟨(hk.cell (p:=⟨w.heap.size,1,none⟩) (wL _ _ q1)).trans q1,(hk.cell (p:=⟨w.heap.size,2,none⟩) (wL _ _ q2)).trans q2,(hk.cell (p:=⟨w2.heap.size,0,none⟩) (wL _ _ q3)).trans q3,(hk.cell (p:=⟨g2,o2+d * 3+1,none⟩) (wL _ _ q4)).trans q4⟩
 have HKI:Hid (∀ (w1:World) (v:Value) (l:List Int),Wh K w v l→We (fun k=>k<W2.heap.size) W2 w1→Wh (fun k=>k<W2.heap.size) w1 v l):=fun w1 v l h hk=>h.keep ((We.below HBW.out HKK.out).trans (hk.mono fun k h=>WK (HKK.out k h) HBW.out.size)) fun k h=>WK (HKK.out k h) HBW.out.size;have HIP0:Hid (∀ w1,We (fun k=>k<W2.heap.size) W2 w1→Vm w1 (.slice Ap np cp) np (tt.1.map (Value.int .i64))):=fun w1 hk=>by
  have h9:=(HW0.out.keep (K':=fun k=>k<W2.heap.size) ((We.below hbW fun k h=>WK (HKK.out k h) HB1.out.size).trans (hk.mono fun k h=>WK (HKK.out k h) HBW.out.size)) fun k h=>WK (HKK.out k h) HBW.out.size).news
  rwa [HNP.out]at h9
 have HIL:Hid (∀ w1,We (fun k=>k<W2.heap.size) W2 w1→Vm w1 (.slice Al nl cl) nl (ll.map (Value.int .i64))):=fun w1 hk=>by
  have h9:=(HKI.out w1 _ _ HLL.out hk).news
  rwa [HNL.out]at h9
 obtain⟨qb1,qb2,qb3,qb4⟩:=HFT.out _ (We.alloc W2 (fun _ h=>h) (.cells #[] 3));have HNW:=hD (HIP0.out _ (We.alloc W2 (fun _ h=>h) (.cells #[] 3)));clear hbW hlt hbel b0 b1 b2 b3 b4 b5 b6 b7 HSG HB1 HK1 HB1c HB2c HB2;have hW2':w2.alloc (.cells #[.slice Ap np cp,.slice Ar nr cr] 68)=W2:=hW2.symm;clear hW2;have HW2:=hD hW2';clear hW2'
 go_upto_region 2 with (fail)
 rw[HW2.out];go_wp2_with fail
 go_region_held3 (fun w'=>w'.cell? ⟨w.heap.size,1,none⟩=some (.slice A1 ni c1)∧w'.cell? ⟨w.heap.size,2,none⟩=some (.slice (some ⟨g2,o2,none⟩) nf c2)∧w'.cell? ⟨w2.heap.size,0,none⟩=some (.slice Ap np cp)∧w'.cell? ⟨g2,o2+d * 3+1,none⟩=some (.slice Al nl cl))
  (first|go_keep|exact⟨qb1,qb2,qb3,qb4⟩|exact HFT.out _ hk2|exact HFT.out _ hk1)
  ((first
  | (refine Wc rfl (.tmp 22) (.tmp 24) 22 3 rfl _ 1 8 Tryz.underlying22 Tryz.infoInt rfl (by decide) (by decide) (.slice (some ⟨W2.heap.size,0,none⟩) 0 0) 0 [] (by rfl) (owns_drew (Uk W2 _)) _ np (tt.1.map (Value.int .i64)) (by rfl) (by rw[List.length_map,HNP.out,Nat.mul_one]) (news_drew HNW.out) (WV _) (by omega) ?_;intro u1 wa ho1 hga1 ha1;simp only[Nat.zero_add,List.nil_append]at ho1;have hk1:=UF (grown_drew hga1);obtain⟨B1,k1,rfl⟩:=Wd ho1)
  | (refine Wc rfl (.tmp 25) (.tmp 35) 22 3 rfl _ 1 8 Tryz.underlying22 Tryz.infoInt rfl (by decide) (by decide) _ _ _ (by rfl) ho1 _ nl (ll.map (Value.int .i64)) (by rfl) (by rw[List.length_map,HNL.out,Nat.mul_one]) (HIL.out _ hk1) (WV _) (by omega) ?_;intro u2 wb ho2 hga2 ha2;have hk2:=keeps_made2 (o:=.cells #[] 3) hk1 ha1 hga2;have hat:=made_at hk1 ha1 ha2;obtain⟨B2,k2,rfl⟩:=Wd ho2)))
 all_goals
  have HO:=hD (owns_new (w:=W2) (l:=tt.1++ll) ho2 (by rw[List.length_append,HNP.out,HNL.out]) (by rw[List.map_append]) (by rw[List.length_append,HNP.out,HNL.out];omega) hat);have HB9:=hD (Wa HBW.out (hk2.to_below fun _ h=>h));clear ho1 ho2 hga1 hga2 ha1 ha2 hat hk1 hk2;go_wp2;go_ret;exact⟨_,rfl,HO.out.keep (We.refl _ _) (fun k hk=>⟨Nat.le_trans HBW.out.size hk.1,hk.2⟩),HB9.out⟩
theorem rloc_yes (w:World) (K:Nat→Prop) (hK:∀ k,K k→k<w.heap.size) (m0 m1 m2 m3 m4 m5 m6 m7:Value) (ts:List (List Int×List Int)) (is fs:List Int) (h0:Vn K w m0 ts) (h1:VE K w m1 3 2 is) (h2:VE K w m2 3 0 fs) (hn:ts.length+is.length+fs.length≤1000)
 (d t:Nat) (hd:d<fs.length) (hft:fs.getD d 0=(t:Int)) (ht:t<ts.length) (h3:(ts.getD t ([],[])).1.length≤3) (lv:Value) (ll:List Int) (hlv:∀ g o n c,m2=.slice (some ⟨g,o,none⟩) n c→w.cell? ⟨g,o+d * 3+1,none⟩=some lv) (hll:Wh K w lv ll) (hl100:ll.length≤100) :
 Calls Tryz.prog 16 #[.agg #[m0,m1,m2,m3,m4,m5,m6,m7],.int .i64 ((is.length+d:Nat):Int)] w (LocPost ((ts.getD t ([],[])).1++ll) w) :=
 rloc_gen w K hK m0 m1 m2 m3 m4 m5 m6 m7 ts is fs h0 h1 h2 (by omega) d t hd hft ht (by omega) lv ll hlv hll (by omega)
end
section
open Go.RowKit
set_option maxHeartbeats 2000000
set_option maxRecDepth 100000
theorem WU (os:List Obj):∀ (w:World) (i:Nat) (o:Obj),os[i]?=some o→(os.foldl World.alloc w).heap[w.heap.size+i]?=some o∧Below w.heap.size w (os.foldl World.alloc w)∧(os.foldl World.alloc w).heap.size=w.heap.size+os.length:=by
 induction os with
 | nil=>intro w i o h;simp at h
 | cons a os ih =>
  intro w i o h;have hs:(w.alloc a).heap.size=w.heap.size+1:=by simp
  have hb:Below w.heap.size w (w.alloc a):=(bR _ _).alloc (nR _) a;rcases os with _|⟨b,os⟩
  ·cases i with
   | zero=>simp only[List.getElem?_cons_zero,Option.some.injEq]at h;subst h;exact⟨heap_alloc_new w _,hb,hs⟩
   | succ i=>simp at h
  ·have h0:=ih (w.alloc a) 0 b rfl;have hbb:Below w.heap.size w ((b :: os).foldl World.alloc (w.alloc a)):=hb.trans (h0.2.1.mono (by rw[hs];omega));have hsz:((a :: b :: os).foldl World.alloc w).heap.size=w.heap.size+(a :: b :: os).length:=by
    show((b :: os).foldl World.alloc (w.alloc a)).heap.size=_;rw[h0.2.2,hs];simp only[List.length_cons];omega
   cases i with
   | zero =>
    simp only[List.getElem?_cons_zero,Option.some.injEq]at h;subst h;exact⟨(h0.2.1.block w.heap.size (by rw[hs];omega)).trans (heap_alloc_new w _),hbb,hsz⟩
   | succ i =>
    have h1:=ih (w.alloc a) i o (by simpa using h);rw[hs,show w.heap.size+1+i=w.heap.size+(i+1) by omega]at h1;exact⟨h1.1,hbb,hsz⟩
def tyObjs (B:Nat):List Obj:=[.cells #[.int .i64 127] 3,.cells #[.int .i64 127] 3,.cells #[.int .i64 127,.int .i64 127] 3,.cells #[.int .i64 127,.int .i64 127] 3,.cells #[.int .i64 126,.int .i64 124] 3,.cells #[.int .i64 124] 3,.cells #[.int .i64 127,.int .i64 126,.int .i64 124] 3,.cells #[.int .i64 127] 3,.cells #[.int .i64 127,.int .i64 126] 3,.cells #[.int .i64 124] 3,.cells #[.int .i64 127] 3,.cells #[.int .i64 127,.int .i64 126] 3,.cells #[.int .i64 126] 3,.cells #[.int .i64 126] 3,.cells #[.slice none 0 0,.slice none 0 0,.slice (some ⟨B,0,none⟩) 1 1,.slice (some ⟨B+1,0,none⟩) 1 1,.slice (some ⟨B+2,0,none⟩) 2 2,.slice (some ⟨B+3,0,none⟩) 2 2,.slice (some ⟨B+4,0,none⟩) 2 2,.slice (some ⟨B+5,0,none⟩) 1 1,.slice none 0 0,.slice (some ⟨B+6,0,none⟩) 3 3,.slice (some ⟨B+7,0,none⟩) 1 1,.slice (some ⟨B+8,0,none⟩) 2 2,.slice (some ⟨B+9,0,none⟩) 1 1,.slice (some ⟨B+10,0,none⟩) 1 1,.slice (some ⟨B+11,0,none⟩) 2 2,.slice none 0 0,.slice (some ⟨B+12,0,none⟩) 1 1,.slice (some ⟨B+13,0,none⟩) 1 1] 68]
def Ut:List (List Int×List Int):=[([],[]),([127],[127]),([127,127],[127,127]),([126,124],[124]),([],[127,126,124]),([127],[127,126]),([124],[127]),([127,126],[]),([126],[126])]
theorem nine_read (w:World):Vn (fun k=>w.heap.size≤k∧k<((tyObjs w.heap.size).foldl World.alloc w).heap.size) ((tyObjs w.heap.size).foldl World.alloc w) (.slice (some ⟨w.heap.size+14,0,none⟩) 9 9) Ut:=by
 have A:=fun i o h=>WU (tyObjs w.heap.size) w i o h;have hsz:=(A 14 _ rfl).2.2;have C:∀ (i:Nat) (u:Value),(match (tyObjs w.heap.size)[14]? with|some (Obj.cells cs _ _)=>cs[i]?|_=>none)=some u→((tyObjs w.heap.size).foldl World.alloc w).cell? ⟨w.heap.size+14,i,none⟩=some u:=fun i u h=>by
  have h14:=(A 14 _ rfl).1;simp only[World.cell?,h14];exact h
 have I:∀ (m:Nat) (l:List Int),(tyObjs w.heap.size)[m]?=some (.cells (l.map (Value.int .i64)).toArray 3)→m<15→l.length≤3→Wh (fun k=>w.heap.size≤k∧k<((tyObjs w.heap.size).foldl World.alloc w).heap.size) ((tyObjs w.heap.size).foldl World.alloc w) (.slice (some ⟨w.heap.size+m,0,none⟩) l.length l.length) l:=fun m l h hm hl =>
  ⟨_,_,rfl,by unfold maxLen;omega,(fun h=>by cases h),fun _=>⟨w.heap.size+m,0,rfl,⟨by omega,by rw[hsz];show _<_+15;omega⟩,fun j hj=>by
   rw[Nat.zero_add];simp only[World.cell?,(A m _ h).1];simp[hj]⟩⟩
 refine⟨_,9,rfl,nR _,by unfold maxLen;omega,(fun h=>by cases h),fun _=>⟨w.heap.size+14,0,rfl,⟨by omega,by rw[hsz];show _<_+15;omega⟩,fun j i hj hi=>?_⟩⟩;have hj9:j<9:=hj;rcases(show(j=0∨j=1∨j=2∨j=3∨j=4∨j=5∨j=6∨j=7∨j=8) by omega) with rfl|rfl|rfl|rfl|rfl|rfl|rfl|rfl|rfl
 all_goals rcases(show i=0∨i=1 by omega) with rfl|rfl
 ·exact⟨_,C 0 _ rfl,Wh.nil _ _⟩
 ·exact⟨_,C 1 _ rfl,Wh.nil _ _⟩
 ·exact⟨_,C 2 _ rfl,I 0 [127] rfl (by decide) (by decide)⟩
 ·exact⟨_,C 3 _ rfl,I 1 [127] rfl (by decide) (by decide)⟩
 ·exact⟨_,C 4 _ rfl,I 2 [127,127] rfl (by decide) (by decide)⟩
 ·exact⟨_,C 5 _ rfl,I 3 [127,127] rfl (by decide) (by decide)⟩
 ·exact⟨_,C 6 _ rfl,I 4 [126,124] rfl (by decide) (by decide)⟩
 ·exact⟨_,C 7 _ rfl,I 5 [124] rfl (by decide) (by decide)⟩
 ·exact⟨_,C 8 _ rfl,Wh.nil _ _⟩
 ·exact⟨_,C 9 _ rfl,I 6 [127,126,124] rfl (by decide) (by decide)⟩
 ·exact⟨_,C 10 _ rfl,I 7 [127] rfl (by decide) (by decide)⟩
 ·exact⟨_,C 11 _ rfl,I 8 [127,126] rfl (by decide) (by decide)⟩
 ·exact⟨_,C 12 _ rfl,I 9 [124] rfl (by decide) (by decide)⟩
 ·exact⟨_,C 13 _ rfl,I 10 [127] rfl (by decide) (by decide)⟩
 ·exact⟨_,C 14 _ rfl,I 11 [127,126] rfl (by decide) (by decide)⟩
 ·exact⟨_,C 15 _ rfl,Wh.nil _ _⟩
 ·exact⟨_,C 16 _ rfl,I 12 [126] rfl (by decide) (by decide)⟩
 ·exact⟨_,C 17 _ rfl,I 13 [126] rfl (by decide) (by decide)⟩
theorem types_any (w:World):Calls Tryz.prog 14 #[] w (fun e w'=>e=.returned (.slice (some ⟨w.heap.size+14,0,none⟩) 9 9)∧w'=(tyObjs w.heap.size).foldl World.alloc w):=by
 go_enter Tryz.func14,Tryz.ntmps14;go_wp2;go_ret;exact⟨rfl,rfl⟩
end
section
open Go.RowKit
theorem ZbB {P:Prop}(h:P:=by
 rw[List.getElem?_append_right (by rw[h3];omega),List.getElem?_append_right (by rw[h3];omega),List.getElem?_append_right (by rw[h3];omega),h3,show(k+1) * 3 - 3=k * 3 by omega,show(k+1) * 3+1 - 3=k * 3+1 by omega,show(k+1) * 3+2 - 3=k * 3+2 by omega];exact ih k f (by simpa using h)):P:=h
theorem ZcL {P:Prop}(h:P:=by
 rcases hr _ e with e|e|e
 ·exact(h.fp _ e).2.1 rfl
 ·exact(h.mp _ e).2.1 rfl
 ·exact(h.ep _ e).2.1 rfl):P:=h
def Uz (f:Int×Value×Value):List Value:=[.int .i64 f.1,f.2.1,f.2.2]
def VL (l:List (Int×Value×Value)):List Value:=l.flatMap Uz
def mmCells (m:Int×Int):List Value:=[.int .i64 m.1,.int .i64 m.2]
def flatMm (l:List (Int×Int)):List Value:=l.flatMap mmCells
def Uy (e:ByteArray×Int×Int):List Value:=[.string e.1,.int .i64 e.2.1,.int .i64 e.2.2]
def Um (l:List (ByteArray×Int×Int)):List Value:=l.flatMap Uy
theorem flatFn_snoc (l:List (Int×Value×Value)) (x:Int×Value×Value):VL (l++[x])=VL l++Uz x:=by simp[VL]
theorem flatMm_snoc (l:List (Int×Int)) (x:Int×Int):flatMm (l++[x])=flatMm l++mmCells x:=by simp[flatMm]
theorem flatEx_snoc (l:List (ByteArray×Int×Int)) (x:ByteArray×Int×Int):Um (l++[x])=Um l++Uy x:=by simp[Um]
theorem flatFn_length (l:List (Int×Value×Value)):(VL l).length=l.length * 3:=by
 induction l with
 | nil=>rfl
 | cons x l ih=>simp only[VL,List.flatMap_cons,List.length_append,Uz,List.length_cons,List.length_nil]at ih ⊢;omega
theorem flatFn_at (l:List (Int×Value×Value)):∀ k (f:Int×Value×Value),l[k]?=some f→(VL l)[k * 3]?=some (.int .i64 f.1)∧(VL l)[k * 3+1]?=some f.2.1∧(VL l)[k * 3+2]?=some f.2.2:=by
 induction l with
 | nil=>intro k f h;simp at h
 | cons x l ih =>
  intro k f h;rw[show VL (x :: l)=Uz x++VL l from rfl];cases k with
  | zero=>simp only[List.getElem?_cons_zero,Option.some.injEq]at h;subst h;exact⟨rfl,rfl,rfl⟩
  | succ k =>
   have h3:(Uz x).length=3:=rfl;exact ZbB
theorem flatFn_set (l:List (Int×Value×Value)):∀ k (f:Int×Value×Value) (u:Value),l[k]?=some f→VL (l.set k (f.1,f.2.1,u))=(VL l).set (k * 3+2) u:=by
 induction l with
 | nil=>intro k f u h;simp at h
 | cons x l ih =>
  intro k f u h;cases k with
  | zero=>simp only[List.getElem?_cons_zero,Option.some.injEq]at h;subst h;rfl
  | succ k =>
   have h3:(Uz x).length=3:=rfl;have h1:=ih k f u (by simpa using h);rw[List.set_cons_succ,show VL (x :: l.set k (f.1,f.2.1,u))=Uz x++VL (l.set k (f.1,f.2.1,u)) from rfl,h1,show VL (x :: l)=Uz x++VL l from rfl];rw[List.set_append_right _ _ (by rw[h3];omega),h3,show(k+1) * 3+2 - 3=k * 3+2 by omega]
structure MS where
 m0:Value
 m1:Value
 m2:Value
 m3:Value
 m4:Value
 m5:Value
 m6:Value
 at_:Nat
 fs:List (Int×Value×Value)
 ms:List (Int×Int)
 es:List (ByteArray×Int×Int)
structure MP where
 W:World
 M:Nat
 T:Nat
 tv:Value
 tl:List Int
def own3 (x:MS) (k:Nat):Prop:=x.m2.ownBlock=some k∨x.m3.ownBlock=some k∨x.m5.ownBlock=some k
def WZ (P:MP) (x:MS) (w:World) (k:Nat):Prop:=(P.W.heap.size≤k∧k<w.heap.size)∧k≠P.M∧k≠P.T∧¬ own3 x k
def Uo (x:MS):Array Value:=#[x.m0,x.m1,x.m2,x.m3,x.m4,x.m5,x.m6,.slice none 0 0]
structure Mk (P:MP) (w:World) (x:MS):Prop where
 bel:Below P.W.heap.size P.W w
 hM:w.heap[P.M]?=some (.cells (Uo x) 36 (0,0))
 hT:w.heap[P.T]?=some (.cells #[P.tv,.int .i64 (x.at_:Int)] 48 (0,0))
 le:x.at_≤P.tl.length
 tape:Wh (fun k=>k<P.W.heap.size) P.W P.tv P.tl
 new:P.W.heap.size≤P.M∧P.W.heap.size≤P.T∧P.M≠P.T
 fo:w.ownsRow 0 64 3 x.m2 x.fs.length (VL x.fs)
 mo:w.ownsRow 0 56 2 x.m3 x.ms.length (flatMm x.ms)
 eo:w.ownsRow 0 61 3 x.m5 x.es.length (Um x.es)
 fp:∀ g,x.m2.ownBlock=some g→P.W.heap.size≤g∧g≠P.M∧g≠P.T∧x.m3.ownBlock≠some g∧x.m5.ownBlock≠some g
 mp:∀ g,x.m3.ownBlock=some g→P.W.heap.size≤g∧g≠P.M∧g≠P.T∧x.m5.ownBlock≠some g
 ep:∀ g,x.m5.ownBlock=some g→P.W.heap.size≤g∧g≠P.M∧g≠P.T
structure Vp (P:MP) (w:World) (x:MS) (w':World) (x':MS):Prop where
 keeps:We (WZ P x w) w w'
 mono:∀ k,WZ P x w k→WZ P x' w' k
theorem Vp.refl (P:MP) (w:World) (x:MS):Vp P w x w x:=⟨.refl _ _,fun _ h=>h⟩
theorem Vp.trans {P:MP} {a b c:World} {x y z:MS} (h:Vp P a x b y) (k:Vp P b y c z):Vp P a x c z :=
 ⟨h.keeps.trans (k.keeps.mono h.mono),fun i hi=>k.mono i (h.mono i hi)⟩
theorem Vp.ints {P:MP} {w w':World} {x x':MS} (h:Vp P w x w' x') {v:Value} {l:List Int} (hv:Wh (WZ P x w) w v l):Wh (WZ P x' w') w' v l:=hv.keep h.keeps h.mono
theorem Vp.types {P:MP} {w w':World} {x x':MS} (h:Vp P w x w' x') {v:Value} {l:List (List Int×List Int)} (hv:Vn (WZ P x w) w v l):Vn (WZ P x' w') w' v l:=hv.keep h.keeps h.mono
theorem Mk.lts {P:MP} {w:World} {x:MS} (h:Mk P w x):P.M<w.heap.size∧P.T<w.heap.size∧(∀ g,own3 x g→g<w.heap.size):=by
 refine⟨(Array.getElem?_eq_some_iff.1 h.hM).1,(Array.getElem?_eq_some_iff.1 h.hT).1,fun g hg=>?_⟩;rcases hg with e|e|e
 ·exact(h.fo.lt g e).2
 ·exact(h.mo.lt g e).2
 ·exact(h.eo.lt g e).2
theorem Mk.later {P:MP} {w w':World} {x:MS} (h:Mk P w x) (hk:We (fun k=>k<w.heap.size∧k≠P.T) w w') (a:Nat) (ha:a≤P.tl.length) (hT:w'.heap[P.T]?=some (.cells #[P.tv,.int .i64 (a:Int)] 48 (0,0))) :
 Mk P w' { x with at_:=a }∧Vp P w x w' { x with at_:=a }:=by
 obtain⟨l1,l2,l3⟩:=h.lts;have hb:Below P.W.heap.size P.W w':=⟨hk.os.trans h.bel.os,hk.tape.trans h.bel.tape,hk.output.trans h.bel.output,Nat.le_trans h.bel.size hk.size,fun k hk'=>(hk.block k ⟨WK hk' h.bel.size,fun e=>by have:=h.new.2.1;omega⟩).trans (h.bel.block k hk')⟩;exact⟨⟨hb,(hk.block _ ⟨l1,h.new.2.2⟩).trans h.hM,hT,ha,h.tape,h.new,Wu h.fo hk fun g hg=>⟨l3 g (.inl hg),(h.fp g hg).2.2.1⟩,Wu h.mo hk fun g hg=>⟨l3 g (.inr (.inl hg)),(h.mp g hg).2.2.1⟩,Wu h.eo hk fun g hg=>⟨l3 g (.inr (.inr hg)),(h.ep g hg).2.2⟩,h.fp,h.mp,h.ep⟩,
  hk.mono fun k hk'=>⟨hk'.1.2,hk'.2.2.1⟩,fun k hk'=>⟨⟨hk'.1.1,WK hk'.1.2 hk.size⟩,hk'.2⟩⟩
theorem Mk.below {P:MP} {w w':World} {x:MS} (h:Mk P w x) (hb:Below w.heap.size w w'):Mk P w' x∧Vp P w x w' x :=
 h.later (We.below hb fun _ h=>h.1) x.at_ h.le ((hb.block _ h.lts.2.1).trans h.hT)
theorem Mk.store {P:MP} {w w1:World} {x x':MS} (h:Mk P w x) (r:Option Nat) (hr:∀ k,r=some k→own3 x k) (hk:We (fun k=>k<w.heap.size∧r≠some k) w w1) (o:Nat) (u:Value) (hc:(Uo x).setIfInBounds o u=Uo x') (ha:x'.at_=x.at_)
 (fo:w1.ownsRow 0 64 3 x'.m2 x'.fs.length (VL x'.fs)) (mo:w1.ownsRow 0 56 2 x'.m3 x'.ms.length (flatMm x'.ms)) (eo:w1.ownsRow 0 61 3 x'.m5 x'.es.length (Um x'.es))
 (fp:∀ g,x'.m2.ownBlock=some g→P.W.heap.size≤g∧g≠P.M∧g≠P.T∧x'.m3.ownBlock≠some g∧x'.m5.ownBlock≠some g) (mp:∀ g,x'.m3.ownBlock=some g→P.W.heap.size≤g∧g≠P.M∧g≠P.T∧x'.m5.ownBlock≠some g) (ep:∀ g,x'.m5.ownBlock=some g→P.W.heap.size≤g∧g≠P.M∧g≠P.T)
 (hn:∀ k,own3 x' k→own3 x k∨w.heap.size≤k):Mk P (w1.setCell ⟨P.M,o,none⟩ u) x'∧Vp P w x (w1.setCell ⟨P.M,o,none⟩ u) x':=by
 obtain⟨l1,l2,l3⟩:=h.lts;have hrM:r≠some P.M:=fun e=>by
  exact ZcL
 have hrT:r≠some P.T:=fun e=>by
  rcases hr _ e with e|e|e
  ·exact(h.fp _ e).2.2.1 rfl
  ·exact(h.mp _ e).2.2.1 rfl
  ·exact(h.ep _ e).2.2 rfl
 have hrW:∀ k,r=some k→P.W.heap.size≤k:=fun k e=>by
  rcases hr _ e with e|e|e
  ·exact(h.fp _ e).1
  ·exact(h.mp _ e).1
  ·exact(h.ep _ e).1
 have hsz:(w1.setCell ⟨P.M,o,none⟩ u).heap.size=w1.heap.size:=by simp[World.setCell]
 have hk0:We (fun b=>b≠P.M) w1 (w1.setCell ⟨P.M,o,none⟩ u):=.setCell w1 (fun e=>e rfl) u;have hM:w1.heap[P.M]?=some (.cells (Uo x) 36 (0,0)):=(hk.block _ ⟨l1,hrM⟩).trans h.hM;have hb1:Below P.W.heap.size P.W w1:=⟨hk.os.trans h.bel.os,hk.tape.trans h.bel.tape,hk.output.trans h.bel.output,Nat.le_trans h.bel.size hk.size,fun k hk'=>(hk.block k ⟨WK hk' h.bel.size,fun e=>by have:=hrW k e;omega⟩).trans (h.bel.block k hk')⟩;refine⟨⟨hb1.setCell (by exact h.new.1) u,by rw[Wi w1 P.M o _ _ u hM,hc],(hk0.block _ (fun e=>h.new.2.2 e.symm)).trans (by rw[ha];exact(hk.block _ ⟨l2,hrT⟩).trans h.hT),by rw[ha];exact h.le,h.tape,h.new,
  Wu fo hk0 fun g hg=>(fp g hg).2.1,Wu mo hk0 fun g hg=>(mp g hg).2.1,Wu eo hk0 fun g hg=>(ep g hg).2.1,fp,mp,ep⟩,?_,?_⟩
 ·exact(hk.mono fun k hk'=>⟨hk'.1.2,fun e=>hk'.2.2.2 (hr k e)⟩).trans (hk0.mono fun k hk'=>hk'.2.1)
 ·intro k hk';refine⟨⟨hk'.1.1,by rw[hsz];exact WK hk'.1.2 hk.size⟩,hk'.2.1,hk'.2.2.1,fun e=>?_⟩;rcases hn k e with e|e
  ·exact hk'.2.2.2 e
  ·have:=hk'.1.2;omega
theorem new_at {v v':Value} {N:Nat} (hat:v'.ownBlock=v.ownBlock∨v'.ownBlock=some N) {g:Nat} (hg:v'.ownBlock=some g):v.ownBlock=some g∨g=N:=by
 rcases hat with h|h
 ·exact .inl (h ▸ hg)
 ·have:=h.symm.trans hg;simp only[Option.some.injEq]at this;exact .inr this.symm
theorem UJ {w w1:World} {o:Obj} {r:Option Nat} (hg:(w.alloc o).grownBy w1 r):We (fun k=>k<w.heap.size∧r≠some k) w w1 :=
 ((We.alloc w (fun _ h=>h) o).mono fun _ h=>h.1).trans (.grown hg (fun k hk=>by simp;omega) (fun k e hk=>hk.2 e))
theorem Mk.pushM {P:MP} {w w1:World} {x:MS} (h:Mk P w x) (o:Obj) (m:Int×Int) {v:Value} {n:Nat} {xs:List Value} (ho:w1.ownsRow 0 56 2 v n xs) (hn:n=x.ms.length+1) (hx:xs=flatMm x.ms++mmCells m) (hg:(w.alloc o).grownBy w1 x.m3.ownBlock) (hat:v.ownBlock=x.m3.ownBlock∨v.ownBlock=some (w.alloc o).heap.size) :
 Mk P (w1.setCell ⟨P.M,3,none⟩ v) { x with m3:=v,ms:=x.ms++[m] }∧Vp P w x (w1.setCell ⟨P.M,3,none⟩ v) { x with m3:=v,ms:=x.ms++[m] }:=by
 subst hn hx;obtain⟨l1,l2,l3⟩:=h.lts;have hs:(w.alloc o).heap.size=w.heap.size+1:=by simp
 have hk:=UJ hg;have hW:=h.bel.size;refine h.store x.m3.ownBlock (fun k e=>.inr (.inl e)) hk 3 v rfl rfl (Wu h.fo hk fun g hg=>⟨l3 g (.inl hg),fun e=>(h.fp g hg).2.2.2.1 e⟩) (by rw[List.length_append,flatMm_snoc];exact ho) (Wu h.eo hk fun g hg=>⟨l3 g (.inr (.inr hg)),fun e=>(h.mp g e).2.2.2 hg⟩) (fun g hg=>?_) (fun g hg=>?_) h.ep (fun k e=>?_)
 ·obtain⟨a,b,c,d,e⟩:=h.fp g hg;refine⟨a,b,c,fun e2=>?_,e⟩;rcases new_at hat e2 with e3|e3
  ·exact d e3
  ·have:=l3 g (.inl hg);omega
 ·rcases new_at hat hg with e3|e3
  ·exact h.mp g e3
  ·exact⟨by omega,by omega,by omega,fun e=>by have:=l3 g (.inr (.inr e));omega⟩
 ·rcases e with e|e|e
  ·exact .inl (.inl e)
  ·rcases new_at hat e with e3|e3
   ·exact .inl (.inr (.inl e3))
   ·exact .inr (by omega)
  ·exact .inl (.inr (.inr e))
theorem Mk.pushE {P:MP} {w w1:World} {x:MS} (h:Mk P w x) (o:Obj) (m:ByteArray×Int×Int) {v:Value} {n:Nat} {xs:List Value} (ho:w1.ownsRow 0 61 3 v n xs) (hn:n=x.es.length+1) (hx:xs=Um x.es++Uy m) (hg:(w.alloc o).grownBy w1 x.m5.ownBlock) (hat:v.ownBlock=x.m5.ownBlock∨v.ownBlock=some (w.alloc o).heap.size) :
 Mk P (w1.setCell ⟨P.M,5,none⟩ v) { x with m5:=v,es:=x.es++[m] }∧Vp P w x (w1.setCell ⟨P.M,5,none⟩ v) { x with m5:=v,es:=x.es++[m] }:=by
 subst hn hx;obtain⟨l1,l2,l3⟩:=h.lts;have hs:(w.alloc o).heap.size=w.heap.size+1:=by simp
 have hk:=UJ hg;have hW:=h.bel.size;refine h.store x.m5.ownBlock (fun k e=>.inr (.inr e)) hk 5 v rfl rfl (Wu h.fo hk fun g hg=>⟨l3 g (.inl hg),fun e=>(h.fp g hg).2.2.2.2 e⟩) (Wu h.mo hk fun g hg=>⟨l3 g (.inr (.inl hg)),fun e=>(h.mp g hg).2.2.2 e⟩) (by rw[List.length_append,flatEx_snoc];exact ho) (fun g hg=>?_) (fun g hg=>?_) (fun g hg=>?_) (fun k e=>?_)
 ·obtain⟨a,b,c,d,e⟩:=h.fp g hg;refine⟨a,b,c,d,fun e2=>?_⟩;rcases new_at hat e2 with e3|e3
  ·exact e e3
  ·have:=l3 g (.inl hg);omega
 ·obtain⟨a,b,c,d⟩:=h.mp g hg;refine⟨a,b,c,fun e2=>?_⟩;rcases new_at hat e2 with e3|e3
  ·exact d e3
  ·have:=l3 g (.inr (.inl hg));omega
 ·rcases new_at hat hg with e3|e3
  ·exact h.ep g e3
  ·exact⟨by omega,by omega,by omega⟩
 ·rcases e with e|e|e
  ·exact .inl (.inl e)
  ·exact .inl (.inr (.inl e))
  ·rcases new_at hat e with e3|e3
   ·exact .inl (.inr (.inr e3))
   ·exact .inr (by omega)
theorem Mk.pushF {P:MP} {w w1:World} {x:MS} (h:Mk P w x) (o:Obj) (m:Int×Value×Value) {v:Value} {n:Nat} {xs:List Value} (ho:w1.ownsRow 0 64 3 v n xs) (hn:n=x.fs.length+1) (hx:xs=VL x.fs++Uz m) (hg:(w.alloc o).grownBy w1 x.m2.ownBlock) (hat:v.ownBlock=x.m2.ownBlock∨v.ownBlock=some (w.alloc o).heap.size) :
 Mk P (w1.setCell ⟨P.M,2,none⟩ v) { x with m2:=v,fs:=x.fs++[m] }∧Vp P w x (w1.setCell ⟨P.M,2,none⟩ v) { x with m2:=v,fs:=x.fs++[m] }:=by
 subst hn hx;obtain⟨l1,l2,l3⟩:=h.lts;have hs:(w.alloc o).heap.size=w.heap.size+1:=by simp
 have hk:=UJ hg;have hW:=h.bel.size;refine h.store x.m2.ownBlock (fun k e=>.inl e) hk 2 v rfl rfl (by rw[List.length_append,flatFn_snoc];exact ho) (Wu h.mo hk fun g hg=>⟨l3 g (.inr (.inl hg)),fun e=>(h.fp g e).2.2.2.1 hg⟩) (Wu h.eo hk fun g hg=>⟨l3 g (.inr (.inr hg)),fun e=>(h.fp g e).2.2.2.2 hg⟩) (fun g hg=>?_) h.mp h.ep (fun k e=>?_)
 ·rcases new_at hat hg with e3|e3
  ·exact h.fp g e3
  ·exact⟨by omega,by omega,by omega,fun e=>by have:=l3 g (.inr (.inl e));omega,fun e=>by have:=l3 g (.inr (.inr e));omega⟩
 ·rcases e with e|e|e
  ·rcases new_at hat e with e3|e3
   ·exact .inl (.inl e3)
   ·exact .inr (by omega)
  ·exact .inl (.inr (.inl e))
  ·exact .inl (.inr (.inr e))
theorem Mk.set1 {P:MP} {w:World} {x:MS} (h:Mk P w x) (u:Value):Mk P (w.setCell ⟨P.M,1,none⟩ u) { x with m1:=u }∧Vp P w x (w.setCell ⟨P.M,1,none⟩ u) { x with m1:=u } :=
 h.store none (fun _ e=>by cases e) (.refl _ _) 1 u rfl rfl h.fo h.mo h.eo h.fp h.mp h.ep fun _ e=>.inl e
theorem Mk.set4 {P:MP} {w:World} {x:MS} (h:Mk P w x) (u:Value):Mk P (w.setCell ⟨P.M,4,none⟩ u) { x with m4:=u }∧Vp P w x (w.setCell ⟨P.M,4,none⟩ u) { x with m4:=u } :=
 h.store none (fun _ e=>by cases e) (.refl _ _) 4 u rfl rfl h.fo h.mo h.eo h.fp h.mp h.ep fun _ e=>.inl e
theorem Mk.set6 {P:MP} {w:World} {x:MS} (h:Mk P w x) (u:Value):Mk P (w.setCell ⟨P.M,6,none⟩ u) { x with m6:=u }∧Vp P w x (w.setCell ⟨P.M,6,none⟩ u) { x with m6:=u } :=
 h.store none (fun _ e=>by cases e) (.refl _ _) 6 u rfl rfl h.fo h.mo h.eo h.fp h.mp h.ep fun _ e=>.inl e
theorem Mk.code {P:MP} {w:World} {x:MS} (h:Mk P w x) {g c j:Nat} (hm:x.m2=.slice (some ⟨g,0,none⟩) x.fs.length c) {f:Int×Value×Value} (hf:x.fs[j]?=some f) (u:Value) :
 Mk P (w.setCell ⟨g,j * 3+2,none⟩ u) { x with fs:=x.fs.set j (f.1,f.2.1,u) }∧Vp P w x (w.setCell ⟨g,j * 3+2,none⟩ u) { x with fs:=x.fs.set j (f.1,f.2.1,u) }:=by
 obtain⟨l1,l2,l3⟩:=h.lts;have hg2:x.m2.ownBlock=some g:=by rw[hm];rfl
 obtain⟨p1,p2,p3,p4,p5⟩:=h.fp g hg2;have hfo:=h.fo;rw[hm]at hfo;have hst:=(hfo.stored (j * 3+2) u).1;have hk0:We (fun b=>b≠g) w (w.setCell ⟨g,j * 3+2,none⟩ u):=.setCell w (fun e=>e rfl) u;have hsz:(w.setCell ⟨g,j * 3+2,none⟩ u).heap.size=w.heap.size:=by simp[World.setCell]
 refine⟨⟨h.bel.setCell (by exact p1) u,(hk0.block _ (fun e=>p2 e.symm)).trans h.hM,(hk0.block _ (fun e=>p3 e.symm)).trans h.hT,h.le,h.tape,h.new,?_,Wu h.mo hk0 fun k hk e=>p4 (e ▸ hk),Wu h.eo hk0 fun k hk e=>p5 (e ▸ hk),h.fp,h.mp,h.ep⟩,hk0.mono fun k hk e=>hk.2.2.2 (.inl (e ▸ hg2)),fun k hk=>⟨⟨hk.1.1,by rw[hsz];exact hk.1.2⟩,hk.2⟩⟩;rw[hm,List.length_set,flatFn_set x.fs j f u hf];exact hst
end
end Go.Proofs.YtgmgcadlkebokaaGreatDoor
