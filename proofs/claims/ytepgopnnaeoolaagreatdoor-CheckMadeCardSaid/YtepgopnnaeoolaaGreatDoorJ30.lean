/- A part of the proof. -/
import Derived.Test.YtepgopnnaeoolaaGreatDoorJ10
import Derived.Test.YtepgopnnaeoolaaGreatDoorJ29
namespace Go.Proofs.YtepgopnnaeoolaaGreatDoor
open Go.RowKit
set_option maxHeartbeats 2000000
set_option maxRecDepth 100000
theorem Zbd {P:Prop}(h:P:=by
 clear ht hs hnt hk0;go_enter Tryz.func84,Tryz.ntmps84;go_wp2;exact bodyPost_ret (v:=.tuple #[.agg #[.slice none 0 0,.slice none 0 0],.bool false]) (by simp[results,Tryz.results84,go_sem]) rfl ⟨_,_,rfl,Wg.nil _ _,Wg.nil _ _,((bR _ _).alloc (nR _) _).alloc (by simp) _⟩):P:=h
theorem eql_nil_in (w:World) (d:Nat) (t e:TypeId) (a:Option Addr) (n c:Nat) (h:Tryz.prog.underlying t=some (.slice e)):(Op.equalIn (d+1) t (.slice a n c) (.slice none 0 0)).run Tryz.prog w=.ok a.isNone w:=by
 cases a <;> simp[Op.equalIn,run_underlying h]
theorem eql_nil_of (w:World) (t e:TypeId) (a:Option Addr) (n c:Nat) (h:Tryz.prog.underlying t=some (.slice e)):(Op.equal t (.slice a n c) (.slice none 0 0)).run Tryz.prog w=.ok a.isNone w:=eql_nil_in w 9999 t e a n c h
theorem eql_nil (w:World) (a:Option Addr) (n c:Nat):(binOp .eql 22 (.slice a n c) (.slice none 0 0)).run Tryz.prog w=.ok (.bool a.isNone) w:=by
 simp[binOp,eql_nil_of w 22 3 a n c Tryz.underlying22]
theorem news_below {w0 w:World} {v:Value} {m:Nat} {us:List Value} (h:VG w0 v m us) (hb:Below w0.heap.size w0 w):VG w v m us:=by
 refine h.keep fun a c _ j u _ hc=>?_;exact(hb.cell (p:=a.add j) (wL _ _ hc)).trans hc
theorem clone_any (K:Nat→Prop) (w:World) (v:Value) (l:List Int) (h:Wg K w v l) (hl:l.length≤100000):Calls Tryz.prog 117 #[v] w (LocPost l w):=by
 have HN:=hD h.news;obtain⟨A,c,rfl,hm,hnil,hsome⟩:=h;rcases A with _|a
 ·obtain rfl:=hnil rfl;have h0:l=[]:=by
   rcases Nat.eq_zero_or_pos l.length with h0|h0
   ·exact List.eq_nil_of_length_eq_zero h0
   ·obtain⟨_,_,h,_⟩:=hsome h0;cases h
  subst h0;clear hm hnil hsome;have hq:=eql_nil w none 0 0;simp only[List.length_nil]at *;go_enter Tryz.func117,Tryz.ntmps117;go_wp2;go_ret;exact⟨_,rfl,Wg.nil _ _,bR _ _⟩
 ·clear hnil hsome hm;obtain⟨n,hn⟩:∃ n,l.length=n:=⟨_,rfl⟩;rw[hn]at HN hl ⊢;have HL:=hD hn;clear hn;have hq:=eql_nil w (some a) n c;go_enter Tryz.func117,Tryz.ntmps117;go_wp2_with (at_builtin;refine Wl rfl (.tmp 5) (.tmp 6) 22 3 rfl _ 1 8 Tryz.underlying22 Tryz.infoInt rfl (by decide) (by decide) (.slice (some ⟨w.heap.size,0,none⟩) 0 0) 0 [] (by rfl) (Ue w _) _ n (l.map (Value.int .i64)) (by rfl) (by rw[List.length_map,HL.out,Nat.mul_one]) (news_below HN.out (Wi (bR _ _) _)) (WP _) (by omega) ?_;intro v1 w1 ho1 hg1 hat1;simp only[Nat.zero_add,List.nil_append]at ho1;obtain⟨B1,d1,rfl⟩:=Wc ho1)
  have hk:=keeps_made hg1;have HO:=hD (owns_new (w:=w) (l:=l) ho1 HL.out.symm rfl (by rw[HL.out];omega) (fun g hg=>by
   rcases hat1 with h1|h1
   ·have:=h1.symm.trans hg;simp only[Value.ownBlock,Option.some.injEq]at this;omega
   ·have:=h1.symm.trans hg;simp only[Option.some.injEq]at this;rw[← this];simp))
  have HB:=hD (hk.to_below fun _ h=>h);clear ho1 hg1 hat1 hk;go_ret;exact⟨_,rfl,HO.out,HB.out⟩
def VS (B:Nat) (w:World):Prop:=w.heap[B]?=some (.cells #[.slice none 0 0,.slice none 0 0] 66 (0,0))
theorem VS.all {B:Nat} {w:World} (h:VS B w):w.cell? ⟨B,0,none⟩=some (.slice none 0 0)∧w.cell? ⟨B,1,none⟩=some (.slice none 0 0)∧w.frozen? ⟨B,0,none⟩=false∧w.frozen? ⟨B,1,none⟩=false:=by
 unfold VS at h;simp[World.cell?,World.frozen?,h]
theorem VS.fill {B:Nat} {w:World} (h:VS B w) (a b:Value):((w.setCell ⟨B,0,none⟩ a).setCell ⟨B,1,none⟩ b).heap[B]?=some (.cells #[a,b] 66 (0,0)):=by
 have h0:=Wh w B 0 _ _ a h;have h1:=Wh _ B 1 _ _ b h0;simpa using h1
theorem VS.below {B:Nat} {w w':World} (h:VS B w) (hB:B<w.heap.size) (hb:Below w.heap.size w w'):VS B w':=(hb.block B hB).trans h
theorem VS.new (w:World):VS w.heap.size (w.alloc (.cells #[.slice none 0 0,.slice none 0 0] 66)):=by
 unfold VS;simp[World.alloc,-World.alloc_eq]
theorem Vm {w0 w:World} {B:Nat} {a b:Value} (h:Below w0.heap.size w0 w) (hB:w0.heap.size≤B):Below w0.heap.size w0 ((w.setCell ⟨B,0,none⟩ a).setCell ⟨B,1,none⟩ b):=(h.setCell (by exact hB) _).setCell (by exact hB) _
theorem Ux {K K':Nat→Prop} {w:World} {B:Nat} {a b v:Value} {l:List Int} (h:Wg K w v l) (hB:¬ K B) (hm:∀ k,K k→K' k):Wg K' ((w.setCell ⟨B,0,none⟩ a).setCell ⟨B,1,none⟩ b) v l :=
 h.keep ((Wf.setCell w (by exact hB) a).trans (Wf.setCell _ (by exact hB) b)) hm
theorem far2 {w:World} {g B i:Nat} {a b u:Value} (h:w.cell? ⟨g,i,none⟩=some u) (hne:g≠B):((w.setCell ⟨B,0,none⟩ a).setCell ⟨B,1,none⟩ b).cell? ⟨g,i,none⟩=some u :=
 (((Wf.setCell (K:=fun k=>k≠B) w (fun h=>h rfl) a).trans (Wf.setCell (K:=fun k=>k≠B) _ (fun h=>h rfl) b)).cell (p:=⟨g,i,none⟩) hne).trans h
def CopPost (t:List Int×List Int) (w:World) (e:Ending) (w':World):Prop :=
 ∃ p r:Value,e=.returned (.agg #[p,r])∧Wg (fun k=>w.heap.size≤k∧k<w'.heap.size) w' p t.1∧Wg (fun k=>w.heap.size≤k∧k<w'.heap.size) w' r t.2∧Below w.heap.size w w'
theorem copyType_any (K:Nat→Prop) (w:World) (hK:∀ k,K k→k<w.heap.size) (p r:Value) (t:List Int×List Int) (h1:Wg K w p t.1) (h2:Wg K w r t.2) (hl:t.1.length≤100000∧t.2.length≤100000) :
 Calls Tryz.prog 107 #[.agg #[p,r]] w (CopPost t w):=by
 have HC1:=hD (fun wz (hb:Below w.heap.size w wz)=>clone_any (fun k=>k<wz.heap.size) wz p t.1 (h1.keep (Wf.below hb hK) fun k hk=>WW (hK k hk) hb.size) hl.1);have HC2:=hD (fun wz (hb:Below w.heap.size w wz)=>clone_any (fun k=>k<wz.heap.size) wz r t.2 (h2.keep (Wf.below hb hK) fun k hk=>WW (hK k hk) hb.size) hl.2);obtain⟨A1,c1,hv1,_,_⟩:=h1.form;obtain⟨A2,c2,hv2,_,_⟩:=h2.form;rw[hv1]at HC1;rw[hv2]at HC2;rw[hv1,hv2];clear h1 h2 hv1 hv2 hl;generalize t.1.length=n1 at *;generalize t.2.length=n2 at *;obtain⟨W,hW⟩:∃ W,W=(w.alloc (.cells #[.slice A1 n1 c1,.slice A2 n2 c2] 66)).alloc (.cells #[.slice none 0 0,.slice none 0 0] 66):=⟨_,rfl⟩;have hs:W.heap.size=w.heap.size+2:=by rw[hW];simp
 have hbw:Below w.heap.size w W:=by rw[hW];exact((bR w.heap.size w).alloc (nR _) _).alloc (by simp) _
 have hz:VS (w.heap.size+1) W:=by
  have h:=VS.new (w.alloc (.cells #[.slice A1 n1 c1,.slice A2 n2 c2] 66));rw[show(w.alloc (.cells #[.slice A1 n1 c1,.slice A2 n2 c2] 66)).heap.size=w.heap.size+1 by simp]at h;rw[hW];exact h
 have hk0:W.cell? ⟨w.heap.size,0,none⟩=some (.slice A1 n1 c1):=by rw[hW,World.cell?_alloc_lt _ _ _ (by simp),wN];rfl
 have hk1:W.cell? ⟨w.heap.size,1,none⟩=some (.slice A2 n2 c2):=by rw[hW,World.cell?_alloc_lt _ _ _ (by simp),wN];rfl
 have hbd:Below w.heap.size w W.drew:=hbw.drew;have HF:Hid (∀ wz,Below W.drew.heap.size W.drew wz→wz.cell? ⟨w.heap.size,0,none⟩=some (.slice A1 n1 c1)∧wz.cell? ⟨w.heap.size,1,none⟩=some (.slice A2 n2 c2)∧VS (w.heap.size+1) wz):=hD fun wz hb =>
  ⟨(hb.cell (p:=⟨w.heap.size,0,none⟩) (by show w.heap.size<W.heap.size;omega)).trans hk0,(hb.cell (p:=⟨w.heap.size,1,none⟩) (by show w.heap.size<W.heap.size;omega)).trans hk1,VS.below (w:=W.drew) hz (by show w.heap.size+1<W.heap.size;omega) hb⟩
 have HBD:=hD hbd;have HS:=hD hs;have HQ1:=hD (HC1.out _ hbd);clear hbd hbw hz hs HC1;go_enter Tryz.func107,Tryz.ntmps107
 go_upto_region 1 with (fail)
 rw[← hW];clear hW;have hBne:w.heap.size≠w.heap.size+1:=by omega
 have HBne:=hD hBne;have HBlt:Hid (w.heap.size+1<W.heap.size):=hD (by have:=HS.out;omega);have HBge:Hid (w.heap.size≤w.heap.size+1):=hD (by omega);clear hBne;generalize w.heap.size+1=B at *
 go_region_held3 (fun w'=>w'.cell? ⟨w.heap.size,0,none⟩=some (.slice A1 n1 c1)∧w'.cell? ⟨w.heap.size,1,none⟩=some (.slice A2 n2 c2))
  (first|go_keep|exact⟨far2 (HF.out _ hb2).1 HBne.out,far2 (HF.out _ hb2).2.1 HBne.out⟩|exact⟨(HF.out _ hb1).1,(HF.out _ hb1).2.1⟩|exact⟨(HF.out _ hb2).1,(HF.out _ hb2).2.1⟩)
  (first
  | (go_at_call 117;(with_reducible refine HQ1.out.mono ?_);rintro e w1 ⟨v1,rfl,hi1,hb1⟩;obtain⟨B1,d1,hq1,_,_⟩:=hi1.form;rw[hq1]at hi1 ⊢)
  | (go_at_call 117;(with_reducible refine(HC2.out _ (Wa HBD.out hb1)).mono ?_);rintro e w2 ⟨v2,rfl,hi2,hb2'⟩;obtain⟨B2,d2,hq2,_,_⟩:=hi2.form;rw[hq2]at hi2 ⊢;have hb2:=Wa hb1 hb2';obtain⟨z0,z1,f0,f1⟩:=(HF.out _ hb2).2.2.all))
 all_goals
  have hfl:=(HF.out _ hb2).2.2.fill (.slice B1 t.1.length d1) (.slice B2 t.2.length d2);have HFL:=hD hfl;have hlt:=HBlt.out;have hs:=HS.out;have hsz:W.drew.heap.size=W.heap.size:=rfl;have hfin:CopPost t w (.returned (.agg #[.slice B1 t.1.length d1,.slice B2 t.2.length d2])) ((w2.setCell ⟨B,0,none⟩ (.slice B1 t.1.length d1)).setCell ⟨B,1,none⟩ (.slice B2 t.2.length d2)):=by
   have hw:((w2.setCell ⟨B,0,none⟩ (.slice B1 t.1.length d1)).setCell ⟨B,1,none⟩ (.slice B2 t.2.length d2)).heap.size=w2.heap.size:=by simp[World.setCell]
   have h12:=hb2'.size;have h01:=hb1.size;refine⟨_,_,rfl,Ux (hi1.keep (Wf.below hb2' fun _ hk=>hk.2) fun k hk=>hk) (fun hk=>by have:=hk.1;omega) (fun k hk=>?_),Ux hi2 (fun hk=>by have:=hk.1;omega) (fun k hk=>?_),Vm (Wa HBD.out hb2) HBge.out⟩
   ·have h1:=hk.1;have h2:=hk.2;exact⟨by omega,by rw[hw];omega⟩
   ·have h1:=hk.1;have h2:=hk.2;exact⟨by omega,by rw[hw];omega⟩
  have HFIN:=hD hfin;clear hfin hfl hb1 hb2 hb2' hi1 hi2 z0 z1 f0 f1 hk0 hk1 hlt hs hsz;go_wp2;have hfl:=HFL.out;exact bodyPost_ret (v:=.agg #[.slice B1 t.1.length d1,.slice B2 t.2.length d2]) (by simp[results,Tryz.results107,go_sem,World.cell?,hfl]) rfl HFIN.out
theorem typeB_none {m:W8} {k:Int} (h:k<0∨(m.types.length:Int)≤k):typeB m k=none:=by
 unfold typeB;rw[if_neg (by omega)]
theorem typeB_some {m:W8} {k:Nat} (h:k<m.types.length):typeB m (k:Int)=some (m.types.getD k ([],[])):=by
 unfold typeB;rw[if_pos (by omega),Int.toNat_natCast]
def VI (m:W8):Prop:=m.types.length≤100000∧m.imps.length≤100000∧m.funs.length≤100000∧(∀ t ∈ m.types,t.1.length≤100000∧t.2.length≤100000)∧∀ f ∈ m.funs,f.loc.length≤100000
theorem Ve {α:Type} (l:List α) (j:Nat) (d:α) (h:j<l.length):l.getD j d ∈ l:=by
 rw[List.getD_eq_getElem?_getD,List.getElem?_eq_getElem h];exact List.getElem_mem h
theorem V6 {K:Nat→Prop} {w:World} {v:Value} {n size:Nat} {f:Nat→Nat→Value→Prop} (h:Wd K w v n size f):∃ A k c,v=.slice A k c:=by
 obtain⟨A,c,h1,_⟩:=h;exact⟨A,n,c,h1⟩
theorem typeAt_any (w:World) (v:Mv) (m:W8) (h:WQ (fun k=>k<w.heap.size) w v m) (hs:VI m) (k:Int) :
 Calls Tryz.prog 84 #[.agg v.cells,.int .i64 k] w (TypPost (fun _=>False) (typeB m k) w):=by
 have ht:=h.types;have hl:=hs.1;obtain⟨A0,c0,hv0,_,_⟩:=Wd.form ht;obtain⟨A1,n1,c1,hv1⟩:=V6 h.imps;obtain⟨A2,n2,c2,hv2⟩:=V6 h.funs;obtain⟨A3,n3,c3,hv3⟩:=V6 h.mems;obtain⟨A4,n4,c4,hv4⟩:=V6 h.globs;obtain⟨A5,n5,c5,hv5⟩:=V6 h.exps;obtain⟨A6,n6,c6,hv6⟩:=V6 h.datas;obtain⟨A7,n7,c7,hv7⟩:=V6 h.cus;obtain⟨m0,m1,m2,m3,m4,m5,m6,m7⟩:=v;simp only at ht hv0 hv1 hv2 hv3 hv4 hv5 hv6 hv7;subst hv0 hv1 hv2 hv3 hv4 hv5 hv6 hv7;simp only[Mv.cells];clear h;have HSH:=hD hs.2.2.2.1;obtain⟨nt,hnt⟩:∃ n,m.types.length=n:=⟨_,rfl⟩;have HNT:=hD hnt;rcases(show k<0∨(m.types.length:Int)≤k∨(0≤k∧k<m.types.length) by omega) with hk0|hk0|hk0
 ·rw[typeB_none (.inl hk0)];rw[hnt]at ht ⊢;have d0:decide (k<0)=true:=by simp;omega
  exact Zbd
 ·rw[typeB_none (.inr hk0)];rw[hnt]at ht hk0 ⊢;have d0:decide (k<0)=false:=by simp;omega
  have d1:decide ((nt:Int)≤k)=true:=by simp;omega
  exact Zbd
 ·obtain⟨k,rfl⟩:∃ j:Nat,k=(j:Int):=⟨k.toNat,by omega⟩;rw[typeB_some (by omega)];have hkn:k<m.types.length:=by omega
  obtain⟨g0,o0,cc0,he,_,_⟩:=Wd.some_ ht (by omega);simp only[vI]at he;obtain⟨rfl,-,rfl⟩:=he;obtain⟨p,r,hp,hr,hip,hir⟩:=Vo.at_ ht k hkn;have hsh:=hs.2.2.2.1 _ (Ve m.types k ([],[]) hkn);generalize m.types.getD k ([],[])=t at hip hir hsh ⊢;obtain⟨Ap,cp,rfl,_,_⟩:=hip.form;obtain⟨Ar,cr,rfl,_,_⟩:=hir.form;have kp:=cell_two hp;have kr:=cell_two hr;have HCT:=hD (fun wz (hb:Below w.heap.size w wz)=>copyType_any (fun k=>k<wz.heap.size) wz (fun _ h=>h) _ _ t (hip.keep (Wf.below hb fun _ hk=>hk) fun _ hk=>WW hk hb.size) (hir.keep (Wf.below hb fun _ hk=>hk) fun _ hk=>WW hk hb.size) hsh);rw[hnt]at hkn ⊢;have d0:decide ((k:Int)<0)=false:=by simp
  have d1:decide ((nt:Int)≤(k:Int))=false:=by simp;omega
  generalize t.1.length=np at *;generalize t.2.length=nr at *;have hb0:=((bR w.heap.size w).alloc (nR _) (.cells #[.slice (some ⟨g0,o0,none⟩) nt c0,.slice A1 n1 c1,.slice A2 n2 c2,.slice A3 n3 c3,.slice A4 n4 c4,.slice A5 n5 c5,.slice A6 n6 c6,.slice A7 n7 c7] 33)).alloc (by simp) (.cells #[.slice none 0 0,.slice none 0 0] 66);have HC0:=hD (HCT.out _ hb0);have HB0:=hD hb0;have hz:=VS.new (w.alloc (.cells #[.slice (some ⟨g0,o0,none⟩) nt c0,.slice A1 n1 c1,.slice A2 n2 c2,.slice A3 n3 c3,.slice A4 n4 c4,.slice A5 n5 c5,.slice A6 n6 c6,.slice A7 n7 c7] 33));rw[show(w.alloc (.cells #[.slice (some ⟨g0,o0,none⟩) nt c0,.slice A1 n1 c1,.slice A2 n2 c2,.slice A3 n3 c3,.slice A4 n4 c4,.slice A5 n5 c5,.slice A6 n6 c6,.slice A7 n7 c7] 33)).heap.size=w.heap.size+1 by simp]at hz;have HZ:=hD hz;clear ht hs hnt hk0 hip hir hsh HCT hb0 hz hp hr;go_enter Tryz.func84,Tryz.ntmps84;go_wp2_with fail
  go_at_call 107;refine HC0.out.mono ?_;rintro e w1 ⟨p',r',rfl,hi1,hi2,hb1⟩;obtain⟨B1,e1,hq1,_,_⟩:=hi1.form;obtain⟨B2,e2,hq2,_,_⟩:=hi2.form;rw[hq1]at hi1 ⊢;rw[hq2]at hi2 ⊢;have hz1:=HZ.out.below (by simp) hb1;have HFL:=hD (hz1.fill (.slice B1 t.1.length e1) (.slice B2 t.2.length e2));obtain⟨z0,z1,f0,f1⟩:=hz1.all;have hs2:((w.alloc (.cells #[.slice (some ⟨g0,o0,none⟩) nt c0,.slice A1 n1 c1,.slice A2 n2 c2,.slice A3 n3 c3,.slice A4 n4 c4,.slice A5 n5 c5,.slice A6 n6 c6,.slice A7 n7 c7] 33)).alloc (.cells #[.slice none 0 0,.slice none 0 0] 66)).heap.size=w.heap.size+2:=by simp
  rw[hs2]at hi1 hi2;have hfin:TypPost (fun _=>False) (some t) w (.returned (.tuple #[.agg #[.slice B1 t.1.length e1,.slice B2 t.2.length e2],.bool true])) ((w1.setCell ⟨w.heap.size+1,0,none⟩ (.slice B1 t.1.length e1)).setCell ⟨w.heap.size+1,1,none⟩ (.slice B2 t.2.length e2)):=by
   have hw:((w1.setCell ⟨w.heap.size+1,0,none⟩ (.slice B1 t.1.length e1)).setCell ⟨w.heap.size+1,1,none⟩ (.slice B2 t.2.length e2)).heap.size=w1.heap.size:=by simp[World.setCell]
   exact⟨_,_,rfl,Ux hi1 (fun hk=>by have:=hk.1;omega) (fun k hk=>.inr ⟨by have:=hk.1;omega,by rw[hw];exact hk.2⟩),Ux hi2 (fun hk=>by have:=hk.1;omega) (fun k hk=>.inr ⟨by have:=hk.1;omega,by rw[hw];exact hk.2⟩),Vm (Wa HB0.out hb1) (by omega)⟩
  have HFIN:=hD hfin;clear hfin hb1 hi1 hi2 hz1 hs2 hq1 hq2;go_wp2;have hfl:=HFL.out;exact bodyPost_ret (v:=.tuple #[.agg #[.slice B1 t.1.length e1,.slice B2 t.2.length e2],.bool true]) (by simp[results,Tryz.results84,go_sem,World.cell?,hfl]) rfl HFIN.out
end Go.Proofs.YtepgopnnaeoolaaGreatDoor
