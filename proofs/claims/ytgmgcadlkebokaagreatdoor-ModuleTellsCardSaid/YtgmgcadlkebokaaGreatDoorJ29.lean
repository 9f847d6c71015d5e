/- A part of the proof. -/
import Derived.Test.YtgmgcadlkebokaaGreatDoorJ17
namespace Go.Proofs.YtgmgcadlkebokaaGreatDoor
section
open Go.RowKit
set_option maxHeartbeats 1000000
set_option maxRecDepth 100000
theorem Zq {P:Prop}(h:P:=by
 obtain⟨k,a,hk,rfl,rfl,HE⟩:=hrel;by_cases hlt:k<n
 ·have hkn:(0:Int)≤k:=Int.natCast_nonneg _;have hd:decide ((k:Int)<(n:Int))=true:=by simp;omega
  obtain⟨g1,o1,c3,he,_,_⟩:=H1.out.some_ (by rw[HQ1.out];omega);simp only[vI]at he;obtain⟨rfl,-,-⟩:=he;obtain⟨g2,o2,c4,he,_,_⟩:=H2.out.some_ (by rw[HQ2.out];omega);simp only[vI]at he;obtain⟨rfl,-,-⟩:=he;have k1:=H1.out.at_ k hlt;have k2:=H2.out.at_ k hlt;have HY:=hD (fun (h:q1.getD k 0=q2.getD k 0)=>HE.out.succ h);have HN:=hD (fun (h:q1.getD k 0≠q2.getD k 0)=>ne_at h);generalize q1.getD k 0=y at k1 HY HN;generalize q2.getD k 0=z at k2 HY HN;go_wp2_with fail
  go_quiet (fail)
  by_cases hyz:y=z
  ·have hd2:(y != z)=false:=by simpa using hyz
   have HY2:=hD (HY.out hyz);clear HY HN hyz;go_wp2;go_roundw
   case rel=>exact⟨k+1,_,by omega,by go_num,rfl,HY2⟩
   case measure=>simp[intOf];omega
  ·have hd2:(y != z)=true:=by simpa using hyz
   have HN2:=hD (HN.out hyz);clear HY HN hyz;go_wp2;go_ret;exact⟨WA (by rw[decide_eq_false HN2.out]),Wn (Wn (bR _ _) _) _⟩
 ·have hd:decide ((k:Int)<(n:Int))=false:=by simp;omega
  have HD:=hD (EqTo.done (d:=(0:Int)) (HQ1.out.trans HQ2.out.symm) (show EqTo q1 q2 0 q1.length by rw[HQ1.out,show n=k by omega];exact HE.out));go_wp2;go_ret;exact⟨WA (by rw[decide_eq_true HD.out]),Wn (bR _ _) _⟩):P:=h
theorem ZbM {P:Prop}(h:P:=by
 go_wp2_with fail
 go_loopw [5] (fun i wr=>∃ k a:Nat,k≤n∧i=.int .i64 (k:Int)∧wr=w.drewN a∧Hid (EqTo q1 q2 0 k)) (fun i _=>n - (intOf i).toNat)
 case atStart=>exact⟨0,0,nZ _,rfl,rfl,hD (EqTo.zero _ _ _)⟩
 case round =>
  exact Zq):P:=h
theorem Zcd {P:Prop}(h:P:=by
 go_wp2;go_ret;exact⟨WA (by rw[decide_eq_false HN.out]),bR _ _⟩):P:=h
theorem list_eq {α:Type} {a b:List α} {d:α} (hl:a.length=b.length) (h:∀ j,j<a.length→a.getD j d=b.getD j d):a=b:=by
 apply List.ext_getElem hl
 intro j h1 h2;have h3:=h j h1
 rwa [List.getD_eq_getElem?_getD,List.getD_eq_getElem?_getD,List.getElem?_eq_getElem h1,List.getElem?_eq_getElem h2]at h3
def EqTo {α:Type} (a b:List α) (d:α) (k:Nat):Prop:=∀ j,j<k→a.getD j d=b.getD j d
theorem EqTo.zero {α:Type} (a b:List α) (d:α):EqTo a b d 0:=fun _ h=>absurd h (Nat.not_lt_zero _)
theorem EqTo.succ {α:Type} {a b:List α} {d:α} {k:Nat} (h:EqTo a b d k) (hk:a.getD k d=b.getD k d):EqTo a b d (k+1):=fun j hj=>by
 rcases Nat.lt_or_ge j k with h1|h1
 ·exact h j h1
 ·rw[show j=k by omega];exact hk
theorem EqTo.done {α:Type} {a b:List α} {d:α} (hl:a.length=b.length) (h:EqTo a b d a.length):a=b:=list_eq hl h
theorem ne_at {α:Type} {a b:List α} {d:α} {j:Nat} (h:a.getD j d≠b.getD j d):a≠b:=fun e=>h (e ▸ rfl)
theorem ne_len {α:Type} {a b:List α} (h:a.length≠b.length):a≠b:=fun e=>h (e ▸ rfl)
def UM (m:Vz) (k:Int):Option (List Int×List Int):=if 0≤k∧k<m.types.length then some (m.types.getD k.toNat ([],[])) else none
def UD (m:Vz) (a:Int):Option (List Int×List Int) :=
 if a = -1 then some ([],[]) else if a = -2 then some ([],[127]) else if a = -3 then some ([],[126]) else if a = -4 then some ([],[124]) else UM m a
def Ul (m:Vz) (f:Int):Option (List Int×List Int) :=
 if f<0∨(m.imps.length:Int)+m.funs.length≤f then none
 else if f<m.imps.length then UM m (m.imps.getD f.toNat (ByteArray.empty,ByteArray.empty,0)).2.2
 else UM m (m.funs.getD (f - m.imps.length).toNat WW).ty
def locB (m:Vz) (f:Int):List Int :=
 match Ul m f with
 | none=>[]
 | some t=>if f<m.imps.length then [] else t.1++(m.funs.getD (f - m.imps.length).toNat WW).loc
def UN (K:Nat→Prop) (t:Option (List Int×List Int)) (w:World) (e:Ending) (w':World):Prop :=
 ∃ p r:Value,e=.returned (.tuple #[.agg #[p,r],.bool t.isSome])∧Wh (fun k=>K k∨(w.heap.size≤k∧k<w'.heap.size)) w' p (t.getD ([],[])).1∧Wh (fun k=>K k∨(w.heap.size≤k∧k<w'.heap.size)) w' r (t.getD ([],[])).2∧Below w.heap.size w w'
theorem rints_is (K:Nat→Prop) (w:World) (v1 v2:Value) (q1 q2:List Int) (h1:Wh K w v1 q1) (h2:Wh K w v2 q2):Calls Tryz.prog 46 #[v1,v2] w (Wj (decide (q1=q2)) w):=by
 obtain⟨A1,c1,hv1,hm1,_⟩:=h1.form;obtain⟨A2,c2,hv2,_,_⟩:=h2.form;unfold maxLen at hm1;rw[hv1]at h1 ⊢;rw[hv2]at h2 ⊢;have H1:=hD h1;have H2:=hD h2;clear h1 h2 hv1 hv2;generalize hQ1:q1.length=n at *;generalize hQ2:q2.length=m at *;have HQ1:=hD hQ1;have HQ2:=hD hQ2;clear hQ1 hQ2;by_cases hnm:n=m
 ·subst hnm;go_enter Tryz.func46,Tryz.ntmps46;exact ZbM
 ·have hd:((n:Int) != (m:Int))=true:=by simp;omega
  have HN:Hid (q1≠q2):=hD (ne_len (by rw[HQ1.out,HQ2.out];exact hnm));go_enter Tryz.func46,Tryz.ntmps46;exact Zcd
theorem bsame_is (K:Nat→Prop) (w:World) (v1 v2:Value) (q1 q2:List Int) (h1:Wh K w v1 q1) (h2:Wh K w v2 q2):Calls Tryz.prog 26 #[v1,v2] w (Wj (decide (q1=q2)) w):=by
 obtain⟨A1,c1,hv1,hm1,_⟩:=h1.form;obtain⟨A2,c2,hv2,_,_⟩:=h2.form;unfold maxLen at hm1;rw[hv1]at h1 ⊢;rw[hv2]at h2 ⊢;have H1:=hD h1;have H2:=hD h2;clear h1 h2 hv1 hv2;generalize hQ1:q1.length=n at *;generalize hQ2:q2.length=m at *;have HQ1:=hD hQ1;have HQ2:=hD hQ2;clear hQ1 hQ2;by_cases hnm:n=m
 ·subst hnm;go_enter Tryz.func26,Tryz.ntmps26;exact ZbM
 ·have hd:((n:Int) != (m:Int))=true:=by simp;omega
  have HN:Hid (q1≠q2):=hD (ne_len (by rw[HQ1.out,HQ2.out];exact hnm));go_enter Tryz.func26,Tryz.ntmps26;exact Zcd
theorem equal_is (K:Nat→Prop) (w:World) (v1 v2:Value) (q1 q2:List Int) (h1:Wh K w v1 q1) (h2:Wh K w v2 q2):Calls Tryz.prog 87 #[v1,v2] w (Wj (decide (q1=q2)) w):=by
 obtain⟨A1,c1,hv1,hm1,_⟩:=h1.form;obtain⟨A2,c2,hv2,_,_⟩:=h2.form;unfold maxLen at hm1;rw[hv1]at h1 ⊢;rw[hv2]at h2 ⊢;have H1:=hD h1;have H2:=hD h2;clear h1 h2 hv1 hv2;generalize hQ1:q1.length=n at *;generalize hQ2:q2.length=m at *;have HQ1:=hD hQ1;have HQ2:=hD hQ2;clear hQ1 hQ2;by_cases hnm:n=m
 ·subst hnm;go_enter Tryz.func87,Tryz.ntmps87;go_wp2_with fail
  go_loopw [13] (fun i wr=>∃ k a:Nat,k≤n∧i=.int .i64 (k:Int)∧wr=w.drewN a∧Hid (EqTo q1 q2 0 k)) (fun i _=>n - (intOf i).toNat)
  case atStart=>exact⟨0,0,nZ _,rfl,rfl,hD (EqTo.zero _ _ _)⟩
  case round =>
   exact Zq
 ·have hd:((n:Int) != (m:Int))=true:=by simp;omega
  have HN:Hid (q1≠q2):=hD (ne_len (by rw[HQ1.out,HQ2.out];exact hnm));go_enter Tryz.func87,Tryz.ntmps87;exact Zcd
theorem rtypes_is (w:World) (p1 r1 p2 r2:Value) (a1 b1 a2 b2:List Int) (hp1:Wh (fun k=>k<w.heap.size) w p1 a1) (hr1:Wh (fun k=>k<w.heap.size) w r1 b1) (hp2:Wh (fun k=>k<w.heap.size) w p2 a2) (hr2:Wh (fun k=>k<w.heap.size) w r2 b2) :
 Calls Tryz.prog 25 #[.agg #[p1,r1],.agg #[p2,r2]] w (Wj (decide (a1=a2∧b1=b2)) w):=by
 have HA:=hD (fun wz (hb:Below w.heap.size w wz)=>rints_is (fun k=>k<wz.heap.size) wz p1 p2 a1 a2 (hp1.keep (We.below hb fun _ hk=>hk) fun _ hk=>WK hk hb.size) (hp2.keep (We.below hb fun _ hk=>hk) fun _ hk=>WK hk hb.size));have HB:=hD (fun wz (hb:Below w.heap.size w wz)=>rints_is (fun k=>k<wz.heap.size) wz r1 r2 b1 b2 (hr1.keep (We.below hb fun _ hk=>hk) fun _ hk=>WK hk hb.size) (hr2.keep (We.below hb fun _ hk=>hk) fun _ hk=>WK hk hb.size));obtain⟨P1,cp1,hp1v,_,_⟩:=hp1.form;obtain⟨R1,cr1,hr1v,_,_⟩:=hr1.form;obtain⟨P2,cp2,hp2v,_,_⟩:=hp2.form;obtain⟨R2,cr2,hr2v,_,_⟩:=hr2.form;rw[hp1v,hp2v]at HA;rw[hr1v,hr2v]at HB;rw[hp1v,hr1v,hp2v,hr2v];clear hp1 hr1 hp2 hr2 hp1v hr1v hp2v hr2v;generalize hx:decide (a1=a2)=x at HA;generalize hy:decide (b1=b2)=y at HB;have hxy:decide (a1=a2∧b1=b2)=(x && y):=by rw[← hx,← hy];exact Bool.decide_and _ _
 rw[hxy];clear hx hy hxy;generalize a1.length=l1 at *;generalize b1.length=l2 at *;generalize a2.length=l3 at *;generalize b2.length=l4 at *;have hb0:=((bR w.heap.size w).alloc (nR _) (.cells #[.slice P1 l1 cp1,.slice R1 l2 cr1] 68)).alloc (by simp) (.cells #[.slice P2 l3 cp2,.slice R2 l4 cr2] 68);have HA0:=hD (HA.out _ hb0);have HB0:=hD hb0;have HC:Hid (∀ wz,Below ((w.alloc (.cells #[.slice P1 l1 cp1,.slice R1 l2 cr1] 68)).alloc (.cells #[.slice P2 l3 cp2,.slice R2 l4 cr2] 68)).heap.size ((w.alloc (.cells #[.slice P1 l1 cp1,.slice R1 l2 cr1] 68)).alloc (.cells #[.slice P2 l3 cp2,.slice R2 l4 cr2] 68)) wz→wz.cell? ⟨w.heap.size,1,none⟩=some (.slice R1 l2 cr1)∧wz.cell? ⟨w.heap.size+1,1,none⟩=some (.slice R2 l4 cr2)):=hD fun wz hb =>
  ⟨(hb.cell (p:=⟨w.heap.size,1,none⟩) (by simp;omega)).trans (by rw[World.cell?_alloc_lt _ _ _ (by simp),wN];rfl),(hb.cell (p:=⟨w.heap.size+1,1,none⟩) (by simp)).trans (by have h:=wN (w.alloc (.cells #[.slice P1 l1 cp1,.slice R1 l2 cr1] 68)) #[.slice P2 l3 cp2,.slice R2 l4 cr2] 68 1;rw[show(w.alloc (.cells #[.slice P1 l1 cp1,.slice R1 l2 cr1] 68)).heap.size=w.heap.size+1 by simp]at h;exact h)⟩
 clear hb0 HA;go_enter Tryz.func25,Tryz.ntmps25;go_wp2_with fail
 go_at_call 46;refine HA0.out.mono ?_;rintro e w1 ⟨rfl,hb1⟩;obtain⟨k1,k2⟩:=HC.out w1 hb1;have HB1:=hD (Wa HB0.out hb1);clear hb1 HA0 HC HB0;cases x with
 | true =>
  have HQ:=hD (HB.out w1 HB1.out);go_wp2_with (go_at_call 46;refine HQ.out.mono ?_;rintro e w2 ⟨rfl,hb2⟩)
  go_ret;exact⟨WA (by simp),Wa HB1.out hb2⟩
 | false =>
  go_wp2;go_ret;exact⟨WA (by simp),HB1.out⟩
end
section
open Go.RowKit
set_option maxHeartbeats 2000000
set_option maxRecDepth 100000
theorem ZbJ {P:Prop}(h:P:=by
 clear ht hs hnt hk0;go_enter Tryz.func66,Tryz.ntmps66;go_wp2;exact bodyPost_ret (v:=.tuple #[.agg #[.slice none 0 0,.slice none 0 0],.bool false]) (by simp[results,Tryz.results66,go_sem]) rfl ⟨_,_,rfl,Wh.nil _ _,Wh.nil _ _,((bR _ _).alloc (nR _) _).alloc (by simp) _⟩):P:=h
theorem eql_nil_in (w:World) (d:Nat) (t e:TypeId) (a:Option Addr) (n c:Nat) (h:Tryz.prog.underlying t=some (.slice e)):(Op.equalIn (d+1) t (.slice a n c) (.slice none 0 0)).run Tryz.prog w=.ok a.isNone w:=by
 cases a <;> simp[Op.equalIn,run_underlying h]
theorem WG (w:World) (t e:TypeId) (a:Option Addr) (n c:Nat) (h:Tryz.prog.underlying t=some (.slice e)):(Op.equal t (.slice a n c) (.slice none 0 0)).run Tryz.prog w=.ok a.isNone w:=eql_nil_in w 9999 t e a n c h
theorem eql_nil (w:World) (a:Option Addr) (n c:Nat):(binOp .eql 22 (.slice a n c) (.slice none 0 0)).run Tryz.prog w=.ok (.bool a.isNone) w:=by
 simp[binOp,WG w 22 3 a n c Tryz.underlying22]
theorem Wk {w0 w:World} {v:Value} {m:Nat} {us:List Value} (h:Vm w0 v m us) (hb:Below w0.heap.size w0 w):Vm w v m us:=by
 refine h.keep fun a c _ j u _ hc=>?_;exact(hb.cell (p:=a.add j) (wL _ _ hc)).trans hc
theorem clone_any (K:Nat→Prop) (w:World) (v:Value) (l:List Int) (h:Wh K w v l) (hl:l.length≤100000):Calls Tryz.prog 110 #[v] w (LocPost l w):=by
 have HN:=hD h.news;obtain⟨A,c,rfl,hm,hnil,hsome⟩:=h;rcases A with _|a
 ·obtain rfl:=hnil rfl;have h0:l=[]:=by
   rcases Nat.eq_zero_or_pos l.length with h0|h0
   ·exact List.eq_nil_of_length_eq_zero h0
   ·obtain⟨_,_,h,_⟩:=hsome h0;cases h
  subst h0;clear hm hnil hsome;have hq:=eql_nil w none 0 0;simp only[List.length_nil]at *;go_enter Tryz.func110,Tryz.ntmps110;go_wp2;go_ret;exact⟨_,rfl,Wh.nil _ _,bR _ _⟩
 ·clear hnil hsome hm;obtain⟨n,hn⟩:∃ n,l.length=n:=⟨_,rfl⟩;rw[hn]at HN hl ⊢;have HL:=hD hn;clear hn;have hq:=eql_nil w (some a) n c;go_enter Tryz.func110,Tryz.ntmps110;go_wp2_with (at_builtin;refine Wm rfl (.tmp 5) (.tmp 6) 22 3 rfl _ 1 8 Tryz.underlying22 Tryz.infoInt rfl (by decide) (by decide) (.slice (some ⟨w.heap.size,0,none⟩) 0 0) 0 [] (by rfl) (Uk w _) _ n (l.map (Value.int .i64)) (by rfl) (by rw[List.length_map,HL.out,Nat.mul_one]) (Wk HN.out (Wg (bR _ _) _)) (WV _) (by omega) ?_;intro v1 w1 ho1 hg1 hat1;simp only[Nat.zero_add,List.nil_append]at ho1;obtain⟨B1,d1,rfl⟩:=Wd ho1)
  have hk:=UF hg1;have HO:=hD (owns_new (w:=w) (l:=l) ho1 HL.out.symm rfl (by rw[HL.out];omega) (fun g hg=>by
   rcases hat1 with h1|h1
   ·have:=h1.symm.trans hg;simp only[Value.ownBlock,Option.some.injEq]at this;omega
   ·have:=h1.symm.trans hg;simp only[Option.some.injEq]at this;rw[← this];simp))
  have HB:=hD (hk.to_below fun _ h=>h);clear ho1 hg1 hat1 hk;go_ret;exact⟨_,rfl,HO.out,HB.out⟩
def VY (B:Nat) (w:World):Prop:=w.heap[B]?=some (.cells #[.slice none 0 0,.slice none 0 0] 68 (0,0))
theorem VY.all {B:Nat} {w:World} (h:VY B w):w.cell? ⟨B,0,none⟩=some (.slice none 0 0)∧w.cell? ⟨B,1,none⟩=some (.slice none 0 0)∧w.frozen? ⟨B,0,none⟩=false∧w.frozen? ⟨B,1,none⟩=false:=by
 unfold VY at h;simp[World.cell?,World.frozen?,h]
theorem VY.fill {B:Nat} {w:World} (h:VY B w) (a b:Value):((w.setCell ⟨B,0,none⟩ a).setCell ⟨B,1,none⟩ b).heap[B]?=some (.cells #[a,b] 68 (0,0)):=by
 have h0:=Wi w B 0 _ _ a h;have h1:=Wi _ B 1 _ _ b h0;simpa using h1
theorem VY.below {B:Nat} {w w':World} (h:VY B w) (hB:B<w.heap.size) (hb:Below w.heap.size w w'):VY B w':=(hb.block B hB).trans h
theorem VY.new (w:World):VY w.heap.size (w.alloc (.cells #[.slice none 0 0,.slice none 0 0] 68)):=by
 unfold VY;simp[World.alloc,-World.alloc_eq]
theorem below_fill2 {w0 w:World} {B:Nat} {a b:Value} (h:Below w0.heap.size w0 w) (hB:w0.heap.size≤B):Below w0.heap.size w0 ((w.setCell ⟨B,0,none⟩ a).setCell ⟨B,1,none⟩ b):=(h.setCell (by exact hB) _).setCell (by exact hB) _
theorem ints_fill2 {K K':Nat→Prop} {w:World} {B:Nat} {a b v:Value} {l:List Int} (h:Wh K w v l) (hB:¬ K B) (hm:∀ k,K k→K' k):Wh K' ((w.setCell ⟨B,0,none⟩ a).setCell ⟨B,1,none⟩ b) v l :=
 h.keep ((We.setCell w (by exact hB) a).trans (We.setCell _ (by exact hB) b)) hm
theorem far2 {w:World} {g B i:Nat} {a b u:Value} (h:w.cell? ⟨g,i,none⟩=some u) (hne:g≠B):((w.setCell ⟨B,0,none⟩ a).setCell ⟨B,1,none⟩ b).cell? ⟨g,i,none⟩=some u :=
 (((We.setCell (K:=fun k=>k≠B) w (fun h=>h rfl) a).trans (We.setCell (K:=fun k=>k≠B) _ (fun h=>h rfl) b)).cell (p:=⟨g,i,none⟩) hne).trans h
def CopPost (t:List Int×List Int) (w:World) (e:Ending) (w':World):Prop :=
 ∃ p r:Value,e=.returned (.agg #[p,r])∧Wh (fun k=>w.heap.size≤k∧k<w'.heap.size) w' p t.1∧Wh (fun k=>w.heap.size≤k∧k<w'.heap.size) w' r t.2∧Below w.heap.size w w'
theorem copyType_any (K:Nat→Prop) (w:World) (hK:∀ k,K k→k<w.heap.size) (p r:Value) (t:List Int×List Int) (h1:Wh K w p t.1) (h2:Wh K w r t.2) (hl:t.1.length≤100000∧t.2.length≤100000) :
 Calls Tryz.prog 76 #[.agg #[p,r]] w (CopPost t w):=by
 have HC1:=hD (fun wz (hb:Below w.heap.size w wz)=>clone_any (fun k=>k<wz.heap.size) wz p t.1 (h1.keep (We.below hb hK) fun k hk=>WK (hK k hk) hb.size) hl.1);have HC2:=hD (fun wz (hb:Below w.heap.size w wz)=>clone_any (fun k=>k<wz.heap.size) wz r t.2 (h2.keep (We.below hb hK) fun k hk=>WK (hK k hk) hb.size) hl.2);obtain⟨A1,c1,hv1,_,_⟩:=h1.form;obtain⟨A2,c2,hv2,_,_⟩:=h2.form;rw[hv1]at HC1;rw[hv2]at HC2;rw[hv1,hv2];clear h1 h2 hv1 hv2 hl;generalize t.1.length=n1 at *;generalize t.2.length=n2 at *;obtain⟨W,hW⟩:∃ W,W=(w.alloc (.cells #[.slice A1 n1 c1,.slice A2 n2 c2] 68)).alloc (.cells #[.slice none 0 0,.slice none 0 0] 68):=⟨_,rfl⟩;have hs:W.heap.size=w.heap.size+2:=by rw[hW];simp
 have hbw:Below w.heap.size w W:=by rw[hW];exact((bR w.heap.size w).alloc (nR _) _).alloc (by simp) _
 have hz:VY (w.heap.size+1) W:=by
  have h:=VY.new (w.alloc (.cells #[.slice A1 n1 c1,.slice A2 n2 c2] 68));rw[show(w.alloc (.cells #[.slice A1 n1 c1,.slice A2 n2 c2] 68)).heap.size=w.heap.size+1 by simp]at h;rw[hW];exact h
 have hk0:W.cell? ⟨w.heap.size,0,none⟩=some (.slice A1 n1 c1):=by rw[hW,World.cell?_alloc_lt _ _ _ (by simp),wN];rfl
 have hk1:W.cell? ⟨w.heap.size,1,none⟩=some (.slice A2 n2 c2):=by rw[hW,World.cell?_alloc_lt _ _ _ (by simp),wN];rfl
 have hbd:Below w.heap.size w W.drew:=hbw.drew;have HF:Hid (∀ wz,Below W.drew.heap.size W.drew wz→wz.cell? ⟨w.heap.size,0,none⟩=some (.slice A1 n1 c1)∧wz.cell? ⟨w.heap.size,1,none⟩=some (.slice A2 n2 c2)∧VY (w.heap.size+1) wz):=hD fun wz hb =>
  ⟨(hb.cell (p:=⟨w.heap.size,0,none⟩) (by show w.heap.size<W.heap.size;omega)).trans hk0,(hb.cell (p:=⟨w.heap.size,1,none⟩) (by show w.heap.size<W.heap.size;omega)).trans hk1,VY.below (w:=W.drew) hz (by show w.heap.size+1<W.heap.size;omega) hb⟩
 have HBD:=hD hbd;have HS:=hD hs;have HQ1:=hD (HC1.out _ hbd);clear hbd hbw hz hs HC1;go_enter Tryz.func76,Tryz.ntmps76
 go_upto_region 1 with (fail)
 rw[← hW];clear hW;have hBne:w.heap.size≠w.heap.size+1:=by omega
 have HBne:=hD hBne;have HBlt:Hid (w.heap.size+1<W.heap.size):=hD (by have:=HS.out;omega);have HBge:Hid (w.heap.size≤w.heap.size+1):=hD (by omega);clear hBne;generalize w.heap.size+1=B at *
 go_region_held3 (fun w'=>w'.cell? ⟨w.heap.size,0,none⟩=some (.slice A1 n1 c1)∧w'.cell? ⟨w.heap.size,1,none⟩=some (.slice A2 n2 c2))
  (first|go_keep|exact⟨far2 (HF.out _ hb2).1 HBne.out,far2 (HF.out _ hb2).2.1 HBne.out⟩|exact⟨(HF.out _ hb1).1,(HF.out _ hb1).2.1⟩|exact⟨(HF.out _ hb2).1,(HF.out _ hb2).2.1⟩)
  (first
  | (go_at_call 110;(with_reducible refine HQ1.out.mono ?_);rintro e w1 ⟨v1,rfl,hi1,hb1⟩;obtain⟨B1,d1,hq1,_,_⟩:=hi1.form;rw[hq1]at hi1 ⊢)
  | (go_at_call 110;(with_reducible refine(HC2.out _ (Wa HBD.out hb1)).mono ?_);rintro e w2 ⟨v2,rfl,hi2,hb2'⟩;obtain⟨B2,d2,hq2,_,_⟩:=hi2.form;rw[hq2]at hi2 ⊢;have hb2:=Wa hb1 hb2';obtain⟨z0,z1,f0,f1⟩:=(HF.out _ hb2).2.2.all))
 all_goals
  have hfl:=(HF.out _ hb2).2.2.fill (.slice B1 t.1.length d1) (.slice B2 t.2.length d2);have HFL:=hD hfl;have hlt:=HBlt.out;have hs:=HS.out;have hsz:W.drew.heap.size=W.heap.size:=rfl;have hfin:CopPost t w (.returned (.agg #[.slice B1 t.1.length d1,.slice B2 t.2.length d2])) ((w2.setCell ⟨B,0,none⟩ (.slice B1 t.1.length d1)).setCell ⟨B,1,none⟩ (.slice B2 t.2.length d2)):=by
   have hw:((w2.setCell ⟨B,0,none⟩ (.slice B1 t.1.length d1)).setCell ⟨B,1,none⟩ (.slice B2 t.2.length d2)).heap.size=w2.heap.size:=by simp[World.setCell]
   have h12:=hb2'.size;have h01:=hb1.size;refine⟨_,_,rfl,ints_fill2 (hi1.keep (We.below hb2' fun _ hk=>hk.2) fun k hk=>hk) (fun hk=>by have:=hk.1;omega) (fun k hk=>?_),ints_fill2 hi2 (fun hk=>by have:=hk.1;omega) (fun k hk=>?_),below_fill2 (Wa HBD.out hb2) HBge.out⟩
   ·have h1:=hk.1;have h2:=hk.2;exact⟨by omega,by rw[hw];omega⟩
   ·have h1:=hk.1;have h2:=hk.2;exact⟨by omega,by rw[hw];omega⟩
  have HFIN:=hD hfin;clear hfin hfl hb1 hb2 hb2' hi1 hi2 z0 z1 f0 f1 hk0 hk1 hlt hs hsz;go_wp2;have hfl:=HFL.out;exact bodyPost_ret (v:=.agg #[.slice B1 t.1.length d1,.slice B2 t.2.length d2]) (by simp[results,Tryz.results76,go_sem,World.cell?,hfl]) rfl HFIN.out
theorem typeB_none {m:Vz} {k:Int} (h:k<0∨(m.types.length:Int)≤k):UM m k=none:=by
 unfold UM;rw[if_neg (by omega)]
theorem typeB_some {m:Vz} {k:Nat} (h:k<m.types.length):UM m (k:Int)=some (m.types.getD k ([],[])):=by
 unfold UM;rw[if_pos (by omega),Int.toNat_natCast]
def Short (m:Vz):Prop:=m.types.length≤100000∧m.imps.length≤100000∧m.funs.length≤100000∧(∀ t ∈ m.types,t.1.length≤100000∧t.2.length≤100000)∧∀ f ∈ m.funs,f.loc.length≤100000
theorem getD_mem' {α:Type} (l:List α) (j:Nat) (d:α) (h:j<l.length):l.getD j d ∈ l:=by
 rw[List.getD_eq_getElem?_getD,List.getElem?_eq_getElem h];exact List.getElem_mem h
theorem Ub {K:Nat→Prop} {w:World} {v:Value} {n size:Nat} {f:Nat→Nat→Value→Prop} (h:Wb K w v n size f):∃ A k c,v=.slice A k c:=by
 obtain⟨A,c,h1,_⟩:=h;exact⟨A,n,c,h1⟩
theorem typeAt_any (w:World) (v:Mv) (m:Vz) (h:WL (fun k=>k<w.heap.size) w v m) (hs:Short m) (k:Int) :
 Calls Tryz.prog 66 #[.agg v.cells,.int .i64 k] w (UN (fun _=>False) (UM m k) w):=by
 have ht:=h.types;have hl:=hs.1;obtain⟨A0,c0,hv0,_,_⟩:=Wb.form ht;obtain⟨A1,n1,c1,hv1⟩:=Ub h.imps;obtain⟨A2,n2,c2,hv2⟩:=Ub h.funs;obtain⟨A3,n3,c3,hv3⟩:=Ub h.mems;obtain⟨A4,n4,c4,hv4⟩:=Ub h.globs;obtain⟨A5,n5,c5,hv5⟩:=Ub h.exps;obtain⟨A6,n6,c6,hv6⟩:=Ub h.datas;obtain⟨A7,n7,c7,hv7⟩:=Ub h.cus;obtain⟨m0,m1,m2,m3,m4,m5,m6,m7⟩:=v;simp only at ht hv0 hv1 hv2 hv3 hv4 hv5 hv6 hv7;subst hv0 hv1 hv2 hv3 hv4 hv5 hv6 hv7;simp only[Mv.cells];clear h;have HSH:=hD hs.2.2.2.1;obtain⟨nt,hnt⟩:∃ n,m.types.length=n:=⟨_,rfl⟩;have HNT:=hD hnt;rcases(show k<0∨(m.types.length:Int)≤k∨(0≤k∧k<m.types.length) by omega) with hk0|hk0|hk0
 ·rw[typeB_none (.inl hk0)];rw[hnt]at ht ⊢;have d0:decide (k<0)=true:=by simp;omega
  exact ZbJ
 ·rw[typeB_none (.inr hk0)];rw[hnt]at ht hk0 ⊢;have d0:decide (k<0)=false:=by simp;omega
  have d1:decide ((nt:Int)≤k)=true:=by simp;omega
  exact ZbJ
 ·obtain⟨k,rfl⟩:∃ j:Nat,k=(j:Int):=⟨k.toNat,by omega⟩;rw[typeB_some (by omega)];have hkn:k<m.types.length:=by omega
  obtain⟨g0,o0,cc0,he,_,_⟩:=Wb.some_ ht (by omega);simp only[vI]at he;obtain⟨rfl,-,rfl⟩:=he;obtain⟨p,r,hp,hr,hip,hir⟩:=Vn.at_ ht k hkn;have hsh:=hs.2.2.2.1 _ (getD_mem' m.types k ([],[]) hkn);generalize m.types.getD k ([],[])=t at hip hir hsh ⊢;obtain⟨Ap,cp,rfl,_,_⟩:=hip.form;obtain⟨Ar,cr,rfl,_,_⟩:=hir.form;have kp:=V2 hp;have kr:=V2 hr;have HCT:=hD (fun wz (hb:Below w.heap.size w wz)=>copyType_any (fun k=>k<wz.heap.size) wz (fun _ h=>h) _ _ t (hip.keep (We.below hb fun _ hk=>hk) fun _ hk=>WK hk hb.size) (hir.keep (We.below hb fun _ hk=>hk) fun _ hk=>WK hk hb.size) hsh);rw[hnt]at hkn ⊢;have d0:decide ((k:Int)<0)=false:=by simp
  have d1:decide ((nt:Int)≤(k:Int))=false:=by simp;omega
  generalize t.1.length=np at *;generalize t.2.length=nr at *;have hb0:=((bR w.heap.size w).alloc (nR _) (.cells #[.slice (some ⟨g0,o0,none⟩) nt c0,.slice A1 n1 c1,.slice A2 n2 c2,.slice A3 n3 c3,.slice A4 n4 c4,.slice A5 n5 c5,.slice A6 n6 c6,.slice A7 n7 c7] 36)).alloc (by simp) (.cells #[.slice none 0 0,.slice none 0 0] 68);have HC0:=hD (HCT.out _ hb0);have HB0:=hD hb0;have hz:=VY.new (w.alloc (.cells #[.slice (some ⟨g0,o0,none⟩) nt c0,.slice A1 n1 c1,.slice A2 n2 c2,.slice A3 n3 c3,.slice A4 n4 c4,.slice A5 n5 c5,.slice A6 n6 c6,.slice A7 n7 c7] 36));rw[show(w.alloc (.cells #[.slice (some ⟨g0,o0,none⟩) nt c0,.slice A1 n1 c1,.slice A2 n2 c2,.slice A3 n3 c3,.slice A4 n4 c4,.slice A5 n5 c5,.slice A6 n6 c6,.slice A7 n7 c7] 36)).heap.size=w.heap.size+1 by simp]at hz;have HZ:=hD hz;clear ht hs hnt hk0 hip hir hsh HCT hb0 hz hp hr;go_enter Tryz.func66,Tryz.ntmps66;go_wp2_with fail
  go_at_call 76;refine HC0.out.mono ?_;rintro e w1 ⟨p',r',rfl,hi1,hi2,hb1⟩;obtain⟨B1,e1,hq1,_,_⟩:=hi1.form;obtain⟨B2,e2,hq2,_,_⟩:=hi2.form;rw[hq1]at hi1 ⊢;rw[hq2]at hi2 ⊢;have hz1:=HZ.out.below (by simp) hb1;have HFL:=hD (hz1.fill (.slice B1 t.1.length e1) (.slice B2 t.2.length e2));obtain⟨z0,z1,f0,f1⟩:=hz1.all;have hs2:((w.alloc (.cells #[.slice (some ⟨g0,o0,none⟩) nt c0,.slice A1 n1 c1,.slice A2 n2 c2,.slice A3 n3 c3,.slice A4 n4 c4,.slice A5 n5 c5,.slice A6 n6 c6,.slice A7 n7 c7] 36)).alloc (.cells #[.slice none 0 0,.slice none 0 0] 68)).heap.size=w.heap.size+2:=by simp
  rw[hs2]at hi1 hi2;have hfin:UN (fun _=>False) (some t) w (.returned (.tuple #[.agg #[.slice B1 t.1.length e1,.slice B2 t.2.length e2],.bool true])) ((w1.setCell ⟨w.heap.size+1,0,none⟩ (.slice B1 t.1.length e1)).setCell ⟨w.heap.size+1,1,none⟩ (.slice B2 t.2.length e2)):=by
   have hw:((w1.setCell ⟨w.heap.size+1,0,none⟩ (.slice B1 t.1.length e1)).setCell ⟨w.heap.size+1,1,none⟩ (.slice B2 t.2.length e2)).heap.size=w1.heap.size:=by simp[World.setCell]
   exact⟨_,_,rfl,ints_fill2 hi1 (fun hk=>by have:=hk.1;omega) (fun k hk=>.inr ⟨by have:=hk.1;omega,by rw[hw];exact hk.2⟩),ints_fill2 hi2 (fun hk=>by have:=hk.1;omega) (fun k hk=>.inr ⟨by have:=hk.1;omega,by rw[hw];exact hk.2⟩),below_fill2 (Wa HB0.out hb1) (by omega)⟩
  have HFIN:=hD hfin;clear hfin hb1 hi1 hi2 hz1 hs2 hq1 hq2;go_wp2;have hfl:=HFL.out;exact bodyPost_ret (v:=.tuple #[.agg #[.slice B1 t.1.length e1,.slice B2 t.2.length e2],.bool true]) (by simp[results,Tryz.results66,go_sem,World.cell?,hfl]) rfl HFIN.out
end
section
open Go.RowKit
set_option maxHeartbeats 4000000
set_option maxRecDepth 100000
theorem ZT {P:Prop}(h:P:=by
 clear HTA HBB;go_enter Tryz.func22,Tryz.ntmps22;go_wp2;exact bodyPost_ret (v:=.tuple #[.agg #[.slice none 0 0,.slice (some ⟨w.heap.size+2,0,none⟩) 1 1],.bool true]) (by simp[results,Tryz.results22,go_sem]) rfl ⟨_,_,rfl,Wh.nil _ _,⟨_,_,rfl,by unfold maxLen;simp,(fun h=>by cases h),fun _=>⟨w.heap.size+2,0,rfl,.inr ⟨by omega,by simp⟩,fun j hj=>by
  obtain rfl:j=0:=by simp at hj;omega
  exact cell_third' w _ _ _ _ 0⟩⟩,(((bR _ _).alloc (nR _) _).alloc (by simp) _).alloc (by simp;omega) _⟩):P:=h
theorem Zbb {P:Prop}(h:P:=by
 have HFL:=hD ((HF.out _ hb1).2.2.fill (.slice P1 (t.getD ([],[])).1.length e1) (.slice P2 (t.getD ([],[])).2.length e2));have HFIN:=hD (typ_fill (w:=w) (W:=W.drew) (B:=w.heap.size+1) HBW.out (Nat.le_succ _) (by have:=HSZ.out;show w.heap.size+1<W.heap.size;omega) hi1 hi2 hb1);clear hb1 hi1 hi2 hq1 hq2 z0 z1 f0 f1;go_wp2;have hfl:=HFL.out;exact bodyPost_ret (v:=.tuple #[.agg #[.slice P1 (t.getD ([],[])).1.length e1,.slice P2 (t.getD ([],[])).2.length e2],.bool t.isSome]) (by simp[results,Tryz.results24,go_sem,World.cell?,hfl]) rfl HFIN.out):P:=h
theorem Zbp {P:Prop}(h:P:=by
 exact⟨fun a b=>⟨(hx.far hne a b).1,(hx.far hne a b).2.1,(hx.far hne a b).2.2.1,(hx.far hne a b).2.2.2.1,(hx.far hne a b).2.2.2.2.1,(hx.far hne a b).2.2.2.2.2.1,(hx.far hne a b).2.2.2.2.2.2.1,(hx.far hne a b).2.2.2.2.2.2.2,far2 hcy hcn⟩,⟨hx.1,hx.2.1,hx.2.2.1,hx.2.2.2.1,hx.2.2.2.2.1,hx.2.2.2.2.2.1,hx.2.2.2.2.2.2.1,hx.2.2.2.2.2.2.2,hcy⟩,VY.below (w:=W.drew) hz (by show w.heap.size+1<W.heap.size;omega) hb⟩):P:=h
theorem ZbG {P:Prop}(h:P:=by
 clear h1 h2 hn1 hn2 hf hf0 HTA;go_enter Tryz.func24,Tryz.ntmps24;go_wp2;exact bodyPost_ret (v:=.tuple #[.agg #[.slice none 0 0,.slice none 0 0],.bool false]) (by simp[results,Tryz.results24,go_sem]) rfl ⟨_,_,rfl,Wh.nil _ _,Wh.nil _ _,((bR _ _).alloc (nR _) _).alloc (by simp) _⟩):P:=h
theorem WI {K:Nat→Prop} {w:World} {v:Mv} {m:Vz} (h:WL K w v m):∃ A0 c0 A1 c1 A2 c2 A3 c3 A4 c4 A5 c5 A6 c6 A7 c7,v=⟨.slice A0 m.types.length c0,.slice A1 m.imps.length c1,.slice A2 m.funs.length c2,.slice A3 m.mems.length c3,.slice A4 m.globs.length c4,.slice A5 m.exps.length c5,.slice A6 m.datas.length c6,.slice A7 m.cus.length c7⟩:=by
 obtain⟨v0,v1,v2,v3,v4,v5,v6,v7⟩:=v;obtain⟨A0,c0,h0,_⟩:=h.types;obtain⟨A1,c1,h1,_⟩:=h.imps;obtain⟨A2,c2,h2,_⟩:=h.funs;obtain⟨A3,c3,h3,_⟩:=h.mems;obtain⟨A4,c4,h4,_⟩:=h.globs;obtain⟨A5,c5,h5,_⟩:=h.exps;obtain⟨A6,c6,h6,_⟩:=h.datas;obtain⟨A7,c7,h7,_⟩:=h.cus;simp only at h0 h1 h2 h3 h4 h5 h6 h7;subst h0 h1 h2 h3 h4 h5 h6 h7;exact⟨A0,c0,A1,c1,A2,c2,A3,c3,A4,c4,A5,c5,A6,c6,A7,c7,rfl⟩
def Box8 (w':World) (B:Nat) (v0 v1 v2 v3 v4 v5 v6 v7:Value):Prop:=w'.cell? ⟨B,0,none⟩=some v0∧w'.cell? ⟨B,1,none⟩=some v1∧w'.cell? ⟨B,2,none⟩=some v2∧w'.cell? ⟨B,3,none⟩=some v3∧w'.cell? ⟨B,4,none⟩=some v4∧w'.cell? ⟨B,5,none⟩=some v5∧w'.cell? ⟨B,6,none⟩=some v6∧w'.cell? ⟨B,7,none⟩=some v7
theorem Vb (w:World) (v0 v1 v2 v3 v4 v5 v6 v7:Value) {wz:World} (hb:Below (w.alloc (.cells #[v0,v1,v2,v3,v4,v5,v6,v7] 36)).heap.size (w.alloc (.cells #[v0,v1,v2,v3,v4,v5,v6,v7] 36)) wz):Box8 wz w.heap.size v0 v1 v2 v3 v4 v5 v6 v7:=by
 have h:∀ i,wz.cell? ⟨w.heap.size,i,none⟩=(#[v0,v1,v2,v3,v4,v5,v6,v7]:Array Value)[i]?:=fun i=>(hb.cell (p:=⟨w.heap.size,i,none⟩) (by simp)).trans (wN w _ _ i);exact⟨h 0,h 1,h 2,h 3,h 4,h 5,h 6,h 7⟩
theorem Box8.far {w':World} {B C:Nat} {v0 v1 v2 v3 v4 v5 v6 v7:Value} (h:Box8 w' B v0 v1 v2 v3 v4 v5 v6 v7) (hne:B≠C) (a b:Value):Box8 ((w'.setCell ⟨C,0,none⟩ a).setCell ⟨C,1,none⟩ b) B v0 v1 v2 v3 v4 v5 v6 v7 :=
 ⟨far2 h.1 hne,far2 h.2.1 hne,far2 h.2.2.1 hne,far2 h.2.2.2.1 hne,far2 h.2.2.2.2.1 hne,far2 h.2.2.2.2.2.1 hne,far2 h.2.2.2.2.2.2.1 hne,far2 h.2.2.2.2.2.2.2 hne⟩
theorem typ_fill {w W w1:World} {B:Nat} {t:Option (List Int×List Int)} {A1 A2:Option Addr} {n1 n2 e1 e2:Nat} (hW:Below w.heap.size w W) (hB:w.heap.size≤B) (hB2:B<W.heap.size) (hi1:Wh (fun k=>False∨(W.heap.size≤k∧k<w1.heap.size)) w1 (.slice A1 n1 e1) (t.getD ([],[])).1) (hi2:Wh (fun k=>False∨(W.heap.size≤k∧k<w1.heap.size)) w1 (.slice A2 n2 e2) (t.getD ([],[])).2) (hb1:Below W.heap.size W w1) :
 UN (fun _=>False) t w (.returned (.tuple #[.agg #[.slice A1 n1 e1,.slice A2 n2 e2],.bool t.isSome])) ((w1.setCell ⟨B,0,none⟩ (.slice A1 n1 e1)).setCell ⟨B,1,none⟩ (.slice A2 n2 e2)):=by
 have hw:((w1.setCell ⟨B,0,none⟩ (.slice A1 n1 e1)).setCell ⟨B,1,none⟩ (.slice A2 n2 e2)).heap.size=w1.heap.size:=by simp[World.setCell]
 have hws:=hW.size;refine⟨_,_,rfl,ints_fill2 hi1 (fun hk=>?_) (fun k hk=>.inr ?_),ints_fill2 hi2 (fun hk=>?_) (fun k hk=>.inr ?_),below_fill2 (Wa hW hb1) hB⟩
 ·rcases hk with h|h
  ·exact h
  ·omega
 ·rcases hk with h|h
  ·exact h.elim
  ·exact⟨by omega,by rw[hw];exact h.2⟩
 ·rcases hk with h|h
  ·exact h
  ·omega
 ·rcases hk with h|h
  ·exact h.elim
  ·exact⟨by omega,by rw[hw];exact h.2⟩
theorem fsigB_none {m:Vz} {f:Int} (h:f<0∨(m.imps.length:Int)+m.funs.length≤f):Ul m f=none:=by unfold Ul;rw[if_pos h]
theorem fsigB_imp {m:Vz} {f:Nat} (h:f<m.imps.length):Ul m (f:Int)=UM m (m.imps.getD f (ByteArray.empty,ByteArray.empty,0)).2.2:=by
 unfold Ul;rw[if_neg (by omega),if_pos (by omega),Int.toNat_natCast]
theorem fsigB_fun {m:Vz} {d:Nat} (h:d<m.funs.length):Ul m ((m.imps.length+d:Nat):Int)=UM m (m.funs.getD d WW).ty:=by
 unfold Ul;rw[if_neg (by omega),if_neg (by omega),show(((m.imps.length+d:Nat):Int) - m.imps.length).toNat=d by omega]
theorem Box8.below {w wz:World} {B:Nat} {v0 v1 v2 v3 v4 v5 v6 v7:Value} (h:Box8 w B v0 v1 v2 v3 v4 v5 v6 v7) (hB:B<w.heap.size) (hb:Below w.heap.size w wz):Box8 wz B v0 v1 v2 v3 v4 v5 v6 v7:=by
 have hc:∀ i,wz.cell? ⟨B,i,none⟩=w.cell? ⟨B,i,none⟩:=fun i=>hb.cell (p:=⟨B,i,none⟩) hB;unfold Box8;simp only[hc];exact h
theorem sig_any (w:World) (v:Mv) (m:Vz) (h:WL (fun k=>k<w.heap.size) w v m) (hs:Short m) (f:Int) (hf : -9223372036854775808≤f∧f≤9223372036854775807) :
 Calls Tryz.prog 24 #[.agg v.cells,.int .i64 f] w (UN (fun _=>False) (Ul m f) w):=by
 have HTA:=hD (fun wz (hb:Below w.heap.size w wz) k=>typeAt_any wz v m (h.keep (We.below hb fun _ hk=>hk) fun _ hk=>WK hk hb.size) hs k);have h1:=h.imps;have h2:=h.funs;obtain⟨A0,c0,A1,c1,A2,c2,A3,c3,A4,c4,A5,c5,A6,c6,A7,c7,rfl⟩:=WI h;simp only[Mv.cells]at HTA ⊢;simp only at h1 h2;have hs1:=hs.2.1;have hs2:=hs.2.2.1;clear h hs;generalize m.types.length=n0 at *;obtain⟨n1,hn1⟩:∃ n,m.imps.length=n:=⟨_,rfl⟩;obtain⟨n2,hn2⟩:∃ n,m.funs.length=n:=⟨_,rfl⟩;generalize m.mems.length=n3 at *;generalize m.globs.length=n4 at *;generalize m.exps.length=n5 at *;generalize m.datas.length=n6 at *;generalize m.cus.length=n7 at *;rcases(show f<0∨(m.imps.length:Int)+m.funs.length≤f∨(0≤f∧f<m.imps.length)∨((m.imps.length:Int)≤f∧f<m.imps.length+m.funs.length) by omega) with hf0|hf0|hf0|hf0
 ·rw[fsigB_none (.inl hf0)];rw[hn1]at h1 hs1 ⊢;rw[hn2]at h2 hs2 ⊢;have d0:decide (f<0)=true:=by simp;omega
  exact ZbG
 ·rw[fsigB_none (.inr hf0)];rw[hn1,hn2]at hf0;rw[hn1]at h1 hs1 ⊢;rw[hn2]at h2 hs2 ⊢;have d0:decide (f<0)=false:=by simp;omega
  have d1:IntKind.i64.wrap (f - (n1:Int))=f - (n1:Int):=IntWalk.i64_in _ (by omega);have d2:decide ((n2:Int)≤f - (n1:Int))=true:=by simp;omega
  exact ZbG
 ·obtain⟨f,rfl⟩:∃ j:Nat,f=(j:Int):=⟨f.toNat,by omega⟩;rw[fsigB_imp (by omega)];have hlt:f<m.imps.length:=by omega
  obtain⟨g1,o1,cc1,he,_,_⟩:=Wb.some_ h1 (by omega);simp only[vI]at he;obtain⟨rfl,-,rfl⟩:=he;obtain⟨u,ki,hu⟩:=Wb.at_ h1 f 2 hlt (by decide);obtain rfl:u=.int .i64 (m.imps.getD f (ByteArray.empty,ByteArray.empty,0)).2.2:=hu;rw[hn1]at hlt HTA ⊢;rw[hn2]at HTA ⊢;obtain⟨k,hk⟩:∃ k,(m.imps.getD f (ByteArray.empty,ByteArray.empty,0)).2.2=k:=⟨_,rfl⟩;rw[hk]at ki ⊢;have d0:decide ((f:Int)<0)=false:=by simp
  have d1:IntKind.i64.wrap ((f:Int) - (n1:Int))=(f:Int) - (n1:Int):=IntWalk.i64_in _ (by omega);have d2:decide ((n2:Int)≤(f:Int) - (n1:Int))=false:=by simp;omega
  have d3:decide ((f:Int) - (n1:Int)<0)=true:=by simp;omega
  have d4:(0:Int)≤(f:Int)∧(f:Int)<(n1:Int):=by omega
  clear h1 h2 hn1 hn2 hf hf0 hk hs1 hs2;obtain⟨W,hW⟩:∃ W,W=(w.alloc (.cells #[.slice A0 n0 c0,.slice (some ⟨g1,o1,none⟩) n1 c1,.slice A2 n2 c2,.slice A3 n3 c3,.slice A4 n4 c4,.slice A5 n5 c5,.slice A6 n6 c6,.slice A7 n7 c7] 36)).alloc (.cells #[.slice none 0 0,.slice none 0 0] 68):=⟨_,rfl⟩;have hsz:W.heap.size=w.heap.size+2:=by rw[hW];simp
  have hbw:Below w.heap.size w W:=by rw[hW];exact((bR w.heap.size w).alloc (nR _) _).alloc (by simp) _
  have hz:VY (w.heap.size+1) W:=by
   have h:=VY.new (w.alloc (.cells #[.slice A0 n0 c0,.slice (some ⟨g1,o1,none⟩) n1 c1,.slice A2 n2 c2,.slice A3 n3 c3,.slice A4 n4 c4,.slice A5 n5 c5,.slice A6 n6 c6,.slice A7 n7 c7] 36));rw[show(w.alloc (.cells #[.slice A0 n0 c0,.slice (some ⟨g1,o1,none⟩) n1 c1,.slice A2 n2 c2,.slice A3 n3 c3,.slice A4 n4 c4,.slice A5 n5 c5,.slice A6 n6 c6,.slice A7 n7 c7] 36)).heap.size=w.heap.size+1 by simp]at h;rw[hW];exact h
  have hbx:Box8 W w.heap.size (.slice A0 n0 c0) (.slice (some ⟨g1,o1,none⟩) n1 c1) (.slice A2 n2 c2) (.slice A3 n3 c3) (.slice A4 n4 c4) (.slice A5 n5 c5) (.slice A6 n6 c6) (.slice A7 n7 c7):=by rw[hW];exact Vb w _ _ _ _ _ _ _ _ ((bR _ _).alloc (nR _) _)
  have hcx:W.drew.cell? ⟨g1,o1+f * 3+2,none⟩=some (.int .i64 k):=(hbw.cell (p:=⟨g1,o1+f * 3+2,none⟩) (wL _ _ ki)).trans ki;have hbd:Below w.heap.size w W.drew:=hbw.drew;have hne:w.heap.size≠w.heap.size+1:=by omega
  have HF:Hid (∀ wz,Below W.drew.heap.size W.drew wz→(∀ a b,(fun w'=>w'.cell? ⟨w.heap.size,0,none⟩=some (.slice A0 n0 c0)∧w'.cell? ⟨w.heap.size,1,none⟩=some (.slice (some ⟨g1,o1,none⟩) n1 c1)∧w'.cell? ⟨w.heap.size,2,none⟩=some (.slice A2 n2 c2)∧w'.cell? ⟨w.heap.size,3,none⟩=some (.slice A3 n3 c3)∧w'.cell? ⟨w.heap.size,4,none⟩=some (.slice A4 n4 c4)∧w'.cell? ⟨w.heap.size,5,none⟩=some (.slice A5 n5 c5)∧w'.cell? ⟨w.heap.size,6,none⟩=some (.slice A6 n6 c6)∧w'.cell? ⟨w.heap.size,7,none⟩=some (.slice A7 n7 c7)∧w'.cell? ⟨g1,o1+f * 3+2,none⟩=some (.int .i64 k)) ((wz.setCell ⟨w.heap.size+1,0,none⟩ a).setCell ⟨w.heap.size+1,1,none⟩ b))∧(fun w'=>w'.cell? ⟨w.heap.size,0,none⟩=some (.slice A0 n0 c0)∧w'.cell? ⟨w.heap.size,1,none⟩=some (.slice (some ⟨g1,o1,none⟩) n1 c1)∧w'.cell? ⟨w.heap.size,2,none⟩=some (.slice A2 n2 c2)∧w'.cell? ⟨w.heap.size,3,none⟩=some (.slice A3 n3 c3)∧w'.cell? ⟨w.heap.size,4,none⟩=some (.slice A4 n4 c4)∧w'.cell? ⟨w.heap.size,5,none⟩=some (.slice A5 n5 c5)∧w'.cell? ⟨w.heap.size,6,none⟩=some (.slice A6 n6 c6)∧w'.cell? ⟨w.heap.size,7,none⟩=some (.slice A7 n7 c7)∧w'.cell? ⟨g1,o1+f * 3+2,none⟩=some (.int .i64 k)) wz∧VY (w.heap.size+1) wz):=hD fun wz hb=>by
   have hx:Box8 wz w.heap.size (.slice A0 n0 c0) (.slice (some ⟨g1,o1,none⟩) n1 c1) (.slice A2 n2 c2) (.slice A3 n3 c3) (.slice A4 n4 c4) (.slice A5 n5 c5) (.slice A6 n6 c6) (.slice A7 n7 c7):=hbx.below (w:=W.drew) (by show w.heap.size<W.heap.size;omega) hb;have hcy:wz.cell? ⟨g1,o1+f * 3+2,none⟩=some (.int .i64 k):=(hb.cell (p:=⟨g1,o1+f * 3+2,none⟩) (wL _ _ hcx)).trans hcx;have hcn:g1≠w.heap.size+1:=by have h9:=wL _ _ ki;simp only at h9;omega
   exact Zbp
  have HQ:=hD (HTA.out _ hbd k);generalize UM m k=t at HQ ⊢;obtain⟨b0,b1,b2,b3,b4,b5,b6,b7,b8⟩:=(HF.out _ (bR _ _)).2.1;have HBW:=hD hbd;have HSZ:=hD hsz;clear hbw hbd hz hbx hne hsz HTA hcx ki;go_enter Tryz.func24,Tryz.ntmps24
  go_upto_region 5 with (fail)
  rw[← hW];clear hW
  go_region_held3 (fun w'=>w'.cell? ⟨w.heap.size,0,none⟩=some (.slice A0 n0 c0)∧w'.cell? ⟨w.heap.size,1,none⟩=some (.slice (some ⟨g1,o1,none⟩) n1 c1)∧w'.cell? ⟨w.heap.size,2,none⟩=some (.slice A2 n2 c2)∧w'.cell? ⟨w.heap.size,3,none⟩=some (.slice A3 n3 c3)∧w'.cell? ⟨w.heap.size,4,none⟩=some (.slice A4 n4 c4)∧w'.cell? ⟨w.heap.size,5,none⟩=some (.slice A5 n5 c5)∧w'.cell? ⟨w.heap.size,6,none⟩=some (.slice A6 n6 c6)∧w'.cell? ⟨w.heap.size,7,none⟩=some (.slice A7 n7 c7)∧w'.cell? ⟨g1,o1+f * 3+2,none⟩=some (.int .i64 k))
   (first|exact(HF.out _ hb1).1 (.slice P1 (t.getD ([],[])).1.length e1) (.slice P2 (t.getD ([],[])).2.length e2)|exact(HF.out _ hb1).2.1|go_keep)
   ((go_at_call 66;refine HQ.out.mono ?_;rintro e w1 ⟨p',r',rfl,hi1,hi2,hb1⟩;obtain⟨P1,e1,hq1,_,_⟩:=hi1.form;obtain⟨P2,e2,hq2,_,_⟩:=hi2.form;rw[hq1]at hi1 ⊢;rw[hq2]at hi2 ⊢;obtain⟨z0,z1,f0,f1⟩:=(HF.out _ hb1).2.2.all))
  all_goals
   skip
   exact Zbb
 ·obtain⟨d,rfl⟩:∃ d:Nat,f=((m.imps.length+d:Nat):Int):=⟨(f - m.imps.length).toNat,by omega⟩;have hlt:d<m.funs.length:=by omega
  rw[fsigB_fun hlt];obtain⟨g2,o2,cc2,he,_,_⟩:=Wb.some_ h2 (by omega);simp only[vI]at he;obtain⟨rfl,-,rfl⟩:=he;obtain⟨u,ki,hu⟩:=Wb.at_ h2 d 0 hlt (by decide);obtain rfl:u=.int .i64 (m.funs.getD d WW).ty:=hu;rw[Nat.add_zero]at ki;rw[hn2]at hlt HTA ⊢;rw[hn1]at HTA hf ⊢;obtain⟨k,hk⟩:∃ k,(m.funs.getD d WW).ty=k:=⟨_,rfl⟩;rw[hk]at ki ⊢;rw[hn1]at hs1;rw[hn2]at hs2;obtain⟨fv,hfv⟩:∃ fv:Nat,fv=n1+d:=⟨_,rfl⟩;rw[← hfv];have d0:decide ((fv:Int)<0)=false:=by simp
  have d1:IntKind.i64.wrap ((fv:Int) - (n1:Int))=(d:Int):=by rw[show(fv:Int) - (n1:Int)=(d:Int) by omega];exact IntWalk.i64_in _ (by omega)
  have d2:decide ((n2:Int)≤(d:Int))=false:=by simp;omega
  have d3:decide ((d:Int)<0)=false:=by simp
  have d4:(0:Int)≤(d:Int)∧(d:Int)<(n2:Int):=by omega
  clear h1 h2 hn1 hn2 hf hf0 hk hfv hs1 hs2;obtain⟨W,hW⟩:∃ W,W=(w.alloc (.cells #[.slice A0 n0 c0,.slice A1 n1 c1,.slice (some ⟨g2,o2,none⟩) n2 c2,.slice A3 n3 c3,.slice A4 n4 c4,.slice A5 n5 c5,.slice A6 n6 c6,.slice A7 n7 c7] 36)).alloc (.cells #[.slice none 0 0,.slice none 0 0] 68):=⟨_,rfl⟩;have hsz:W.heap.size=w.heap.size+2:=by rw[hW];simp
  have hbw:Below w.heap.size w W:=by rw[hW];exact((bR w.heap.size w).alloc (nR _) _).alloc (by simp) _
  have hz:VY (w.heap.size+1) W:=by
   have h:=VY.new (w.alloc (.cells #[.slice A0 n0 c0,.slice A1 n1 c1,.slice (some ⟨g2,o2,none⟩) n2 c2,.slice A3 n3 c3,.slice A4 n4 c4,.slice A5 n5 c5,.slice A6 n6 c6,.slice A7 n7 c7] 36));rw[show(w.alloc (.cells #[.slice A0 n0 c0,.slice A1 n1 c1,.slice (some ⟨g2,o2,none⟩) n2 c2,.slice A3 n3 c3,.slice A4 n4 c4,.slice A5 n5 c5,.slice A6 n6 c6,.slice A7 n7 c7] 36)).heap.size=w.heap.size+1 by simp]at h;rw[hW];exact h
  have hbx:Box8 W w.heap.size (.slice A0 n0 c0) (.slice A1 n1 c1) (.slice (some ⟨g2,o2,none⟩) n2 c2) (.slice A3 n3 c3) (.slice A4 n4 c4) (.slice A5 n5 c5) (.slice A6 n6 c6) (.slice A7 n7 c7):=by rw[hW];exact Vb w _ _ _ _ _ _ _ _ ((bR _ _).alloc (nR _) _)
  have hcx:W.drew.cell? ⟨g2,o2+d * 3,none⟩=some (.int .i64 k):=(hbw.cell (p:=⟨g2,o2+d * 3,none⟩) (wL _ _ ki)).trans ki;have hbd:Below w.heap.size w W.drew:=hbw.drew;have hne:w.heap.size≠w.heap.size+1:=by omega
  have HF:Hid (∀ wz,Below W.drew.heap.size W.drew wz→(∀ a b,(fun w'=>w'.cell? ⟨w.heap.size,0,none⟩=some (.slice A0 n0 c0)∧w'.cell? ⟨w.heap.size,1,none⟩=some (.slice A1 n1 c1)∧w'.cell? ⟨w.heap.size,2,none⟩=some (.slice (some ⟨g2,o2,none⟩) n2 c2)∧w'.cell? ⟨w.heap.size,3,none⟩=some (.slice A3 n3 c3)∧w'.cell? ⟨w.heap.size,4,none⟩=some (.slice A4 n4 c4)∧w'.cell? ⟨w.heap.size,5,none⟩=some (.slice A5 n5 c5)∧w'.cell? ⟨w.heap.size,6,none⟩=some (.slice A6 n6 c6)∧w'.cell? ⟨w.heap.size,7,none⟩=some (.slice A7 n7 c7)∧w'.cell? ⟨g2,o2+d * 3,none⟩=some (.int .i64 k)) ((wz.setCell ⟨w.heap.size+1,0,none⟩ a).setCell ⟨w.heap.size+1,1,none⟩ b))∧(fun w'=>w'.cell? ⟨w.heap.size,0,none⟩=some (.slice A0 n0 c0)∧w'.cell? ⟨w.heap.size,1,none⟩=some (.slice A1 n1 c1)∧w'.cell? ⟨w.heap.size,2,none⟩=some (.slice (some ⟨g2,o2,none⟩) n2 c2)∧w'.cell? ⟨w.heap.size,3,none⟩=some (.slice A3 n3 c3)∧w'.cell? ⟨w.heap.size,4,none⟩=some (.slice A4 n4 c4)∧w'.cell? ⟨w.heap.size,5,none⟩=some (.slice A5 n5 c5)∧w'.cell? ⟨w.heap.size,6,none⟩=some (.slice A6 n6 c6)∧w'.cell? ⟨w.heap.size,7,none⟩=some (.slice A7 n7 c7)∧w'.cell? ⟨g2,o2+d * 3,none⟩=some (.int .i64 k)) wz∧VY (w.heap.size+1) wz):=hD fun wz hb=>by
   have hx:Box8 wz w.heap.size (.slice A0 n0 c0) (.slice A1 n1 c1) (.slice (some ⟨g2,o2,none⟩) n2 c2) (.slice A3 n3 c3) (.slice A4 n4 c4) (.slice A5 n5 c5) (.slice A6 n6 c6) (.slice A7 n7 c7):=hbx.below (w:=W.drew) (by show w.heap.size<W.heap.size;omega) hb;have hcy:wz.cell? ⟨g2,o2+d * 3,none⟩=some (.int .i64 k):=(hb.cell (p:=⟨g2,o2+d * 3,none⟩) (wL _ _ hcx)).trans hcx;have hcn:g2≠w.heap.size+1:=by have h9:=wL _ _ ki;simp only at h9;omega
   exact Zbp
  have HQ:=hD (HTA.out _ hbd k);generalize UM m k=t at HQ ⊢;obtain⟨b0,b1,b2,b3,b4,b5,b6,b7,b8⟩:=(HF.out _ (bR _ _)).2.1;have HBW:=hD hbd;have HSZ:=hD hsz;clear hbw hbd hz hbx hne hsz HTA hcx ki;go_enter Tryz.func24,Tryz.ntmps24
  go_upto_region 6 with (fail)
  rw[← hW];clear hW
  go_region_held3 (fun w'=>w'.cell? ⟨w.heap.size,0,none⟩=some (.slice A0 n0 c0)∧w'.cell? ⟨w.heap.size,1,none⟩=some (.slice A1 n1 c1)∧w'.cell? ⟨w.heap.size,2,none⟩=some (.slice (some ⟨g2,o2,none⟩) n2 c2)∧w'.cell? ⟨w.heap.size,3,none⟩=some (.slice A3 n3 c3)∧w'.cell? ⟨w.heap.size,4,none⟩=some (.slice A4 n4 c4)∧w'.cell? ⟨w.heap.size,5,none⟩=some (.slice A5 n5 c5)∧w'.cell? ⟨w.heap.size,6,none⟩=some (.slice A6 n6 c6)∧w'.cell? ⟨w.heap.size,7,none⟩=some (.slice A7 n7 c7)∧w'.cell? ⟨g2,o2+d * 3,none⟩=some (.int .i64 k))
   (first|exact(HF.out _ hb1).1 (.slice P1 (t.getD ([],[])).1.length e1) (.slice P2 (t.getD ([],[])).2.length e2)|exact(HF.out _ hb1).2.1|go_keep)
   ((go_at_call 66;refine HQ.out.mono ?_;rintro e w1 ⟨p',r',rfl,hi1,hi2,hb1⟩;obtain⟨P1,e1,hq1,_,_⟩:=hi1.form;obtain⟨P2,e2,hq2,_,_⟩:=hi2.form;rw[hq1]at hi1 ⊢;rw[hq2]at hi2 ⊢;obtain⟨z0,z1,f0,f1⟩:=(HF.out _ hb1).2.2.all))
  all_goals
   skip
   exact Zbb
theorem cell_third' (w:World) (a b:Obj) (cs:Array Value) (t:TypeId) (j:Nat):(((w.alloc a).alloc b).alloc (.cells cs t)).cell? ⟨w.heap.size+2,j,none⟩=cs[j]?:=by
 exact Zcw
theorem block_any6 (w:World) (v:Mv) (m:Vz) (h:WL (fun k=>k<w.heap.size) w v m) (hs:Short m) (a:Int) :
 Calls Tryz.prog 22 #[.agg v.cells,.int .i64 a] w (UN (fun _=>False) (UD m a) w):=by
 have HTA:=hD (fun wz (hb:Below w.heap.size w wz) k=>typeAt_any wz v m (h.keep (We.below hb fun _ hk=>hk) fun _ hk=>WK hk hb.size) hs k);have h1:=h.imps;have h2:=h.funs;obtain⟨A0,c0,A1,c1,A2,c2,A3,c3,A4,c4,A5,c5,A6,c6,A7,c7,rfl⟩:=WI h;simp only[Mv.cells]at HTA ⊢;simp only at h1 h2;have hs1:=hs.2.1;have hs2:=hs.2.2.1;clear h hs;generalize m.types.length=n0 at *;obtain⟨n1,hn1⟩:∃ n,m.imps.length=n:=⟨_,rfl⟩;obtain⟨n2,hn2⟩:∃ n,m.funs.length=n:=⟨_,rfl⟩;generalize m.mems.length=n3 at *;generalize m.globs.length=n4 at *;generalize m.exps.length=n5 at *;generalize m.datas.length=n6 at *;generalize m.cus.length=n7 at *;have HBB:Hid (¬ a = -1→¬ a = -2→¬ a = -3→¬ a = -4→UD m a=UM m a):=hD fun h1 h2 h3 h4=>by unfold UD;rw[if_neg h1,if_neg h2,if_neg h3,if_neg h4]
 rw[hn1,hn2]at *;clear h1 h2 hn1 hn2 hs1 hs2;by_cases c1:a = -1
 ·subst c1;rw[show UD m (-1)=some ([],[]) from rfl];clear HTA HBB;go_enter Tryz.func22,Tryz.ntmps22;go_wp2;exact bodyPost_ret (v:=.tuple #[.agg #[.slice none 0 0,.slice none 0 0],.bool true]) (by simp[results,Tryz.results22,go_sem]) rfl ⟨_,_,rfl,Wh.nil _ _,Wh.nil _ _,((bR _ _).alloc (nR _) _).alloc (by simp) _⟩
 by_cases c2:a = -2
 ·subst c2;rw[show UD m (-2)=some ([],[127]) from rfl];exact ZT
 by_cases c3:a = -3
 ·subst c3;rw[show UD m (-3)=some ([],[126]) from rfl];exact ZT
 by_cases c4:a = -4
 ·subst c4;rw[show UD m (-4)=some ([],[124]) from rfl];exact ZT
 rw[HBB.out c1 c2 c3 c4];have d1:(a == -1)=false:=by simpa using c1
 have d2:(a == -2)=false:=by simpa using c2
 have d3:(a == -3)=false:=by simpa using c3
 have d4:(a == -4)=false:=by simpa using c4
 clear c1 c2 c3 c4 HBB;obtain⟨W,hW⟩:∃ W,W=(w.alloc (.cells #[.slice A0 n0 c0,.slice A1 n1 c1,.slice A2 n2 c2,.slice A3 n3 c3,.slice A4 n4 c4,.slice A5 n5 c5,.slice A6 n6 c6,.slice A7 n7 c7] 36)).alloc (.cells #[.slice none 0 0,.slice none 0 0] 68):=⟨_,rfl⟩;have hsz:W.heap.size=w.heap.size+2:=by rw[hW];simp
 have hbw:Below w.heap.size w W:=by rw[hW];exact((bR w.heap.size w).alloc (nR _) _).alloc (by simp) _
 have hz:VY (w.heap.size+1) W:=by
  have h:=VY.new (w.alloc (.cells #[.slice A0 n0 c0,.slice A1 n1 c1,.slice A2 n2 c2,.slice A3 n3 c3,.slice A4 n4 c4,.slice A5 n5 c5,.slice A6 n6 c6,.slice A7 n7 c7] 36));rw[show(w.alloc (.cells #[.slice A0 n0 c0,.slice A1 n1 c1,.slice A2 n2 c2,.slice A3 n3 c3,.slice A4 n4 c4,.slice A5 n5 c5,.slice A6 n6 c6,.slice A7 n7 c7] 36)).heap.size=w.heap.size+1 by simp]at h;rw[hW];exact h
 have hbx:Box8 W w.heap.size (.slice A0 n0 c0) (.slice A1 n1 c1) (.slice A2 n2 c2) (.slice A3 n3 c3) (.slice A4 n4 c4) (.slice A5 n5 c5) (.slice A6 n6 c6) (.slice A7 n7 c7):=by rw[hW];exact Vb w _ _ _ _ _ _ _ _ ((bR _ _).alloc (nR _) _)
 have hbd:Below w.heap.size w W:=hbw;have hne:w.heap.size≠w.heap.size+1:=by omega
 have HF:Hid (∀ wz,Below W.heap.size W wz→(∀ a b,(fun w'=>w'.cell? ⟨w.heap.size,0,none⟩=some (.slice A0 n0 c0)∧w'.cell? ⟨w.heap.size,1,none⟩=some (.slice A1 n1 c1)∧w'.cell? ⟨w.heap.size,2,none⟩=some (.slice A2 n2 c2)∧w'.cell? ⟨w.heap.size,3,none⟩=some (.slice A3 n3 c3)∧w'.cell? ⟨w.heap.size,4,none⟩=some (.slice A4 n4 c4)∧w'.cell? ⟨w.heap.size,5,none⟩=some (.slice A5 n5 c5)∧w'.cell? ⟨w.heap.size,6,none⟩=some (.slice A6 n6 c6)∧w'.cell? ⟨w.heap.size,7,none⟩=some (.slice A7 n7 c7)) ((wz.setCell ⟨w.heap.size+1,0,none⟩ a).setCell ⟨w.heap.size+1,1,none⟩ b))∧(fun w'=>w'.cell? ⟨w.heap.size,0,none⟩=some (.slice A0 n0 c0)∧w'.cell? ⟨w.heap.size,1,none⟩=some (.slice A1 n1 c1)∧w'.cell? ⟨w.heap.size,2,none⟩=some (.slice A2 n2 c2)∧w'.cell? ⟨w.heap.size,3,none⟩=some (.slice A3 n3 c3)∧w'.cell? ⟨w.heap.size,4,none⟩=some (.slice A4 n4 c4)∧w'.cell? ⟨w.heap.size,5,none⟩=some (.slice A5 n5 c5)∧w'.cell? ⟨w.heap.size,6,none⟩=some (.slice A6 n6 c6)∧w'.cell? ⟨w.heap.size,7,none⟩=some (.slice A7 n7 c7)) wz∧VY (w.heap.size+1) wz):=hD fun wz hb=>by
  have hx:Box8 wz w.heap.size (.slice A0 n0 c0) (.slice A1 n1 c1) (.slice A2 n2 c2) (.slice A3 n3 c3) (.slice A4 n4 c4) (.slice A5 n5 c5) (.slice A6 n6 c6) (.slice A7 n7 c7):=hbx.below (w:=W) (by show w.heap.size<W.heap.size;omega) hb;exact⟨fun a b=>⟨(hx.far hne a b).1,(hx.far hne a b).2.1,(hx.far hne a b).2.2.1,(hx.far hne a b).2.2.2.1,(hx.far hne a b).2.2.2.2.1,(hx.far hne a b).2.2.2.2.2.1,(hx.far hne a b).2.2.2.2.2.2.1,(hx.far hne a b).2.2.2.2.2.2.2⟩,⟨hx.1,hx.2.1,hx.2.2.1,hx.2.2.2.1,hx.2.2.2.2.1,hx.2.2.2.2.2.1,hx.2.2.2.2.2.2.1,hx.2.2.2.2.2.2.2⟩,VY.below (w:=W) hz (by show w.heap.size+1<W.heap.size;omega) hb⟩
 have HQ:=hD (HTA.out _ hbd a);generalize UM m a=t at HQ ⊢;obtain⟨b0,b1,b2,b3,b4,b5,b6,b7⟩:=(HF.out _ (bR _ _)).2.1;have HBW:=hD hbd;have HSZ:=hD hsz;clear hbw hbd hz hbx hne hsz HTA;go_enter Tryz.func22,Tryz.ntmps22
 go_upto_region 10 with (fail)
 rw[← hW];clear hW;go_wp2_with (go_at_call 66;refine HQ.out.mono ?_;rintro e w1 ⟨p',r',rfl,hi1,hi2,hb1⟩;obtain⟨P1,e1,hq1,_,_⟩:=hi1.form;obtain⟨P2,e2,hq2,_,_⟩:=hi2.form;rw[hq1]at hi1 ⊢;rw[hq2]at hi2 ⊢;obtain⟨z0,z1,f0,f1⟩:=(HF.out _ hb1).2.2.all)
 have HFL:=hD ((HF.out _ hb1).2.2.fill (.slice P1 (t.getD ([],[])).1.length e1) (.slice P2 (t.getD ([],[])).2.length e2));have HFIN:=hD (typ_fill (w:=w) (W:=W) (B:=w.heap.size+1) HBW.out (Nat.le_succ _) (by have:=HSZ.out;show w.heap.size+1<W.heap.size;omega) hi1 hi2 hb1);clear hb1 hi1 hi2 hq1 hq2 z0 z1 f0 f1;go_wp2;have hfl:=HFL.out;exact bodyPost_ret (v:=.tuple #[.agg #[.slice P1 (t.getD ([],[])).1.length e1,.slice P2 (t.getD ([],[])).2.length e2],.bool t.isSome]) (by simp[results,Tryz.results22,go_sem,World.cell?,hfl]) rfl HFIN.out
end
end Go.Proofs.YtgmgcadlkebokaaGreatDoor
