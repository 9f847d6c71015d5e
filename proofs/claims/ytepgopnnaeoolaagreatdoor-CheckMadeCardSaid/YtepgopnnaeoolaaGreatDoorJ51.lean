/- A part of the proof. -/
import Derived.Test.YtepgopnnaeoolaaGreatDoorJ27
import Derived.Test.YtepgopnnaeoolaaGreatDoorJ29
import Derived.Deep.Slices
namespace Go.Proofs.YtepgopnnaeoolaaGreatDoor
open Go.RowKit Go.ChangeShapes Go.WideShapes Go.Deep
set_option maxRecDepth 100000
theorem one_at {cs:List Value} {o:Nat} {u:Value} (h:(cs.drop o).take 1=[u]):cs[o]?=some u:=by
 have h2:=congrArg (fun l=>l[0]?) h;simpa [List.getElem?_take,List.getElem?_drop] using h2
theorem weights_all {H:Type} {P:Program} {e:TypeId}:∀ {l:List (DataW H)} {d:DataW H},d ∈ l→∀ n ∈ DataW.weights P e d,n ∈ DataW.weightsAll P e l
 | x :: r,d,hd,n,hn=>by
  simp only[DataW.weightsAll,List.mem_append];rcases List.mem_cons.1 hd with rfl|h
  ·exact .inl hn
  ·exact .inr (weights_all h n hn)
theorem weights_field {H:Type} {P:Program} {t tj:TypeId} {fs:Array Field} {parts:List (DataW H)} {j:Nat} {d:DataW H} (hu:P.underlying t=some (.struct fs)) (ht:(fs.toList.map (·.type))[j]?=some tj) (hd:parts[j]?=some d) {n:Nat} (hn:n ∈ DataW.weights P tj d):n ∈ DataW.weights P t (.agg parts):=by
 simp only[DataW.weights,hu];exact DataW.weights_mem_each ht hd n hn
def Fits {H:Type} (t:TypeId) (d:DataW H):Prop:=∀ n ∈ DataW.weights Tryz.prog t d,n≤reachBytes
theorem Tryz.bytes_int:Tryz.prog.bytesOf 3=8:=by kernel_rfl
theorem ints_of_trod {H:Type} {enc:TypeId×Value→H} {W:World} {n:Nat} {cs:List Value} {y:DataW H×List MemPlace} (h:DataW.trod enc Tryz.prog W 0 (fun _=>true) true n 22 cs=some y) :
 ∃ u l,cs=[u]∧Wg (fun k=>k<W.heap.size) W u l∧(Fits 22 y.1→fitN l.length):=by
 rcases open_ints Tryz.underlying22 Tryz.underlying3 Tryz.cells_int h with ⟨hcs,_⟩|⟨a,len,cap,zs,hcs,_,hl,hm,hz,hy,hcell,hwz⟩
 ·exact⟨_,[],hcs,Wg.nil _ W,fun _=>by unfold fitN;simp⟩
 ·simp only[if_true]at hz;have hlen:(zs.take len).length=len:=by rw[List.length_take];omega
  have hfit:Fits 22 y.1→fitN (zs.take len).length:=fun hf=>by
   subst hy;have h9:=hf _ (by simp only[DataW.weights,Tryz.underlying22];exact List.mem_cons_self ..);rw[Tryz.bytes_int]at h9;have e1:(lits (H:=H) .i64 (zs.take len)).length=len:=by simp[lits];omega
   unfold fitN reachBytes at *;rw[hlen];simp only[e1]at h9;omega
  refine⟨_,zs.take len,hcs,⟨some a,cap,by rw[hlen],by rw[hlen];omega,(fun h=>by cases h),fun h0=>?_⟩,hfit⟩;exact ZL
theorem some_at {α:Type} {l:List α} {n i:Nat} (h:l.length=n) (hi:i<n):∃ y,l[i]?=some y:=⟨_,List.getElem?_eq_getElem (by omega)⟩
theorem VR {H:Type} {enc:TypeId×Value→H} {W:World} {n o:Nat} {k:IntKind} {t:TypeId} {cs:List Value} {xs:List (DataW H×List MemPlace)} {i m:Nat} (ht:Tryz.prog.underlying t=some (.int k)) (hc:Tryz.prog.cellsOf t=1) (hx:xs.length=m) (hi:i<m) (h:DataW.trod enc Tryz.prog W 0 (fun _=>true) true n t ((cs.drop o).take (Tryz.prog.cellsOf t))=xs[i]?):∃ z,cs[o]?=some (.int k z)∧(Lit.int k z).wf=true:=by
 obtain⟨y,hy⟩:=some_at hx hi;rw[hy,hc]at h;obtain⟨z,hz,_,hw⟩:=DataW.trod_int ht h;exact⟨z,one_at hz,hw⟩
theorem word_wf {z:Int} (h:(Lit.int .u64 z).wf=true):VK z:=by
 simp only[Lit.wf,Bool.and_eq_true,decide_eq_true_eq]at h;exact h
theorem Tryz.cells_u64:Tryz.prog.cellsOf 42=1:=by kernel_rfl
theorem Tryz.cells_ints:Tryz.prog.cellsOf 22=1:=by kernel_rfl
theorem Tryz.cells_inst:Tryz.prog.cellsOf 76=5:=by kernel_rfl
theorem Tryz.cells_turn:Tryz.prog.cellsOf 79=9:=by kernel_rfl
theorem turn_of_trod {H:Type} {enc:TypeId×Value→H} {W:World} {n:Nat} {cs:List Value} {y:DataW H×List MemPlace} (h:DataW.trod enc Tryz.prog W 0 (fun _=>true) true n 79 cs=some y) :
 Fits 79 y.1→∃ t:Trn,∀ i,i<9→∃ u,cs[i]?=some u∧trnCell (lt W) W t i u:=by
 intro hfy;obtain⟨xs,n1,_,hy,hl,hx,hf⟩:=DataW.trod_struct Tryz.underlying79 h;have hx5:xs.length=5:=hx;obtain⟨z0,e0,ve0⟩:=VR (o:=0) Tryz.underlying3 Tryz.cells_int hx5 (by decide) (hf 0 _ rfl);obtain⟨z1,e1,ve1⟩:=VR (o:=1) Tryz.underlying3 Tryz.cells_int hx5 (by decide) (hf 1 _ rfl);obtain⟨z2,e2,ve2⟩:=VR (o:=2) Tryz.underlying3 Tryz.cells_int hx5 (by decide) (hf 2 _ rfl);obtain⟨z3,e3,ve3⟩:=VR (o:=3) Tryz.underlying42 Tryz.cells_u64 hx5 (by decide) (hf 3 _ rfl);obtain⟨y4,hy4⟩:=some_at hx5 (show 4<5 by decide);have h4:DataW.trod enc Tryz.prog W 0 (fun _=>true) true n1 76 ((cs.drop 4).take (Tryz.prog.cellsOf 76))=some y4:=(hf 4 _ rfl).trans hy4;rw[Tryz.cells_inst]at h4;obtain⟨ys,n2,_,hy2,_,hx',hg⟩:=DataW.trod_struct Tryz.underlying76 h4;have hy5:ys.length=5:=hx';have hin:∀ o,o<5→((cs.drop 4).take 5)[o]?=cs[4+o]?:=fun o ho=>by rw[List.getElem?_take,if_pos ho,List.getElem?_drop]
 obtain⟨z4,e4,ve4⟩:=VR (o:=0) Tryz.underlying3 Tryz.cells_int hy5 (by decide) (hg 0 _ rfl);obtain⟨z5,e5,ve5⟩:=VR (o:=1) Tryz.underlying3 Tryz.cells_int hy5 (by decide) (hg 1 _ rfl);obtain⟨z6,e6,ve6⟩:=VR (o:=2) Tryz.underlying3 Tryz.cells_int hy5 (by decide) (hg 2 _ rfl);obtain⟨z7,e7,ve7⟩:=VR (o:=3) Tryz.underlying42 Tryz.cells_u64 hy5 (by decide) (hg 3 _ rfl);obtain⟨y8,hy8⟩:=some_at hy5 (show 4<5 by decide);have h8:DataW.trod enc Tryz.prog W 0 (fun _=>true) true n2 22 ((((cs.drop 4).take 5).drop 4).take (Tryz.prog.cellsOf 22))=some y8:=(hg 4 _ rfl).trans hy8;rw[Tryz.cells_ints]at h8;obtain⟨u,l,hu,hL,hLf⟩:=ints_of_trod h8;have hfit:fitN l.length:=hLf fun n hn=>hfy n (by
  subst hy;refine weights_field (j:=4) (d:=y4.1) Tryz.underlying79 rfl (by simp[hy4]) ?_;subst hy2;exact weights_field (j:=4) (d:=y8.1) Tryz.underlying76 rfl (by simp[hy8]) hn)
 have e8:=one_at hu;rw[hin _ (by decide)]at e4 e5 e6 e7 e8;refine⟨⟨z0,z1,z2,z3,⟨z4,z5,z6,z7,l⟩⟩,fun i hi=>?_⟩
 match i,hi with
 | 0,_=>exact⟨_,e0,rfl⟩
 | 1,_=>exact⟨_,e1,rfl⟩
 | 2,_=>exact⟨_,e2,rfl⟩
 | 3,_=>exact⟨_,e3,rfl,word_wf ve3⟩
 | 4,_=>exact⟨_,e4,rfl⟩
 | 5,_=>exact⟨_,e5,rfl⟩
 | 6,_=>exact⟨_,e6,rfl⟩
 | 7,_=>exact⟨_,e7,rfl,word_wf ve7⟩
 | 8,_=>exact⟨_,e8,hL,hfit⟩
 | _+9,h=>exact absurd h (by omega)
theorem lst_of {α:Type} (d:α) (P:Nat→α→Prop):∀ n,(∀ i,i<n→∃ x,P i x)→∃ l:List α,l.length=n∧∀ i,i<n→P i (l.getD i d)
 | 0,_=>⟨[],rfl,fun _ h=>absurd h (Nat.not_lt_zero _)⟩
 | n+1,h=>by
  obtain⟨l,h1,h2⟩:=lst_of d P n fun i hi=>h i (by omega);obtain⟨x,hx⟩:=h n (by omega);refine⟨l++[x],by simp[h1],fun i hi=>?_⟩;by_cases e:i=n
  ·subst e;rw[List.getD_eq_getElem?_getD,List.getElem?_append_right (by omega),h1,Nat.sub_self];exact hx
  ·rw[List.getD_eq_getElem?_getD,List.getElem?_append_left (by omega),← List.getD_eq_getElem?_getD];exact h2 i (by omega)
theorem open_turns {H:Type} {enc:TypeId×Value→H} {W:World} {r:Reach} {b0:Nat} {v:Value} {d:DataW H} {ps:List MemPlace} (hval:Value.okWide Tryz.prog W r b0 23 v)
 (h:DataW.Trod enc Tryz.prog W 0 (fun _=>true) true 23 v d ps) (hz:Fits 23 d):∃ ts:List Trn,TrnsK (lt W) W v ts:=by
 obtain⟨a0,len,cap,rfl⟩:=okWide_slice Tryz.underlying23 hval;obtain⟨fuel,hf⟩:=h;rcases open_slice Tryz.underlying23 hf with ⟨hcs,_⟩|⟨a,len',cap',m,n,D,Pl,hcs,_,hl,hm,hmm,hx,hi⟩
 ·simp[Value.cells]at hcs;obtain⟨rfl,rfl,rfl⟩:=hcs;exact⟨[],none,0,rfl,nR _,nZ _,fun _=>rfl,fun h=>by simp at h⟩
 ·simp[Value.cells]at hcs;obtain⟨rfl,rfl,rfl⟩:=hcs;simp only[if_true]at hmm;subst hmm;rw[Tryz.cells_turn]at hi;obtain⟨ts,h1,h2⟩:=lst_of trn0 (fun i t=>∀ j,j<9→∃ u,W.cell? (a.add (i * 9+j))=some u∧trnCell (lt W) W t j u) len fun i hlt=>by
   obtain⟨cs',hc,ht⟩:=hi i (by omega);obtain⟨t,ht2⟩:=turn_of_trod ht fun n hn=>hz n (by
    have hd:d=_:=congrArg Prod.fst hx;rw[hd];simp only[DataW.weights,Tryz.underlying23];exact List.mem_cons_of_mem _ (List.mem_append.2 (.inl (weights_all (List.mem_map.2 ⟨i,List.mem_range.2 hlt,rfl⟩) n hn))))
   obtain⟨_,hcl,hat⟩:=World.cells?_some hc;exact⟨t,fun j hj=>by
    obtain⟨u,h3,h4⟩:=ht2 j hj;exact⟨u,by rw[← Go.Deep.add_add,hat j hj,h3],h4⟩⟩
  refine⟨ts,some a,_,by rw[h1],by omega,hm,(fun h=>by cases h),fun h0=>?_⟩;rw[h1]at h0;obtain⟨u0,c0,_⟩:=h2 0 h0 0 (by decide);have hspot:a.spot=none:=by
   have e:a.add (0 * 9+0)=a:=by unfold Addr.add;simp
   rw[e]at c0;unfold World.cell? at c0
   split at c0
   ·split at c0
    ·cases c0
    ·rename_i h2;simpa using h2
   ·cases c0
  obtain⟨g,o,sp⟩:=a;obtain rfl:sp=none:=hspot;refine⟨g,o,rfl,show g<W.heap.size from wL W _ (by rw[Addr.add_lit]at c0;exact c0),fun j i hj hi'=>?_⟩;rw[h1]at hj;obtain⟨u,h3,h4⟩:=h2 j hj i hi';rw[Addr.add_lit]at h3;exact⟨u,by rw[Nat.add_assoc];exact h3,h4⟩
end Go.Proofs.YtepgopnnaeoolaaGreatDoor
