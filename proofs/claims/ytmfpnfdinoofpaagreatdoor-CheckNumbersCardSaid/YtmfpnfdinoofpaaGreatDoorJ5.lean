/- A part of the proof. -/
import Derived.Test.YtmfpnfdinoofpaaGreatDoorJ2
import Derived.Great.BuildSlice
import Derived.Test.YtmfpnfdinoofpaaGreatDoorJ3
import Derived.Deep.RegionHeld3
import Derived.Lib.UnsafeStr
namespace Go.Proofs.YtmfpnfdinoofpaaGreatDoor
section
open Go.RowKit
theorem wpList_buildSliceN {P:Program} {ops:Array Oper} {rest:List Oper} {o:Oper} {a:Act} {w:World} {Q:Exit→Act→World→Prop} (hg:o.guard=none) (t e:TypeId) (len:Nat) (parts:Array (Nat×Operand)) (ho:o.op=.buildSlice t len parts)
 (cells:Array Value) (z:Value) (n:Nat) (hu:P.underlying t=some (.slice e)) (hi:(P.info? e).map (fun i=>(i.zero,i.size))=some (some z,n)) (hsmall:¬ len * n>2 ^ 24) (hpos:¬ len * n=0)
 (hf:Instr.fill (fun i=>some (i * n,n)) ((Array.range (len * n)).map (z.cells[· % z.cells.size]!)) (parts.map fun (i,x)=>(i,a.eval x)).toList=some cells)
 (h:wpList P ops Q rest (a.put o.dst (.slice (some ⟨w.heap.size,0,none⟩) len len)) (w.alloc (.cells cells e))):wpList P ops Q (o :: rest) a w:=by
 cases hie:P.info? e with
 | none=>rw[hie]at hi;cases hi
 | some ie =>
  rw[hie]at hi;have hz:(ie.zero,ie.size)=(some z,n):=by simpa using hi
  have hz0:ie.zero=some z:=congrArg Prod.fst hz;have hz1:ie.size=n:=congrArg Prod.snd hz;exact wpList_buildSlice hg t e len parts ho cells ie z hu hie hz0 (by rw[hz1];exact hsmall) (by rw[hz1];exact hpos) (by rw[hz1];exact hf) h
def RowOf (w:World) (v:Value) (xs:List Int):Prop :=
 (v=.slice none 0 0∧xs=[])∨∃ (g cap:Nat),v=.slice (some ⟨g,0,none⟩) xs.length cap∧g<w.heap.size∧0<xs.length∧xs.length≤1000000∧∀ j,j<xs.length→w.cell? ⟨g,j,none⟩=some (.int .i64 (xs.getD j 0))
theorem RowOf.below {w w':World} {v:Value} {xs:List Int} (h:RowOf w v xs) (hb:Below w.heap.size w w'):RowOf w' v xs:=by
 rcases h with h|⟨g,cap,h1,h2,h3,h4,h5⟩
 ·exact .inl h
 ·exact .inr ⟨g,cap,h1,Ve h2 hb.size,h3,h4,fun j hj=>(hb.cell (p:=⟨g,j,none⟩) h2).trans (h5 j hj)⟩
theorem RowOf.slice {w:World} {v:Value} {xs:List Int} (h:RowOf w v xs):∃ (ao:Option Addr) (n c:Nat),v=.slice ao n c:=by
 rcases h with ⟨h,_⟩|⟨g,cap,h,_⟩
 ·exact⟨none,0,0,h⟩
 ·exact⟨_,_,_,h⟩
theorem new_cells (w:World) (t:TypeId) (xs:List Int) (j:Nat) (h:j<xs.length) :
 (w.alloc (.cells (xs.map (Value.int .i64)).toArray t)).cell? ⟨w.heap.size,j,none⟩=some (.int .i64 (xs.getD j 0)):=by
 rw[wN];simp[h]
def PlacePost (b:Bool) (w:World) (e:Ending) (w':World):Prop:=∃ r:Int,-1≤r∧r≤1000000∧decide (0≤r)=b∧e=.returned (.int .i64 r)∧w=w'
theorem contains_stop (xs:List Int) (x:Int) (h:∀ j,j<xs.length→¬ (x=xs.getD j 0)):xs.contains x=false:=by
 apply Bool.eq_false_iff.mpr
 intro hc;have hm:x ∈ xs:=by simpa using hc
 obtain⟨i,hi,e⟩:=List.getElem_of_mem hm;exact h i hi (by simp[hi,e])
theorem contains_hit (xs:List Int) (x:Int) (j:Nat) (hj:j<xs.length) (h:x=xs.getD j 0):xs.contains x=true:=by
 have:xs.getD j 0 ∈ xs:=by simp[hj]
 simpa [h] using this
theorem index_any (g n cap:Nat) (xs:List Int) (x:Int) (hn:xs.length=n) (hm:n≤1000000) (w:World)
 (hg:∀ j,j<n→w.cell? ⟨g,j,none⟩=some (.int .i64 (xs.getD j 0))) :
 Calls Tryz.prog 181 #[.slice (some ⟨g,0,none⟩) n cap,.int .i64 x] w (PlacePost (xs.contains x) w):=by
 have hstop:=contains_stop xs x;have hhit:=contains_hit xs x;rw[hn]at hstop hhit;generalize xs.contains x=b at hstop hhit;have HG:=hD hg;have HS:=hD hstop;have HH:=hD hhit;clear hg hn hstop hhit;go_enter Tryz.func181,Tryz.ntmps181;go_wp2;go_loop [5,8] (fun _ i=>∃ k:Nat,k≤n∧i=.int .i64 (k:Int)∧Hid (∀ j,j<k→¬ (x=xs.getD j 0))) (fun _ i=>n - (intOf i).toNat)
 case atStart=>exact⟨0,nZ _,rfl,hD (fun j hj=>by omega)⟩
 case round =>
  obtain⟨k,hk,rfl,hno⟩:=hrel;by_cases hlt:k<n
  ·have c1:=HG.out k hlt;generalize hy:xs.getD k 0=y at c1;have HY:=hD hy;clear hy;by_cases hxy:x=y
   ·have e1:(x==y)=true:=by simpa using hxy
    have HXY:=hD hxy;clear hxy;go_wp2;go_ret;exact⟨k,by omega,by omega,by rw[HH.out k hlt (by rw[HY.out];exact HXY.out)];simp,rfl,rfl⟩
   ·have e1:(x==y)=false:=by simpa using hxy
    have HXY:=hD hxy;clear hxy;go_wp2;go_round
    case rel =>
     refine⟨k+1,by omega,by go_num,hD (fun j hj=>?_)⟩;by_cases hjk:j=k
     ·subst hjk;rw[HY.out];exact HXY.out
     ·exact hno.out j (by omega)
    case measure=>simp[intOf];omega
  ·go_wp2;go_ret;exact⟨-1,by omega,by omega,by rw[HS.out (fun j hj=>hno.out j (by omega))];decide,rfl,rfl⟩
theorem contains_any (g n cap:Nat) (xs:List Int) (x:Int) (hn:xs.length=n) (hm:n≤1000000) (w:World)
 (hg:∀ j,j<n→w.cell? ⟨g,j,none⟩=some (.int .i64 (xs.getD j 0))) :
 Calls Tryz.prog 156 #[.slice (some ⟨g,0,none⟩) n cap,.int .i64 x] w fun e w'=>e=.returned (.bool (xs.contains x))∧w=w':=by
 have C:=index_any g n cap xs x hn hm w hg;generalize xs.contains x=b at C;have HC:=hD C;clear C hg hn;go_enter Tryz.func156,Tryz.ntmps156;go_wp2_with fail
 go_at_call 181;refine HC.out.mono ?_;rintro e w' ⟨r,r1,r2,hr,rfl,rfl⟩;have HR:=hD hr;clear hr;go_wp2;go_ret;exact⟨WV HR.out,rfl⟩
end
section
open Go.RowKit
set_option maxRecDepth 100000
def RowNew (w w':World) (v:Value) (xs:List Int):Prop:=RowOf w' v xs∧∀ g,v.ownBlock=some g→w.heap.size≤g
theorem RowNew.below {w w1 w':World} {v:Value} {xs:List Int} (h:RowNew w w1 v xs) (hb:Below w1.heap.size w1 w'):RowOf w' v xs:=RowOf.below h.1 hb
theorem RowNew.slice {w w':World} {v:Value} {xs:List Int} (h:RowNew w w' v xs):∃ (ao:Option Addr) (n c:Nat),v=.slice ao n c:=RowOf.slice h.1
def WJ (op:Int) (w:World) (e:Ending) (w':World):Prop :=
 ∃ p q:Value,e=.returned (.tuple #[p,q,.bool (WS op)])∧RowNew w w' p (Vw op)∧RowNew w w' q (Vf op)∧Below w.heap.size w w'
theorem rnum_end (op:Int) (n:Nat) (hn:0<n) (hm:n≤2) (a b:Int) (w:World) (h:WS op=true) (hs:VH op=(n,a,b)) :
 WJ op w (.returned (.tuple #[.slice (some ⟨w.heap.size,0,none⟩) n n,.slice (some ⟨w.heap.size+1,0,none⟩) 1 1,.bool true]))
  ((w.alloc (.cells ((List.replicate n a).map (Value.int .i64)).toArray 3)).alloc (.cells #[.int .i64 b] 3)):=by
 have h1:Vw op=List.replicate n a:=by unfold Vw;rw[h,hs];rfl
 have h2:Vf op=[b]:=by unfold Vf;rw[h,hs];rfl
 refine⟨_,_,by rw[h],?_,?_,((bR _ _).alloc (nR _) _).alloc (by simp) _⟩
 ·rw[h1];refine⟨.inr ⟨w.heap.size,n,by simp,by simp;omega,by simpa using hn,by simp;omega,fun j hj=>?_⟩,fun g hg=>by obtain rfl:=Option.some.inj hg;exact nR _⟩;rw[World.cell?_alloc_lt _ _ _ (by simp)];exact new_cells w 3 (List.replicate n a) j hj
 ·rw[h2];refine⟨.inr ⟨w.heap.size+1,1,rfl,by simp,by simp,by simp,fun j hj=>?_⟩,fun g hg=>by obtain rfl:=Option.some.inj hg;exact Nat.le_succ _⟩;have nc:=new_cells (w.alloc (.cells ((List.replicate n a).map (Value.int .i64)).toArray 3)) 3 [b] j hj;rw[show(w.alloc (.cells ((List.replicate n a).map (Value.int .i64)).toArray 3)).heap.size=w.heap.size+1 by simp]at nc;exact nc
theorem Vb (op a b:Int) (w:World) (h:WS op=true) (hs:VH op=(1,a,b)) :
 WJ op w (.returned (.tuple #[.slice (some ⟨w.heap.size,0,none⟩) 1 1,.slice (some ⟨w.heap.size+1,0,none⟩) 1 1,.bool true]))
  ((w.alloc (.cells #[.int .i64 a] 3)).alloc (.cells #[.int .i64 b] 3)):=rnum_end op 1 (by omega) (by omega) a b w h hs
theorem rnum_end2 (op a b:Int) (w:World) (h:WS op=true) (hs:VH op=(2,a,b)) :
 WJ op w (.returned (.tuple #[.slice (some ⟨w.heap.size,0,none⟩) 2 2,.slice (some ⟨w.heap.size+1,0,none⟩) 1 1,.bool true]))
  ((w.alloc (.cells #[.int .i64 a,.int .i64 a] 3)).alloc (.cells #[.int .i64 b] 3)):=rnum_end op 2 (by omega) (by omega) a b w h hs
theorem rnum_no (op:Int) (h:WS op=false) (w:World):Calls Tryz.prog 134 #[.int .i64 op] w (WJ op w):=by
 have h1:Vw op=[]:=by unfold Vw;rw[h];rfl
 have h2:Vf op=[]:=by unfold Vf;rw[h];rfl
 have e:isB op=false∧isF op=false:=by simpa [WS] using h
 have C:=fun w=>Vu op w;have D:=fun w=>V5 op w;rw[e.1]at C;rw[e.2]at D;have HC:=hD C;have HD:=hD D;have HH:=hD h;have H1:=hD h1;have H2:=hD h2;clear C D h h1 h2 e;go_enter Tryz.func134,Tryz.ntmps134;go_wp2_with (first|(go_at_call 161;refine(HC.out _).mono ?_;rintro e w' ⟨rfl,rfl⟩)|(go_at_call 162;refine(HD.out _).mono ?_;rintro e w' ⟨rfl,rfl⟩))
 go_ret3
 exact⟨_,_,by rw[HH.out];rfl,⟨.inl ⟨rfl,H1.out⟩,fun g h=>by cases h⟩,⟨.inl ⟨rfl,H2.out⟩,fun g h=>by cases h⟩,bR _ _⟩
end
section
open Go.RowKit
section
variable {P:Program} {ops:Array Oper} {Q:Exit→Act→World→Prop} {md:Region.Mode} {S:World→Prop} {X:Nat}
def Wm (P:Program) (md:Region.Mode) (ops:Array Oper) (Q:Exit→Act→World→Prop) (S:World→Prop) (X:Nat) (fuel:Nat):Array Bool→Act→World→Prop :=
 match fuel with
 | 0=>fun L a w=>Region.ready md ops L=[]∧Q .normal a w
 | n+1=>fun L a w=>(Region.ready md ops L=[]→Q .normal a w)∧∀ k ∈ Region.ready md ops L,wpOp P ops Q k (fun a' w'=>(k=X∨S w')∧Wm P md ops Q S X n (L.setIfInBounds k true) a' w') a w
theorem Wm.any:∀ (n:Nat) (L:Array Bool) (a:Act) (w:World),Wm P md ops Q S X n L a w→wpAny P md ops Q n L a w
 | 0,_,_,_,h=>h
 | n+1,_,_,_,h=>⟨h.1,fun k hk=>wpOp_mono (fun a' w' h'=>Wm.any n _ a' w' h'.2) (h.2 k hk)⟩
def waits (md:Region.Mode) (ops:Array Oper) (X i:Nat):Bool:=match ops[X]? with
 | some o=>o.after.any fun e=>Region.binds md e && e.on==i
 | none=>true
theorem waits_not {L:Array Bool} {X i:Nat} (h:waits md ops X i=true) (hl:L.getD i true=false):X ∉ Region.ready md ops L:=fun hX=>by
 obtain⟨_,o,ho,hall⟩:=mem_ready.1 hX;unfold waits at h;rw[ho]at h;simp only[Array.any_eq_true]at h;obtain⟨j,hj,he⟩:=h;simp only[Bool.and_eq_true,beq_iff_eq]at he;have h1:=hall _ (Array.getElem_mem hj) he.1;rw[he.2]at h1;rcases Nat.lt_or_ge i L.size with hlt|hge
 ·simp[hlt]at h1 hl;rw[h1]at hl;cases hl
 ·simp[Array.getElem?_eq_none hge]at h1 hl
theorem ready_un {L:Array Bool} {i:Nat} (hr:i ∈ Region.ready md ops L):L.getD i true=false:=(mem_ready.1 hr).1
theorem Wm.first {i:Nat} {oi:Oper} {v:Value} (hi:ops[i]?=some oi) (hns:Region.noSelect ops=true) (hQ:∀ c a w,Q (.panic c) (a.put oi.dst v) w→Q (.panic c) a w) (hX:waits md ops X i=true) :
 ∀ (n:Nat) (L:Array Bool) (a:Act) (w:World),(∀ k ok,ops[k]?=some ok→k≠i→L.getD k true=false→(∀ e ∈ ok.after,Region.binds md e=true→e.on≠i)→oi.apart ops ok=true) →
  i ∈ Region.ready md ops L→YieldsIf P ops S oi v a→S w→Wm P md ops Q S X n (L.setIfInBounds i true) (a.put oi.dst v) w→Wm P md ops Q S X (n+1) L a w:=by
 have hsel:=Region.noSelect_spec hns;intro n;induction n with
 | zero =>
  intro L a w _ hr hy hS H;refine⟨fun h=>absurd hr (by rw[h];simp),fun k hk=>?_⟩;by_cases e:k=i
  ·subst e;exact hy.wpOp hi hS ⟨.inr hS,H⟩
  ·exact absurd (ready_mono hk e) (by rw[H.1];simp)
 | succ n ih =>
  intro L a w hap hr hy hS H;refine⟨fun h=>absurd hr (by rw[h];simp),fun k hk=>?_⟩;by_cases e:k=i
  ·subst e;exact hy.wpOp hi hS ⟨.inr hS,H⟩
  ·obtain⟨hun,ok,hok,hall⟩:=mem_ready.1 hk;have hkX:k≠X:=fun h=>waits_not hX (ready_un hr) (h ▸ hk);have hno:∀ e ∈ ok.after,Region.binds md e=true→e.on≠i:=fun e he hb h=>by
    have h1:=hall e he hb;have h0:=ready_un hr;rw[h]at h1;rcases Nat.lt_or_ge i L.size with hlt|hge
    ·simp[hlt]at h0 h1;rw[h0]at h1;cases h1
    ·simp[Array.getElem?_eq_none hge]at h1
   refine wpOp_mono (fun a' w' h3=>?_) (wpOp_putIf hok (hap k ok hok e hun hno) (fun cs b=>hsel i oi cs b hi) (fun cs b=>hsel k ok cs b hok) hQ hy (H.2 k (ready_mono hk e)));have hSw:S w':=h3.2.1.resolve_left hkX;refine⟨.inr hSw,ih (L.setIfInBounds k true) a' w' (fun j oj hj hji hju hjn=>hap j oj hj hji ?_ hjn) (ready_mono hr (Ne.symm e)) h3.1 hSw ?_⟩
   ·by_cases hkj:k=j
    ·subst hkj;exact hun
    ·rwa [getD_set_ne true hkj]at hju
   ·rw[Array.setIfInBounds_comm _ _ e];exact h3.2.2
theorem Wm.take {i:Nat} {oi:Oper} {v:Value} {n:Nat} {L:Array Bool} {a:Act} {w:World} (hi:ops[i]?=some oi) (hs:Region.noSelect ops=true) (hf:Region.free md ops L i=true) (hr:(Region.ready md ops L).contains i=true) (hX:waits md ops X i=true)
 (hQ:∀ c a w,Q (.panic c) (a.put oi.dst v) w→Q (.panic c) a w) (hy:YieldsIf P ops S oi v a) (hS:S w) (h:Wm P md ops Q S X n (L.setIfInBounds i true) (a.put oi.dst v) w):Wm P md ops Q S X (n+1) L a w :=
 Wm.first hi hs hQ hX n L a w (Region.free_spec hi hf) (by simpa using hr) hy hS h
def Comes (P:Program) (md:Region.Mode) (ops:Array Oper) (Q:Exit→Act→World→Prop) (S:World→Prop) (X n:Nat) (L:Array Bool) (a:Act) (w:World) (i:Nat):Prop :=
 wpOp P ops Q i (fun a' w'=>(i=X∨S w')∧Wm P md ops Q S X n (L.setIfInBounds i true) a' w') a w
theorem Wm.turn {rs:List Nat} {n:Nat} {L:Array Bool} {a:Act} {w:World} (hr:Region.ready md ops L=rs) (hne:rs≠[]) (h:∀ i ∈ rs,Comes P md ops Q S X n L a w i):Wm P md ops Q S X (n+1) L a w :=
 ⟨fun h0=>absurd (hr ▸ h0) hne,hr ▸ h⟩
theorem Comes.mk {i n:Nat} {L:Array Bool} {a:Act} {w:World} {o:Oper} (ho:ops[i]?=some o)
 (h:∀ K:Act→World→Prop,Hid (∀ a w,(i=X∨S w)→Wm P md ops Q S X n (L.setIfInBounds i true) a w→K a w)→if Region.wanted o (yielded ops a.tmps)=true then Oper.wp P o a w K Q else K (a.put o.dst undef) w):Comes P md ops Q S X n L a w i :=
 wpOp_step ho fun K hK=>h K (hD fun a w hS hR=>hK a w ⟨hS,hR⟩)
theorem Wm.one {i n:Nat} {L:Array Bool} {a:Act} {w:World} (hr:Region.ready md ops L=[i]) (h:Comes P md ops Q S X n L a w i):Wm P md ops Q S X (n+1) L a w :=
 .turn hr (by simp) fun j hj=>by
  obtain rfl:j=i:=by simpa using hj
  exact h
theorem Wm.two {i j n:Nat} {L:Array Bool} {a:Act} {w:World} (hr:Region.ready md ops L=[i,j]) (h:Comes P md ops Q S X n L a w i) (h2:Comes P md ops Q S X n L a w j):Wm P md ops Q S X (n+1) L a w :=
 .turn hr (by simp) fun k hk=>by
  rcases(by simpa using hk:k=i∨k=j) with rfl|rfl
  ·exact h
  ·exact h2
theorem Wm.done {L:Array Bool} {a:Act} {w:World} (hr:Region.ready md ops L=[]) (h:Q .normal a w):∀ n,Wm P md ops Q S X n L a w
 | 0=>⟨hr,h⟩
 | _+1=>⟨fun _=>h,by rw[hr];simp⟩
theorem Wm.start {id:Nat} {a:Act} {w:World} (hm:P.follows .mixedOrders=true) (h:Wm P .any ops Q S X ops.size (Array.replicate ops.size false) a w.drew):(Code.region id ops true).wp P Q a w :=
 wp_region_any hm (Wm.any _ _ _ _ h)
end
structure OwnR where
 e:TypeId
 size:Nat
 v:Value
 n:Nat
 xs:List Value
 live:Bool
def OwnR.apart (r s:OwnR):Prop:=∀ g,r.v.ownBlock=some g→s.v.ownBlock≠some g
theorem OwnR.apart.symm {r s:OwnR} (h:r.apart s):s.apart r:=fun g hs hr=>h g hr hs
def OwnR.in_ (r:OwnR) (w:World):Prop :=
 if r.live=true then w.ownsRow 0 r.e r.size r.v r.n r.xs
 else ∃ g c:Nat,r.v=.slice (some ⟨g,0,none⟩) r.n c∧r.n≤c∧g<w.heap.size∧∀ j u,r.xs[j]?=some u→w.cell? ⟨g,j,none⟩=some u
theorem OwnR.in_.keep {r:OwnR} {w w':World} (h:r.in_ w) {K:Nat→Prop} (hk:We K w w') (hv:∀ g,r.v.ownBlock=some g→K g):r.in_ w':=by
 unfold OwnR.in_ at h ⊢
 split
 ·rename_i hl
  rw[if_pos hl]at h;exact VE h hk hv
 ·rename_i hl
  rw[if_neg hl]at h;obtain⟨g,c,h1,hn,h2,h3⟩:=h;exact⟨g,c,h1,hn,Ve h2 hk.size,fun j u hu=>(hk.cell (p:=⟨g,j,none⟩) (hv g (by rw[h1];rfl))).trans (h3 j u hu)⟩
theorem OwnR.in_.lt {r:OwnR} {w:World} (h:r.in_ w) {g:Nat} (hg:r.v.ownBlock=some g):g<w.heap.size:=by
 unfold OwnR.in_ at h
 split at h
 ·exact(h.lt g hg).2
 ·obtain⟨g',c,h1,_,h2,_⟩:=h;rw[h1]at hg;have e:some g'=some g:=hg;simp only[Option.some.injEq]at e;omega
theorem OwnR.in_.own {r:OwnR} {w:World} (h:r.in_ w) (hl:r.live=true):w.ownsRow 0 r.e r.size r.v r.n r.xs:=by
 unfold OwnR.in_ at h
 rwa [if_pos hl]at h
theorem OwnR.in_.mk {r:OwnR} {w:World} (hl:r.live=true) (h:w.ownsRow 0 r.e r.size r.v r.n r.xs):r.in_ w:=by
 unfold OwnR.in_
 rwa [if_pos hl]
structure Rows (w0 w:World) (l:List OwnR):Prop where
 bl:Below w0.heap.size w0 w
 ow:∀ r ∈ l,r.in_ w
 nw:∀ r ∈ l,∀ g,r.v.ownBlock=some g→w0.heap.size≤g
 ap:l.Pairwise OwnR.apart
theorem Rows.nil {w0 w:World} (h:Below w0.heap.size w0 w):Rows w0 w []:=⟨h,by simp,by simp,.nil⟩
theorem Rows.below {w0 w w':World} {l:List OwnR} (h:Rows w0 w l) (hb:Below w.heap.size w w'):Rows w0 w' l :=
 ⟨Wa h.bl hb,fun r hr=>(h.ow r hr).keep (We.below hb fun _ hk=>hk) fun _ hg=>(h.ow r hr).lt hg,h.nw,h.ap⟩
theorem Rows.lt {w0 w:World} {l:List OwnR} (h:Rows w0 w l) {r:OwnR} (hr:r ∈ l) {g:Nat} (hg:r.v.ownBlock=some g):g<w.heap.size:=(h.ow r hr).lt hg
theorem Rows.push {w0 w w':World} {l:List OwnR} (h:Rows w0 w l) (hb:Below w.heap.size w w') {r:OwnR} (ho:r.in_ w') (hn:∀ g,r.v.ownBlock=some g→w.heap.size≤g):Rows w0 w' (r :: l):=by
 have h2:=h.below hb;refine⟨h2.bl,fun s hs=>?_,fun s hs=>?_,List.pairwise_cons.2 ⟨fun s hs g hr hs2=>?_,h.ap⟩⟩
 ·rcases List.mem_cons.1 hs with rfl|hs
  ·exact ho
  ·exact h2.ow s hs
 ·rcases List.mem_cons.1 hs with rfl|hs
  ·exact fun g hg=>Nat.le_trans h.bl.size (hn g hg)
  ·exact h.nw s hs
 ·have h3:=h.lt hs hs2;have h4:=hn g hr;omega
theorem Rows.drewN {w0 w:World} {l:List OwnR} (h:Rows w0 w l) (k:Nat):Rows w0 (w.drewN k) l:=h.below (Wt (bR _ _) k)
theorem owns_news {w:World} {base:Nat} {e:TypeId} {size:Nat} {v:Value} {n:Nat} {xs:List Value} (h:w.ownsRow base e size v n xs):UZ w v n xs:=by
 have h1:=h.1;rcases h.2 with ⟨rfl,rfl⟩|⟨g,cap,cur,rfl,_⟩
 ·exact .inl ⟨rfl,rfl,List.eq_nil_of_length_eq_zero (by simpa using h1)⟩
 ·refine .inr ⟨_,cap,rfl,fun j u hu=>?_⟩;have hj:j<n * size:=by
   rcases Nat.lt_or_ge j xs.length with h2|h2
   ·omega
   ·rw[List.getElem?_eq_none h2]at hu;cases hu
  rw[add_lit0,h.cellAt j hj,hu]
end
end Go.Proofs.YtmfpnfdinoofpaaGreatDoor
