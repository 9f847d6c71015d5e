/- A part of the proof. -/
import Derived.Test.YtepgopnnaeoolaaGreatDoorJ11
namespace Go.Proofs.YtepgopnnaeoolaaGreatDoor
section
open Go.RowKit
theorem WD.setL {F:Fx} {W w:World} {x:St} (h:WD F W x) (hk:Wf (fun k=>k<W.heap.size) W w) (v:Value) (n:Nat) (hl:LabsK (W9 F w x) w v n) :
 WD F (w.setCell ⟨F.G,13,none⟩ v) { x with lv:=v,nl:=n }∧Wv F W x (w.setCell ⟨F.G,13,none⟩ v) { x with lv:=v,nl:=n }:=by
 obtain⟨_,_,l3,l4⟩:=h.lts;have hm:∀ k,priv F { x with lv:=v,nl:=n } k→priv F x k∨W.heap.size≤k:=fun _ hp=>.inl hp;have hk2:Wf (fun k=>k<W.heap.size∧x.sv.ownBlock≠some k∧x.cv.ownBlock≠some k) W w:=hk.mono fun _ h=>h.1;obtain⟨r1,r2⟩:=reads_on (x':={ x with lv:=v,nl:=n }) hk2 hm;have hr:=h.reads.keep r1 r2;exact h.store hk2 13 v (by rfl) rfl (Wt h.so hk fun g hg=>l3 g hg) h.sp (Wt h.co hk fun g hg=>l4 g hg) h.cp hm
  ⟨hr.tape,hr.loc,hr.own,hr.types,hr.imps,hr.funs,hr.mems,hr.globs,hr.datas,hl,hr.code,hr.nest⟩
theorem owns_labs {K:Nat→Prop} {w:World} {base:Nat} {e:TypeId} {v:Value} {n:Nat} {us:List Value} (h:w.ownsRow base e 1 v n us) (hus:∀ u ∈ us,∃ l:List Int,l.length≤3∧Wg K w u l) (hK:∀ g,v.ownBlock=some g→K g):LabsK K w v n:=by
 have hl:us.length=n:=by have:=h.1;omega
 rcases h.2 with ⟨rfl,rfl⟩|⟨g,cap,cur,rfl,_,_,hc,hm,_⟩
 ·exact⟨none,0,rfl,nR _,nZ _,fun _=>rfl,fun h=>by omega⟩
 ·refine⟨_,cap,rfl,hc,hm,(fun h=>by cases h),fun _=>⟨g,0,rfl,hK g rfl,fun j i hj hi=>?_⟩⟩;obtain rfl:i=0:=by omega
  have hj2:j<us.length:=by omega
  refine⟨us[j],?_,hus _ (List.getElem_mem hj2)⟩;rw[show 0+j * 1+0=j by omega,h.cellAt j (by omega),List.getElem?_eq_getElem hj2]
theorem LabsK.news {K:Nat→Prop} {w:World} {v:Value} {n:Nat} (h:LabsK K w v n):∃ us:List Value,us.length=n∧VG w v n us∧∀ u ∈ us,∃ l:List Int,l.length≤3∧Wg K w u l:=by
 obtain⟨A,c,rfl,_,_,hn,h3⟩:=h;rcases Nat.eq_zero_or_pos n with rfl|h0
 ·rcases A with _|a
  ·obtain rfl:=hn rfl;exact⟨[],rfl,.inl ⟨rfl,rfl,rfl⟩,by simp⟩
  ·exact⟨[],rfl,.inr ⟨a,c,rfl,fun j u hu=>by simp at hu⟩,by simp⟩
 ·obtain⟨g,o,rfl,_,hc⟩:=h3 h0;have hu:∀ j,j<n→∃ u,w.cell? ⟨g,o+j,none⟩=some u∧∃ l:List Int,l.length≤3∧Wg K w u l:=fun j hj=>by
   obtain⟨u,k1,k2⟩:=hc j 0 hj (by omega);exact⟨u,by simpa using k1,k2⟩
  refine⟨(List.range n).map fun j=>(w.cell? ⟨g,o+j,none⟩).getD undef,by simp,.inr ⟨_,c,rfl,fun j u hju=>?_⟩,fun u hu'=>?_⟩
  ·rw[List.getElem?_map]at hju;rcases Nat.lt_or_ge j n with hj|hj
   ·obtain⟨u',k1,_⟩:=hu j hj;rw[List.getElem?_range hj]at hju;simp only[Option.map_some,k1,Option.getD_some,Option.some.injEq]at hju;rw[Addr.add_lit,k1,hju]
   ·rw[List.getElem?_eq_none (by simpa using hj)]at hju;cases hju
  ·obtain⟨j,hj,rfl⟩:=List.mem_map.1 hu';obtain⟨u',k1,k2⟩:=hu j (List.mem_range.1 hj);rw[k1];exact k2
end
section
open Go.RowKit
set_option maxHeartbeats 2000000
set_option maxRecDepth 100000
def wgt (x:St):Nat:=x.s.length+x.c.length+100 * x.left.toNat
def Uq (x x':St) (ht d:Nat):Prop:=ht≤x'.s.length∧wgt x'≤wgt x+d∧x'.nl=x.nl∧0≤x'.left∧x'.left≤x.left
theorem Uq.trans {x y z:St} {a b d e:Nat} (h:Uq x y a d) (k:Uq y z b e):Uq x z b (d+e):=by
 obtain⟨_,h2,h3,h4,h5⟩:=h;obtain⟨k1,k2,k3,k4,k5⟩:=k;exact⟨k1,by omega,k3.trans h3,k4,by omega⟩
theorem V3.grew {x y:St} {ht d:Nat} (h:V3 x y ht d) (hl:0≤x.left):Uq x y ht d:=by
 obtain⟨h1,h2,h3,h4⟩:=h;exact⟨h1,by unfold wgt;rw[h4];omega,h3,by rw[h4];exact hl,by rw[h4];exact Int.le_refl _⟩
theorem most_of_wgt {x:St} {B:Nat} (h:wgt x≤B):Vs x B:=by unfold wgt at h;unfold Vs;omega
def GrewPost (F:Fx) (w:World) (x:St) (ht d:Nat) (e:Ending) (w':World):Prop:=∃ b:Bool,e=.returned (.bool b)∧∃ x',WD F w' x'∧Wv F w x w' x'∧Uq x x' ht d
def OneOk (F:Fx) (L:Int):Prop:=∀ (w:World) (x:St) (ht:Nat),WD F w x→ht≤x.s.length→0<x.nl→x.nl≤8→0≤x.left→x.left≤L→wgt x≤799900→(∃ q,F.o=some q∧q.length≤x.nl) →
 Calls Tryz.prog 25 #[.pointer (some ⟨F.G,0,none⟩),.int .i64 (ht:Int)] w (GrewPost F w x ht 100)
def BodyOk (F:Fx) (L:Int):Prop:=∀ (w:World) (x:St) (ht n:Nat),WD F w x→ht≤x.s.length→0<x.nl→x.nl≤8→0≤x.left→x.left≤L→wgt x≤800000→(∃ q,F.o=some q∧q.length≤x.nl)→n≤1000 →
 Calls Tryz.prog 12 #[.pointer (some ⟨F.G,0,none⟩),.int .i64 (ht:Int),.int .i64 (n:Int)] w (GrewPost F w x ht 0)
theorem WD.setLeft {F:Fx} {w:World} {x:St} (h:WD F w x) (l:Int):WD F (w.setCell ⟨F.G,15,none⟩ (.int .i64 l)) { x with left:=l }∧Wv F w x (w.setCell ⟨F.G,15,none⟩ (.int .i64 l)) { x with left:=l } :=
 h.store (.refl _ _) 15 _ (by rfl) rfl h.so h.sp h.co h.cp (fun _ hp=>.inl hp) h.reads
theorem body_of_one {F:Fx} {L:Int} (hone:OneOk F (L - 1)) (hL:L≤1000):BodyOk F L:=by
 intro w x ht n h hh hn hn8 hl0 hlL hw hqn hn1;have HONE:=hD hone;have H:=hD h;have HR:=hD (show Uq x x ht 0 from ⟨hh,nR _,rfl,hl0,Int.le_refl _⟩);have HX:=hD (And.intro hn (And.intro hn8 (And.intro hlL hw)));have HQN:=hD hqn;clear hone h hh hn hn8 hl0 hlL hw hqn;go_enter Tryz.func12,Tryz.ntmps12;go_wp2_with fail
 go_loopw [7] (fun i wr=>∃ (k:Nat) (y:St),k≤n∧i=.int .i64 (k:Int)∧Hid (WD F wr y)∧Hid (Wv F w x wr y)∧Hid (Uq x y ht 0)) (fun i _=>n - (intOf i).toNat)
 case atStart=>exact⟨0,x,nZ _,rfl,H,hD (Wv.refl _ _ _),HR⟩
 case round =>
  clear H HR;obtain⟨k,y,hk,rfl,HY,HSY,HRY⟩:=hrel;have c15:=HY.out.c15;have f15:=HY.out.frozen 15;by_cases hlt:k<n
  ·have hd:decide ((k:Int)<(n:Int))=true:=by simp;omega
   by_cases hl:0<y.left
   ·have hd2:decide (0<y.left)=true:=by simpa using hl
    have hll:y.left≤1000:=by have h1:=HRY.out.2.2.2.2;have h2:=HX.out.2.2.1;omega
    have e1:IntKind.i64.wrap (y.left - 1)=y.left - 1:=IntWalk.i64_in _ (by omega);have HSET:=hD (HY.out.setLeft (y.left - 1));have HC:=hD (fun (wz:World) (hz:WD F wz { y with left:=y.left - 1 })=>HONE.out wz { y with left:=y.left - 1 } ht hz HRY.out.1 (by show 0<y.nl;rw[HRY.out.2.2.1];exact HX.out.1) (by show y.nl≤8;rw[HRY.out.2.2.1];exact HX.out.2.1) (by show 0≤y.left - 1;omega)
     (by show y.left - 1≤L - 1;have h1:=HRY.out.2.2.2.2;have h2:=HX.out.2.2.1;omega) (by have h1:=HRY.out.2.1;have h2:=HX.out.2.2.2;unfold wgt at *;show y.s.length+y.c.length+100 * (y.left - 1).toNat≤_;omega) (by obtain⟨q,hq1,hq2⟩:=HQN.out;exact⟨q,hq1,by show _≤y.nl;rw[HRY.out.2.2.1];exact hq2⟩))
    go_wp2_with fail
    go_at_call 25;refine(HC.out _ HSET.out.1).mono ?_;rintro e w2 ⟨b,rfl,x2,hg2,hs2,hr2⟩;have H2:=hD hg2;have HS2:=hD (HSY.out.trans (HSET.out.2.trans hs2));have HR2:Hid (Uq x x2 ht 0):=by
     obtain⟨a1,a2,a3,a4,a5⟩:=HRY.out;obtain⟨b1,b2,b3,b4,b5⟩:=hr2;refine⟨b1,?_,b3.trans a3,b4,?_⟩
     ·unfold wgt at *;have e:({ y with left:=y.left - 1 }:St).left=y.left - 1:=rfl;rw[e]at b2;show _≤_;have e2:({ y with left:=y.left - 1 }:St).s=y.s:=rfl;have e3:({ y with left:=y.left - 1 }:St).c=y.c:=rfl;rw[e2,e3]at b2;omega
     ·have:x2.left≤y.left - 1:=b5;omega
    clear hg2 hs2 hr2 HSET HC HY HSY HRY c15 f15;cases b
    case' true =>
     go_wp2;go_roundw
     case rel=>exact⟨k+1,x2,by omega,by go_num,H2,HS2,HR2⟩
     case measure=>simp[intOf];omega
    case' false =>
     go_wp2;go_ret;exact⟨_,rfl,_,H2.out,HS2.out,HR2.out⟩
   ·have hd2:decide (0<y.left)=false:=by simpa using hl
    go_wp2;go_ret;exact⟨_,rfl,_,HY.out,HSY.out,HRY.out⟩
  ·have hd:decide ((k:Int)<(n:Int))=false:=by simp;omega
   go_wp2;go_ret;exact⟨_,rfl,_,HY.out,HSY.out,HRY.out⟩
end
end Go.Proofs.YtepgopnnaeoolaaGreatDoor
