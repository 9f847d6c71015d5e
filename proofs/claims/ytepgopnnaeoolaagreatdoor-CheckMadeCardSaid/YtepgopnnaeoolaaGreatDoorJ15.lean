/- A part of the proof. -/
import Derived.Test.YtepgopnnaeoolaaGreatDoorJ14
namespace Go.Proofs.YtepgopnnaeoolaaGreatDoor
open Go.RowKit
set_option maxHeartbeats 2000000
set_option maxRecDepth 100000
theorem ZbZ {P:Prop}(h:P:=by
 rcases hat with h|h
 ·exact HB.out g (h ▸ hg)
 ·have e:=h.symm.trans hg;simp at e;have:=hb.size;omega):P:=h
theorem UB.ints {w:World} {v:Value} {l:List Int} (h:UB w v l):Wg (fun k=>k<w.heap.size) w v l:=by
 rcases h with ⟨rfl,rfl⟩|⟨g,cap,rfl,h1,h2,h3,h4⟩
 ·exact Wg.nil _ _
 ·exact⟨_,cap,rfl,by unfold maxLen;omega,(fun h=>by cases h),fun _=>⟨g,0,rfl,h1,fun j hj=>by rw[Nat.zero_add];exact h4 j hj⟩⟩
theorem RowNew.ints {w w':World} {v:Value} {l:List Int} (h:RowNew w w' v l):Wg (fun k=>w.heap.size≤k∧k<w'.heap.size) w' v l:=by
 rcases h.1 with ⟨rfl,rfl⟩|⟨g,cap,rfl,h1,h2,h3,h4⟩
 ·exact Wg.nil _ _
 ·exact⟨_,cap,rfl,by unfold maxLen;omega,(fun h=>by cases h),fun _=>⟨g,0,rfl,⟨h.2 g rfl,h1⟩,fun j hj=>by rw[Nat.zero_add];exact h4 j hj⟩⟩
theorem owns_ints_at {K:Nat→Prop} {w:World} {base:Nat} {e:TypeId} {v:Value} {l:List Int} (h:w.ownsRow base e 1 v l.length (l.map (Value.int .i64))) (hl:l.length≤1000000) (hK:∀ g,v.ownBlock=some g→g<w.heap.size→K g):Wg K w v l:=by
 rcases h.2 with ⟨rfl,h0⟩|⟨g,cap,cur,rfl,_⟩
 ·obtain rfl:l=[]:=List.eq_nil_of_length_eq_zero h0;exact Wg.nil _ _
 ·refine⟨_,cap,rfl,by unfold maxLen;omega,(fun h=>by cases h),fun _=>⟨g,0,rfl,hK g rfl (h.lt g rfl).2,fun j hj=>?_⟩⟩;rw[Nat.zero_add,h.cellAt j (by rw[Nat.mul_one];exact hj)];simp[hj]
def OpsPost (w:World) (e:Ending) (w':World):Prop:=∃ (v:Value) (l:List Int),e=.returned v∧Wg (fun k=>w.heap.size≤k∧k<w'.heap.size) w' v l∧0<l.length∧l.length≤200∧(∀ t ∈ l,69≤t∧okB t 0 0 0 []=true)∧Below w.heap.size w w'
theorem ops_any (w:World):Calls Tryz.prog 45 #[] w (OpsPost w):=by
 go_enter Tryz.func45,Tryz.ntmps45;go_wp2_with fail
 go_loopw [1,2,3,4,5] (fun l i _ _ _ wr=>∃ (k:Nat) (xs:List Int),k≤128∧i=.int .i64 (69+(k:Int))∧Hid (wr.ownsRow 0 3 1 l xs.length (xs.map (Value.int .i64)))∧Hid (∀ g,l.ownBlock=some g→w.heap.size≤g)∧xs.length≤k∧Hid (∀ t ∈ xs,69≤t∧okB t 0 0 0 []=true)∧Below w.heap.size w wr) (fun _ i _ _ _ _=>128 - (intOf i - 69).toNat)
 case atStart=>exact⟨0,[],nZ _,by simp,hD (World.ownsRow_nil _ _ _ _),hD (fun g h=>by cases h),by simp,hD (by simp),bR _ _⟩
 case round =>
  obtain⟨k,xs,hk,rfl,HO,HB,hx,HX,hb⟩:=hrel;obtain⟨Al,cl,rfl⟩:=Wc HO.out;by_cases hlt:k<128
  ·have hd:decide (69+(k:Int)≤196)=true:=by simp;omega
   have HR:=hD (rnum_any (69+(k:Int)) wr);unfold Wz at HR;have HNB:=hD (num_ok (69+(k:Int)));generalize WI (69+(k:Int))=bb at HR HNB;go_wp2_with fail
   go_at_call 46;refine HR.out.mono ?_;rintro e w1 ⟨p,q,rfl,hp,hq,hb1⟩;obtain⟨ap,np,cp,rfl⟩:=hp.slice;obtain⟨aq,nq,cq,rfl⟩:=hq.slice;have HO1:=hD (Vi HO.out hb1);replace hb:=Wa hb hb1;clear hp hq hb1 HR HO;cases bb
   case' true =>
    go_wp2_with (at_builtin;(refine Wl rfl (.tmp 17) (.tmp 19) 22 3 rfl _ 1 8 Tryz.underlying22 Tryz.infoInt rfl (by decide) (by decide) _ xs.length (xs.map (Value.int .i64)) (by rfl) (HO1.out.alloc _) _ 1 [.int .i64 (69+(k:Int))] (by rfl) (by rfl) (WS w1 _ _ 1 1) (WP [69+(k:Int)]) (by omega) ?_;intro v' w' hown hgr hat))
    have hb2:=(hb.alloc hb.size (.cells #[.int .i64 (69+(k:Int))] 3)).grown hgr (Nat.le_trans hb.size (by simp)) HB.out;have hnew:∀ g,v'.ownBlock=some g→w.heap.size≤g:=fun g hg=>by
     exact ZbZ
    go_roundw
    case rel=>exact⟨k+1,xs++[69+(k:Int)],by omega,by simp;omega,hD (by rw[List.length_append,List.map_append];exact hown),hD hnew,by simp;omega,hD (fun t ht=>by
     rcases List.mem_append.1 ht with h|h
     ·exact HX.out t h
     ·obtain rfl:=List.mem_singleton.1 h;exact⟨by omega,HNB.out trivial⟩),hb2⟩
    case measure=>simp[intOf];omega
   case' false =>
    go_wp2;go_roundw
    case rel=>exact⟨k+1,xs,by omega,by simp;omega,HO1,HB,by omega,HX,hb⟩
    case measure=>simp[intOf];omega
  ·obtain rfl:k=128:=by omega
   go_wp2_with (at_builtin;refine Wl rfl (.tmp 21) (.tmp 22) 22 3 rfl _ 1 8 Tryz.underlying22 Tryz.infoInt rfl (by decide) (by decide) _ xs.length (xs.map (Value.int .i64)) (by rfl) (HO.out.alloc _) _ 11 ([64514,64515,64518,64519,192,193,194,195,196,64514,64518].map (Value.int .i64)) (by rfl) (by rfl) (WS wr _ _ 11 11) (WP _) (by omega) ?_;intro v' w' hown hgr hat)
   have hb2:=(hb.alloc hb.size (.cells #[.int .i64 64514,.int .i64 64515,.int .i64 64518,.int .i64 64519,.int .i64 192,.int .i64 193,.int .i64 194,.int .i64 195,.int .i64 196,.int .i64 64514,.int .i64 64518] 3)).grown hgr (Nat.le_trans hb.size (by simp)) HB.out;go_ret;refine⟨_,xs++[64514,64515,64518,64519,192,193,194,195,196,64514,64518],rfl,?_,by simp,by simp;omega,fun t ht=>?_,hb2⟩
   ·refine owns_ints_at (base:=0) (e:=3) ?_ (by simp;omega) (fun g hg hlt=>⟨?_,hlt⟩)
    ·rw[List.length_append,List.map_append];exact hown
    ·exact ZbZ
   ·rcases List.mem_append.1 ht with h|h
    ·exact HX.out t h
    ·exact(show ∀ t ∈ ([64514,64515,64518,64519,192,193,194,195,196,64514,64518]:List Int),69≤t∧okB t 0 0 0 []=true by decide +kernel) t h
end Go.Proofs.YtepgopnnaeoolaaGreatDoor
