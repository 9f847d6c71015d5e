/-
  Proved: for every slice of ints and every slice of turns CheckMade returns true and its arguments read as before, where the one package-level table that the row lists reads as the program's text lays it (tied by the card); no other condition.
-/
import Derived.Test.YtepgopnnaeoolaaGreatDoorCards
import Derived.Test.YtepgopnnaeoolaaGreatDoorTie
import Derived.ChangeMaps5
import Derived.SevenTiedAt
import Derived.Test.YtepgopnnaeoolaaGreatDoorJ53
import Derived.Test.YtepgopnnaeoolaaGreatDoorJ51
import Derived.Test.YtepgopnnaeoolaaGreatDoorJ52
namespace Go.Proofs.YtepgopnnaeoolaaGreatDoor
open Go.ChangeShapes Go.WideShapes Go.ChangeAt Go.RowKit
set_option maxRecDepth 100000
set_option linter.unusedVariables false
theorem checkMade_lifted (os:Os) (started:os.Started) (H:Type) (enc:TypeId×Value→H) :
 ReturnsInHanded {} Tryz.checked os 3 .any (fun w args=>(Rows.checkMadeSpec.pre enc Tryz.prog Tryz.f3 [] false w args∧laidMetH Tryz.prog laidL w)∧sizedMet enc Tryz.prog Tryz.f3 (OpenSpec.ofChange Rows.checkMadeSpec) false w args)
  (Rows.checkMadeSpec.post enc Tryz.prog Tryz.f3 false true false false):=by
 refine returnsInHanded_of_change_and (C:=Tryz.checked) (X:=fun w _=>laidMetH Tryz.prog laidL w) (fun _ _ _ hh h=>h.of_heap hh) ownL started (by kernel_rfl) Tryz.func3
  (ChangeSpec.witness_shaped (enc:=enc) (C:=Tryz.checked) (os:=os) (X:=fun w _=>laidMetH Tryz.prog laidL w) false (World.doorLaid Tryz.prog 14 os) #[.slice none 0 0,.slice none 0 0] 8 rfl (World.shaped_of_RefB (by kernel_rfl) (by kernel_rfl)) (by kernel_rfl) (by kernel_rfl) (by kernel_rfl) (door_met os _)) ?_
 intro W base args ds gs before hval0 hW _ hz hL _;have hval:∀ (j:Nat) t v,Tryz.f3.params[j]?=some t→args[j]?=some v→Value.okWide Tryz.prog W .any base t v:=hval0;have hW':=hW;obtain⟨p,q,hA0,hV,rfl,hfz,hnd⟩:=hW;have hA:DataW.TrodAll enc Tryz.prog W 0 (fun _=>true) true Tryz.f3.params.toList args.toList ds p:=hA0;rw[Tryz.params3]at hA hval hz;obtain⟨v0,vs0,d0,ds0,p0,q0,hargs,rfl,rfl,h0,r0⟩:=trodAll_cons hA;obtain⟨v1,vs1,d1,ds1,p1,q1,rfl,rfl,rfl,h1,r1⟩:=trodAll_cons r0;obtain⟨rfl,rfl,rfl⟩:=trodAll_nil r1;obtain rfl:args=#[v0,v1]:=by cases args;simp_all
 obtain⟨rfl,rfl⟩:=trodVars_none hV;have h0k:=h0;obtain⟨l0,hi0,hb0⟩:=open_intsK (hval 0 22 v0 rfl rfl) h0;have h1k:=h1;have hz1:Fits 23 d1:=fun n hn=>of_decide_eq_true (List.all_eq_true.1 hz n (DataW.weights_mem_each (j:=1) (t:=23) (d:=d1) rfl rfl n hn));obtain⟨l1,hi1⟩:=open_turns (hval 1 23 v1 rfl rfl) h1 hz1;have ht:=tab_of_laid hL;clear hA0 hval0;simp only[List.append_nil]at hW';refine(made_walk W ht v0 l0 hi0 v1 l1 hi1).mono fun e W' ⟨he,hg⟩=>?_;subst he;exact⟨_,rfl,_,_,_,[],_,[],hW',trodAll_mk1 (shut_bool Tryz.underlying4 _),trodAll_cons_mk (Below.trod Tryz.laidOutAll (by kernel_rfl) (of_decide_eq_true (by kernel_rfl)) h0k hg (fun x hx=>hW'.lt x (by simp[hx]))) (trodAll_cons_mk (Below.trod Tryz.laidOutAll (by kernel_rfl) (of_decide_eq_true (by kernel_rfl)) h1k hg (fun x hx=>hW'.lt x (by simp[hx]))) (trodAll_mk0)),rfl,hg.frame _,fun h=>by cases h⟩
theorem checkMade_row:Rows.CheckMadeSaid :=
 OpenClaim.holds_of_wide 3 Tryz.f3 rfl rfl rfl rfl rfl rfl rfl ⟨rfl,rfl,rfl,rfl,rfl⟩ rfl rfl rfl rfl rfl (by kernel_rfl) Tryz.func3 (by kernel_rfl)
  (of_decide_eq_true (by kernel_rfl)) (by unfold Func.isWrapper;first|(rw[if_pos (by decide +kernel)];kernel_rfl)|(rw[if_neg (by decide +kernel)];exact⟨rfl,rfl⟩))
  (fun os started H enc _=>checkMade_lifted os started H enc)
theorem checkMade_proved:Rows.CheckMadeCardSaid :=
 Claim7.holds_tied_plain_at .later [] [.data] true Rows.checkMadeCard.stood.harness false
  checkMade_row (fun _ h=>by cases h) (by kernel_rfl) (fun _ h=>by cases h) checkMade_row_tie rfl ⟨rfl,rfl⟩ (by kernel_rfl) rfl
  (fun f fn hf hfn=>by
   obtain rfl:f=3:=Option.some.inj ((show Tryz.prog.funcNamed "plainsong/plainsonglaw10.CheckMade"=some 3 by kernel_rfl).symm.trans hf) |>.symm;obtain rfl:fn=Tryz.f3:=(Option.some.inj (Tryz.func3.symm.trans hfn)).symm;exact⟨by kernel_rfl,fun j t ht=>by
    rw[Tryz.params3]at ht;have hm:t ∈ [22,23]:=by simpa using Array.mem_of_getElem? ht
    have hall:([22,23].all fun u=>!Tryz.prog.wantsStandIn u)=true:=by kernel_rfl
    exact(show Tryz.prog.wantsStandIn t=false by simpa using List.all_eq_true.1 hall t hm)⟩)
  (by kernel_rfl)
#print axioms checkMade_proved
end Go.Proofs.YtepgopnnaeoolaaGreatDoor
