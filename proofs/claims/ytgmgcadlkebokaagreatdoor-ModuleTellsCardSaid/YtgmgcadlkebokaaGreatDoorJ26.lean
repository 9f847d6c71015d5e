/- A part of the proof. -/
import Derived.Test.YtgmgcadlkebokaaGreatDoorJ7
namespace Go.Proofs.YtgmgcadlkebokaaGreatDoor
open Go.RowKit
theorem known_num (op:Int) (h:WR op=true) (w:World):Calls Tryz.prog 29 #[.int .i64 op] w (Wj true w):=by
 have A:=fun w=>numeric_any op w;rw[h]at A;have HA:=hD A;clear A h;go_enter Tryz.func29,Tryz.ntmps29;go_wp2_with (go_at_call 79;refine(HA.out _).mono ?_;rintro e w' ⟨rfl,rfl⟩)
 go_ret;exact⟨rfl,bR _ _⟩
theorem known_opens (op:Int) (h:WR op=false) (ho:VI op=true) (w:World):Calls Tryz.prog 29 #[.int .i64 op] w (Wj true w):=by
 have A:=fun w=>numeric_any op w;have B:=fun w=>opens_any op w;rw[h]at A;rw[ho]at B;have HA:=hD A;have HB:=hD B;clear A B h ho;go_enter Tryz.func29,Tryz.ntmps29;go_wp2_with (first|(go_at_call 79;refine(HA.out _).mono ?_;rintro e w' ⟨rfl,rfl⟩)|(go_at_call 80;refine(HB.out _).mono ?_;rintro e w' ⟨rfl,rfl⟩))
 go_ret;exact⟨rfl,bR _ _⟩
theorem known_const (op:Int) (h:WR op=false) (ho:VI op=false) (hc:(VS op != 0)=true) (w:World):Calls Tryz.prog 29 #[.int .i64 op] w (Wj true w):=by
 have A:=fun w=>numeric_any op w;have B:=fun w=>opens_any op w;have C:=fun w=>const_any op w;rw[h]at A;rw[ho]at B;rw[hc]at C;have HA:=hD A;have HB:=hD B;have HC:=hD C;clear A B C h ho hc;go_enter Tryz.func29,Tryz.ntmps29;go_wp2_with (first|(go_at_call 79;refine(HA.out _).mono ?_;rintro e w' ⟨rfl,rfl⟩)|(go_at_call 80;refine(HB.out _).mono ?_;rintro e w' ⟨rfl,rfl⟩)|(go_at_call 81;refine(HC.out _).mono ?_;rintro e w' ⟨rfl,rfl⟩))
 go_ret;exact⟨rfl,bR _ _⟩
theorem known_acc (op:Int) (h:WR op=false) (ho:VI op=false) (hc:(VS op != 0)=false) (ha:(VV op).2.2.2=true) (w:World):Calls Tryz.prog 29 #[.int .i64 op] w (Wj true w):=by
 have A:=fun w=>numeric_any op w;have B:=fun w=>opens_any op w;have C:=fun w=>const_any op w;have D:=fun w=>access_any op w;rw[h]at A;rw[ho]at B;rw[hc]at C;generalize VV op=p at D ha;obtain⟨x,y,z,d⟩:=p;replace ha:d=true:=ha;subst ha;have HA:=hD A;have HB:=hD B;have HC:=hD C;have HD:=hD D;clear A B C D h ho hc;go_enter Tryz.func29,Tryz.ntmps29;go_wp2_with (first|(go_at_call 79;refine(HA.out _).mono ?_;rintro e w' ⟨rfl,rfl⟩)|(go_at_call 80;refine(HB.out _).mono ?_;rintro e w' ⟨rfl,rfl⟩)|(go_at_call 81;refine(HC.out _).mono ?_;rintro e w' ⟨rfl,rfl⟩)|(go_at_call 82;refine(HD.out _).mono ?_;rintro e w1 ⟨rfl,hb⟩))
 go_ret;exact⟨rfl,hb⟩
theorem known_rest (op:Int) (h:WR op=false) (ho:VI op=false) (hc:(VS op != 0)=false) (ha:(VV op).2.2.2=false) (w:World):Calls Tryz.prog 29 #[.int .i64 op] w (Wj (restL.contains op) w):=by
 have A:=fun w=>numeric_any op w;have B:=fun w=>opens_any op w;have C:=fun w=>const_any op w;have D:=fun w=>access_any op w;have E:=fun (g:Nat) (w1:World) hg=>contains_any g 23 23 restL op rfl (by omega) w1 hg;rw[h]at A;rw[ho]at B;rw[hc]at C;generalize VV op=p at D ha;obtain⟨x,y,z,d⟩:=p;replace ha:d=false:=ha;subst ha;generalize restL.contains op=r at E;have HA:=hD A;have HB:=hD B;have HC:=hD C;have HD:=hD D;have HE:=hD E;clear A B C D E h ho hc;go_enter Tryz.func29,Tryz.ntmps29;go_wp2_with (first|(go_at_call 79;refine(HA.out _).mono ?_;rintro e w' ⟨rfl,rfl⟩)|(go_at_call 80;refine(HB.out _).mono ?_;rintro e w' ⟨rfl,rfl⟩)|(go_at_call 81;refine(HC.out _).mono ?_;rintro e w' ⟨rfl,rfl⟩)|(go_at_call 82;refine(HD.out _).mono ?_;rintro e w1 ⟨rfl,hb⟩))
 refine(HE.out w1.heap.size _ (fun j hj=>new_cells w1 3 restL j hj)).mono ?_;rintro e w' ⟨rfl,rfl⟩;go_wp2;go_ret;exact⟨rfl,hb.alloc hb.size _⟩
theorem known_any (op:Int) (w:World):Calls Tryz.prog 29 #[.int .i64 op] w (Wj (WY op) w):=by
 cases h:WR op with
 | true=>rw[show WY op=true by unfold WY;rw[h];rfl];exact known_num op h w
 | false =>
  cases ho:VI op with
  | true=>rw[show WY op=true by unfold WY;rw[h,ho];rfl];exact known_opens op h ho w
  | false =>
   cases hc:VS op != 0 with
   | true=>rw[show WY op=true by unfold WY;rw[h,ho,hc];rfl];exact known_const op h ho hc w
   | false =>
    cases ha:(VV op).2.2.2 with
    | true=>rw[show WY op=true by unfold WY;rw[h,ho,hc,ha];rfl];exact known_acc op h ho hc ha w
    | false=>rw[show WY op=restL.contains op by unfold WY;rw[h,ho,hc,ha];simp];exact known_rest op h ho hc ha w
end Go.Proofs.YtgmgcadlkebokaaGreatDoor
