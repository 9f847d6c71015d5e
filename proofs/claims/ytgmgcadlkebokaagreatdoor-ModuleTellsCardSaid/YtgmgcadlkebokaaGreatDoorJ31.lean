/- A part of the proof. -/
import Derived.Test.YtgmgcadlkebokaaGreatDoorJ29
import Derived.Test.YtgmgcadlkebokaaGreatDoorJ3
namespace Go.Proofs.YtgmgcadlkebokaaGreatDoor
section
open Go.RowKit
set_option maxRecDepth 100000
theorem Z9 {P:Prop}(h:P:=by
 have HE:=hD (cln_end hg1 ho1 hat1);clear ho1 hg1 hat1;go_ret;exact HE.out):P:=h
theorem run_append_fit (w:World) (t ty e:TypeId) (z:Value) (size bytes:Nat) (ht:Tryz.prog.underlying t=some (.slice e)) (hinfo:(Tryz.prog.info? e).map (fun i=>(i.zero,i.size,i.bytes))=some (some z,size,bytes))
 (hzs:z.cells.size=size) (hsz:0<size) (v:Value) (n:Nat) (xs:List Value) (hown:w.ownsRow 0 e size v n xs) (src:Value) (m:Nat) (news:List Value) (hl:news.length=m * size) (hsrc:Vm w src m news)
 (h1:∀ u ∈ news,u.oneCell'=true) (hnm:(n+m) * bytes≤140737488355328) (hb:0<bytes) :
 ∃ v' w',(Builtin.append_ #[t,t] ty #[v,src]).run Tryz.prog w=.ok v' w'∧w'.ownsRow 0 e size v' (n+m) (xs++news)∧w.grownBy w' v.ownBlock∧(v'.ownBlock=v.ownBlock∨v'.ownBlock=some w.heap.size):=by
 obtain⟨i0,hi,hz0,hz1,hz2⟩:=info_parts hinfo;rcases hsrc with ⟨rfl,rfl,rfl⟩|⟨a,c,rfl,hcell⟩
 ·exact Zbu
 ·have hle:n+m≤140737488355328:=Nat.le_trans (Nat.le_mul_of_pos_right _ hb) hnm;obtain⟨v',w',hr,h2,h3,_,h5⟩:=run_append_own_at (P:=Tryz.prog) w 0 t ty e i0 z size bytes ht hi hz0 hz1 hz2 hzs hsz v n xs hown a m c news hl hcell h1 (by unfold maxLen;omega) hnm (nZ _);exact⟨v',w',hr,h2,h3,h5⟩
theorem WM {ops:Array Oper} {rest:List Oper} {o:Oper} {a:Act} {w:World} {Q:Exit→Act→World→Prop} (hw:Region.wanted o (yielded ops a.tmps)=true) (s x:Operand) (t e:TypeId)
 (ho:o.op=.call { callee:=.builtin .append,args:=#[s,x],argTypes:=#[t,t] }) (z:Value) (size bytes:Nat) (ht:Tryz.prog.underlying t=some (.slice e)) (hinfo:(Tryz.prog.info? e).map (fun i=>(i.zero,i.size,i.bytes))=some (some z,size,bytes))
 (hzs:z.cells.size=size) (hsz:0<size) (hb:0<bytes) (v:Value) (n:Nat) (xs:List Value) (hs:a.eval s=v) (hown:w.ownsRow 0 e size v n xs) (src:Value) (m:Nat) (news:List Value) (hx:a.eval x=src) (hl:news.length=m * size) (hsrc:Vm w src m news)
 (h1:∀ u ∈ news,u.oneCell'=true) (hnm:(n+m) * bytes≤140737488355328)
 (hk:∀ v' w',w'.ownsRow 0 e size v' (n+m) (xs++news)→w.grownBy w' v.ownBlock→(v'.ownBlock=v.ownBlock∨v'.ownBlock=some w.heap.size)→wpList Tryz.prog ops Q rest (a.put o.dst v') w'):wpList Tryz.prog ops Q (o :: rest) a w:=by
 refine BigFrame.wpList_want hw fun K hK=>?_;obtain⟨v',w',hr,h2,h3,h5⟩:=run_append_fit w t o.type e z size bytes ht hinfo hzs hsz v n xs hown src m news hl hsrc h1 hnm hb;exact Zce
def Uj (e0:TypeId) (size n:Nat) (us:List Value) (w:World) (e:Ending) (w':World):Prop :=
 ∃ v,e=.returned v∧(∃ A c,v=.slice A n c)∧w'.ownsRow 0 e0 size v n us∧(∀ g,v.ownBlock=some g→w.heap.size≤g)∧Below w.heap.size w w'
theorem Vm.nil_len {w:World} {n c:Nat} {us:List Value} (h:Vm w (.slice none n c) n us):n=0∧c=0∧us=[]:=by
 rcases h with ⟨h1,h2,h3⟩|⟨a,c',h1,_⟩
 ·simp only[vI]at h1;exact⟨h2,h1.2.2,h3⟩
 ·simp at h1
theorem UQ (e0:TypeId) (size:Nat) (w:World):Uj e0 size 0 [] w (.returned (.slice none 0 0)) w:=⟨_,rfl,⟨_,_,rfl⟩,World.ownsRow_nil _ _ _ _,fun g h=>(by cases h),bR _ _⟩
theorem cln_end {e0:TypeId} {size n:Nat} {us:List Value} {w w1:World} {v1:Value} (hg1:(w.alloc (.cells #[] e0)).grownBy w1 (some w.heap.size)) (ho1:w1.ownsRow 0 e0 size v1 n us) (hat1:v1.ownBlock=some w.heap.size∨v1.ownBlock=some (w.alloc (.cells #[] e0)).heap.size):Uj e0 size n us w (.returned v1) w1:=by
 refine⟨v1,rfl,Wd ho1,ho1,fun g hg=>?_,(UF hg1).to_below fun _ h=>h⟩;rcases hat1 with h1|h1
 ·have:=h1.symm.trans hg;simp only[Option.some.injEq]at this;omega
 ·have:=h1.symm.trans hg;simp only[Option.some.injEq]at this;rw[← this];simp
theorem Tryz.infoC_typ:(Tryz.prog.info? 68).map (fun i=>(i.zero,i.size,i.bytes))=some (some (.agg #[.slice none 0 0,.slice none 0 0]),2,48):=by kernel_rfl
theorem clone_typ (w:World) (A:Option Addr) (n c:Nat) (us:List Value) (hu:Vm w (.slice A n c) n us) (hl:us.length=n * 2) (h1:∀ u ∈ us,u.oneCell'=true) (hn:n * 48≤140737488355328):Calls Tryz.prog 68 #[.slice A n c] w (Uj 68 2 n us w):=by
 rcases A with _|a
 ·obtain⟨rfl,rfl,rfl⟩:=hu.nil_len;clear hu hl h1 hn;have hq:(binOp .eql 27 (.slice none 0 0) (.slice none 0 0)).run Tryz.prog w=.ok (.bool true) w:=by simp[binOp,WG w 27 68 none 0 0 Tryz.underlying27]
  go_enter Tryz.func68,Tryz.ntmps68;go_wp2;go_ret;exact UQ _ _ _
 ·have hq:(binOp .eql 27 (.slice (some a) n c) (.slice none 0 0)).run Tryz.prog w=.ok (.bool false) w:=by simp[binOp,WG w 27 68 (some a) n c Tryz.underlying27]
  have HU:=hD hu;have HL:=hD hl;have H1:=hD h1;clear hu hl h1;go_enter Tryz.func68,Tryz.ntmps68;go_wp2_with (at_builtin;refine WM rfl (.tmp 5) (.tmp 6) 27 68 rfl _ 2 48 Tryz.underlying27 Tryz.infoC_typ rfl (by decide) (by decide) (.slice (some ⟨w.heap.size,0,none⟩) 0 0) 0 [] (by rfl) (World.ownsRow_made w #[] 0 (nZ _) (nZ _) rfl) _ n us (by rfl) HL.out (Wk HU.out (Wg (bR _ _) _)) H1.out (by omega) ?_;intro v1 w1 ho1 hg1 hat1;simp only[Nat.zero_add,List.nil_append]at ho1;obtain⟨B1,d1,rfl⟩:=Wd ho1)
  exact Z9
theorem Tryz.infoC_imp:(Tryz.prog.info? 51).map (fun i=>(i.zero,i.size,i.bytes))=some (some (.agg #[.string ByteArray.empty,.string ByteArray.empty,.int .i64 0]),3,40):=by kernel_rfl
theorem clone_imp (w:World) (A:Option Addr) (n c:Nat) (us:List Value) (hu:Vm w (.slice A n c) n us) (hl:us.length=n * 3) (h1:∀ u ∈ us,u.oneCell'=true) (hn:n * 40≤140737488355328):Calls Tryz.prog 69 #[.slice A n c] w (Uj 51 3 n us w):=by
 rcases A with _|a
 ·obtain⟨rfl,rfl,rfl⟩:=hu.nil_len;clear hu hl h1 hn;have hq:(binOp .eql 28 (.slice none 0 0) (.slice none 0 0)).run Tryz.prog w=.ok (.bool true) w:=by simp[binOp,WG w 28 51 none 0 0 Tryz.underlying28]
  go_enter Tryz.func69,Tryz.ntmps69;go_wp2;go_ret;exact UQ _ _ _
 ·have hq:(binOp .eql 28 (.slice (some a) n c) (.slice none 0 0)).run Tryz.prog w=.ok (.bool false) w:=by simp[binOp,WG w 28 51 (some a) n c Tryz.underlying28]
  have HU:=hD hu;have HL:=hD hl;have H1:=hD h1;clear hu hl h1;go_enter Tryz.func69,Tryz.ntmps69;go_wp2_with (at_builtin;refine WM rfl (.tmp 5) (.tmp 6) 28 51 rfl _ 3 40 Tryz.underlying28 Tryz.infoC_imp rfl (by decide) (by decide) (.slice (some ⟨w.heap.size,0,none⟩) 0 0) 0 [] (by rfl) (World.ownsRow_made w #[] 0 (nZ _) (nZ _) rfl) _ n us (by rfl) HL.out (Wk HU.out (Wg (bR _ _) _)) H1.out (by omega) ?_;intro v1 w1 ho1 hg1 hat1;simp only[Nat.zero_add,List.nil_append]at ho1;obtain⟨B1,d1,rfl⟩:=Wd ho1)
  exact Z9
theorem Tryz.infoC_fnc:(Tryz.prog.info? 64).map (fun i=>(i.zero,i.size,i.bytes))=some (some (.agg #[.int .i64 0,.slice none 0 0,.slice none 0 0]),3,56):=by kernel_rfl
theorem clone_fnc (w:World) (A:Option Addr) (n c:Nat) (us:List Value) (hu:Vm w (.slice A n c) n us) (hl:us.length=n * 3) (h1:∀ u ∈ us,u.oneCell'=true) (hn:n * 56≤140737488355328):Calls Tryz.prog 70 #[.slice A n c] w (Uj 64 3 n us w):=by
 rcases A with _|a
 ·obtain⟨rfl,rfl,rfl⟩:=hu.nil_len;clear hu hl h1 hn;have hq:(binOp .eql 29 (.slice none 0 0) (.slice none 0 0)).run Tryz.prog w=.ok (.bool true) w:=by simp[binOp,WG w 29 64 none 0 0 Tryz.underlying29]
  go_enter Tryz.func70,Tryz.ntmps70;go_wp2;go_ret;exact UQ _ _ _
 ·have hq:(binOp .eql 29 (.slice (some a) n c) (.slice none 0 0)).run Tryz.prog w=.ok (.bool false) w:=by simp[binOp,WG w 29 64 (some a) n c Tryz.underlying29]
  have HU:=hD hu;have HL:=hD hl;have H1:=hD h1;clear hu hl h1;go_enter Tryz.func70,Tryz.ntmps70;go_wp2_with (at_builtin;refine WM rfl (.tmp 5) (.tmp 6) 29 64 rfl _ 3 56 Tryz.underlying29 Tryz.infoC_fnc rfl (by decide) (by decide) (.slice (some ⟨w.heap.size,0,none⟩) 0 0) 0 [] (by rfl) (World.ownsRow_made w #[] 0 (nZ _) (nZ _) rfl) _ n us (by rfl) HL.out (Wk HU.out (Wg (bR _ _) _)) H1.out (by omega) ?_;intro v1 w1 ho1 hg1 hat1;simp only[Nat.zero_add,List.nil_append]at ho1;obtain⟨B1,d1,rfl⟩:=Wd ho1)
  exact Z9
theorem Tryz.infoC_mem:(Tryz.prog.info? 56).map (fun i=>(i.zero,i.size,i.bytes))=some (some (.agg #[.int .i64 0,.int .i64 0]),2,16):=by kernel_rfl
theorem clone_mem (w:World) (A:Option Addr) (n c:Nat) (us:List Value) (hu:Vm w (.slice A n c) n us) (hl:us.length=n * 2) (h1:∀ u ∈ us,u.oneCell'=true) (hn:n * 16≤140737488355328):Calls Tryz.prog 71 #[.slice A n c] w (Uj 56 2 n us w):=by
 rcases A with _|a
 ·obtain⟨rfl,rfl,rfl⟩:=hu.nil_len;clear hu hl h1 hn;have hq:(binOp .eql 30 (.slice none 0 0) (.slice none 0 0)).run Tryz.prog w=.ok (.bool true) w:=by simp[binOp,WG w 30 56 none 0 0 Tryz.underlying30]
  go_enter Tryz.func71,Tryz.ntmps71;go_wp2;go_ret;exact UQ _ _ _
 ·have hq:(binOp .eql 30 (.slice (some a) n c) (.slice none 0 0)).run Tryz.prog w=.ok (.bool false) w:=by simp[binOp,WG w 30 56 (some a) n c Tryz.underlying30]
  have HU:=hD hu;have HL:=hD hl;have H1:=hD h1;clear hu hl h1;go_enter Tryz.func71,Tryz.ntmps71;go_wp2_with (at_builtin;refine WM rfl (.tmp 5) (.tmp 6) 30 56 rfl _ 2 16 Tryz.underlying30 Tryz.infoC_mem rfl (by decide) (by decide) (.slice (some ⟨w.heap.size,0,none⟩) 0 0) 0 [] (by rfl) (World.ownsRow_made w #[] 0 (nZ _) (nZ _) rfl) _ n us (by rfl) HL.out (Wk HU.out (Wg (bR _ _) _)) H1.out (by omega) ?_;intro v1 w1 ho1 hg1 hat1;simp only[Nat.zero_add,List.nil_append]at ho1;obtain⟨B1,d1,rfl⟩:=Wd ho1)
  exact Z9
theorem Tryz.infoC_glob:(Tryz.prog.info? 53).map (fun i=>(i.zero,i.size,i.bytes))=some (some (.agg #[.int .i64 0,.bool false,.int .u64 0]),3,24):=by kernel_rfl
theorem clone_glob (w:World) (A:Option Addr) (n c:Nat) (us:List Value) (hu:Vm w (.slice A n c) n us) (hl:us.length=n * 3) (h1:∀ u ∈ us,u.oneCell'=true) (hn:n * 24≤140737488355328):Calls Tryz.prog 72 #[.slice A n c] w (Uj 53 3 n us w):=by
 rcases A with _|a
 ·obtain⟨rfl,rfl,rfl⟩:=hu.nil_len;clear hu hl h1 hn;have hq:(binOp .eql 31 (.slice none 0 0) (.slice none 0 0)).run Tryz.prog w=.ok (.bool true) w:=by simp[binOp,WG w 31 53 none 0 0 Tryz.underlying31]
  go_enter Tryz.func72,Tryz.ntmps72;go_wp2;go_ret;exact UQ _ _ _
 ·have hq:(binOp .eql 31 (.slice (some a) n c) (.slice none 0 0)).run Tryz.prog w=.ok (.bool false) w:=by simp[binOp,WG w 31 53 (some a) n c Tryz.underlying31]
  have HU:=hD hu;have HL:=hD hl;have H1:=hD h1;clear hu hl h1;go_enter Tryz.func72,Tryz.ntmps72;go_wp2_with (at_builtin;refine WM rfl (.tmp 5) (.tmp 6) 31 53 rfl _ 3 24 Tryz.underlying31 Tryz.infoC_glob rfl (by decide) (by decide) (.slice (some ⟨w.heap.size,0,none⟩) 0 0) 0 [] (by rfl) (World.ownsRow_made w #[] 0 (nZ _) (nZ _) rfl) _ n us (by rfl) HL.out (Wk HU.out (Wg (bR _ _) _)) H1.out (by omega) ?_;intro v1 w1 ho1 hg1 hat1;simp only[Nat.zero_add,List.nil_append]at ho1;obtain⟨B1,d1,rfl⟩:=Wd ho1)
  exact Z9
theorem Tryz.infoC_exp:(Tryz.prog.info? 61).map (fun i=>(i.zero,i.size,i.bytes))=some (some (.agg #[.string ByteArray.empty,.int .i64 0,.int .i64 0]),3,32):=by kernel_rfl
theorem clone_exp (w:World) (A:Option Addr) (n c:Nat) (us:List Value) (hu:Vm w (.slice A n c) n us) (hl:us.length=n * 3) (h1:∀ u ∈ us,u.oneCell'=true) (hn:n * 32≤140737488355328):Calls Tryz.prog 73 #[.slice A n c] w (Uj 61 3 n us w):=by
 rcases A with _|a
 ·obtain⟨rfl,rfl,rfl⟩:=hu.nil_len;clear hu hl h1 hn;have hq:(binOp .eql 32 (.slice none 0 0) (.slice none 0 0)).run Tryz.prog w=.ok (.bool true) w:=by simp[binOp,WG w 32 61 none 0 0 Tryz.underlying32]
  go_enter Tryz.func73,Tryz.ntmps73;go_wp2;go_ret;exact UQ _ _ _
 ·have hq:(binOp .eql 32 (.slice (some a) n c) (.slice none 0 0)).run Tryz.prog w=.ok (.bool false) w:=by simp[binOp,WG w 32 61 (some a) n c Tryz.underlying32]
  have HU:=hD hu;have HL:=hD hl;have H1:=hD h1;clear hu hl h1;go_enter Tryz.func73,Tryz.ntmps73;go_wp2_with (at_builtin;refine WM rfl (.tmp 5) (.tmp 6) 32 61 rfl _ 3 32 Tryz.underlying32 Tryz.infoC_exp rfl (by decide) (by decide) (.slice (some ⟨w.heap.size,0,none⟩) 0 0) 0 [] (by rfl) (World.ownsRow_made w #[] 0 (nZ _) (nZ _) rfl) _ n us (by rfl) HL.out (Wk HU.out (Wg (bR _ _) _)) H1.out (by omega) ?_;intro v1 w1 ho1 hg1 hat1;simp only[Nat.zero_add,List.nil_append]at ho1;obtain⟨B1,d1,rfl⟩:=Wd ho1)
  exact Z9
theorem Tryz.infoC_dat:(Tryz.prog.info? 59).map (fun i=>(i.zero,i.size,i.bytes))=some (some (.agg #[.bool false,.int .i64 0,.int .i64 0,.slice none 0 0]),4,48):=by kernel_rfl
theorem UK (w:World) (A:Option Addr) (n c:Nat) (us:List Value) (hu:Vm w (.slice A n c) n us) (hl:us.length=n * 4) (h1:∀ u ∈ us,u.oneCell'=true) (hn:n * 48≤140737488355328):Calls Tryz.prog 74 #[.slice A n c] w (Uj 59 4 n us w):=by
 rcases A with _|a
 ·obtain⟨rfl,rfl,rfl⟩:=hu.nil_len;clear hu hl h1 hn;have hq:(binOp .eql 33 (.slice none 0 0) (.slice none 0 0)).run Tryz.prog w=.ok (.bool true) w:=by simp[binOp,WG w 33 59 none 0 0 Tryz.underlying33]
  go_enter Tryz.func74,Tryz.ntmps74;go_wp2;go_ret;exact UQ _ _ _
 ·have hq:(binOp .eql 33 (.slice (some a) n c) (.slice none 0 0)).run Tryz.prog w=.ok (.bool false) w:=by simp[binOp,WG w 33 59 (some a) n c Tryz.underlying33]
  have HU:=hD hu;have HL:=hD hl;have H1:=hD h1;clear hu hl h1;go_enter Tryz.func74,Tryz.ntmps74;go_wp2_with (at_builtin;refine WM rfl (.tmp 5) (.tmp 6) 33 59 rfl _ 4 48 Tryz.underlying33 Tryz.infoC_dat rfl (by decide) (by decide) (.slice (some ⟨w.heap.size,0,none⟩) 0 0) 0 [] (by rfl) (World.ownsRow_made w #[] 0 (nZ _) (nZ _) rfl) _ n us (by rfl) HL.out (Wk HU.out (Wg (bR _ _) _)) H1.out (by omega) ?_;intro v1 w1 ho1 hg1 hat1;simp only[Nat.zero_add,List.nil_append]at ho1;obtain⟨B1,d1,rfl⟩:=Wd ho1)
  exact Z9
theorem Tryz.infoC_cus:(Tryz.prog.info? 115).map (fun i=>(i.zero,i.size,i.bytes))=some (some (.agg #[.string ByteArray.empty,.slice none 0 0]),2,40):=by kernel_rfl
theorem Ui (w:World) (A:Option Addr) (n c:Nat) (us:List Value) (hu:Vm w (.slice A n c) n us) (hl:us.length=n * 2) (h1:∀ u ∈ us,u.oneCell'=true) (hn:n * 40≤140737488355328):Calls Tryz.prog 75 #[.slice A n c] w (Uj 115 2 n us w):=by
 rcases A with _|a
 ·obtain⟨rfl,rfl,rfl⟩:=hu.nil_len;clear hu hl h1 hn;have hq:(binOp .eql 34 (.slice none 0 0) (.slice none 0 0)).run Tryz.prog w=.ok (.bool true) w:=by simp[binOp,WG w 34 115 none 0 0 Tryz.underlying34]
  go_enter Tryz.func75,Tryz.ntmps75;go_wp2;go_ret;exact UQ _ _ _
 ·have hq:(binOp .eql 34 (.slice (some a) n c) (.slice none 0 0)).run Tryz.prog w=.ok (.bool false) w:=by simp[binOp,WG w 34 115 (some a) n c Tryz.underlying34]
  have HU:=hD hu;have HL:=hD hl;have H1:=hD h1;clear hu hl h1;go_enter Tryz.func75,Tryz.ntmps75;go_wp2_with (at_builtin;refine WM rfl (.tmp 5) (.tmp 6) 34 115 rfl _ 2 40 Tryz.underlying34 Tryz.infoC_cus rfl (by decide) (by decide) (.slice (some ⟨w.heap.size,0,none⟩) 0 0) 0 [] (by rfl) (World.ownsRow_made w #[] 0 (nZ _) (nZ _) rfl) _ n us (by rfl) HL.out (Wk HU.out (Wg (bR _ _) _)) H1.out (by omega) ?_;intro v1 w1 ho1 hg1 hat1;simp only[Nat.zero_add,List.nil_append]at ho1;obtain⟨B1,d1,rfl⟩:=Wd ho1)
  exact Z9
theorem Tryz.infoC_ins:(Tryz.prog.info? 26).map (fun i=>(i.zero,i.size,i.bytes))=some (some (.agg #[.int .i64 0,.int .i64 0,.int .i64 0,.int .u64 0,.slice none 0 0]),5,56):=by kernel_rfl
theorem clone_ins (w:World) (A:Option Addr) (n c:Nat) (us:List Value) (hu:Vm w (.slice A n c) n us) (hl:us.length=n * 5) (h1:∀ u ∈ us,u.oneCell'=true) (hn:n * 56≤140737488355328):Calls Tryz.prog 111 #[.slice A n c] w (Uj 26 5 n us w):=by
 rcases A with _|a
 ·obtain⟨rfl,rfl,rfl⟩:=hu.nil_len;clear hu hl h1 hn;have hq:(binOp .eql 62 (.slice none 0 0) (.slice none 0 0)).run Tryz.prog w=.ok (.bool true) w:=by simp[binOp,WG w 62 26 none 0 0 Tryz.underlying62]
  go_enter Tryz.func111,Tryz.ntmps111;go_wp2;go_ret;exact UQ _ _ _
 ·have hq:(binOp .eql 62 (.slice (some a) n c) (.slice none 0 0)).run Tryz.prog w=.ok (.bool false) w:=by simp[binOp,WG w 62 26 (some a) n c Tryz.underlying62]
  have HU:=hD hu;have HL:=hD hl;have H1:=hD h1;clear hu hl h1;go_enter Tryz.func111,Tryz.ntmps111;go_wp2_with (at_builtin;refine WM rfl (.tmp 5) (.tmp 6) 62 26 rfl _ 5 56 Tryz.underlying62 Tryz.infoC_ins rfl (by decide) (by decide) (.slice (some ⟨w.heap.size,0,none⟩) 0 0) 0 [] (by rfl) (World.ownsRow_made w #[] 0 (nZ _) (nZ _) rfl) _ n us (by rfl) HL.out (Wk HU.out (Wg (bR _ _) _)) H1.out (by omega) ?_;intro v1 w1 ho1 hg1 hat1;simp only[Nat.zero_add,List.nil_append]at ho1;obtain⟨B1,d1,rfl⟩:=Wd ho1)
  exact Z9
theorem Tryz.infoC_byt:(Tryz.prog.info? 5).map (fun i=>(i.zero,i.size,i.bytes))=some (some (.int .u8 0),1,1):=by kernel_rfl
theorem clone_byt (w:World) (A:Option Addr) (n c:Nat) (us:List Value) (hu:Vm w (.slice A n c) n us) (hl:us.length=n * 1) (h1:∀ u ∈ us,u.oneCell'=true) (hn:n * 1≤140737488355328):Calls Tryz.prog 78 #[.slice A n c] w (Uj 5 1 n us w):=by
 rcases A with _|a
 ·obtain⟨rfl,rfl,rfl⟩:=hu.nil_len;clear hu hl h1 hn;have hq:(binOp .eql 57 (.slice none 0 0) (.slice none 0 0)).run Tryz.prog w=.ok (.bool true) w:=by simp[binOp,WG w 57 5 none 0 0 Tryz.underlying57]
  go_enter Tryz.func78,Tryz.ntmps78;go_wp2;go_ret;exact UQ _ _ _
 ·have hq:(binOp .eql 57 (.slice (some a) n c) (.slice none 0 0)).run Tryz.prog w=.ok (.bool false) w:=by simp[binOp,WG w 57 5 (some a) n c Tryz.underlying57]
  have HU:=hD hu;have HL:=hD hl;have H1:=hD h1;clear hu hl h1;go_enter Tryz.func78,Tryz.ntmps78;go_wp2_with (at_builtin;refine WM rfl (.tmp 5) (.tmp 6) 57 5 rfl _ 1 1 Tryz.underlying57 Tryz.infoC_byt rfl (by decide) (by decide) (.slice (some ⟨w.heap.size,0,none⟩) 0 0) 0 [] (by rfl) (World.ownsRow_made w #[] 0 (nZ _) (nZ _) rfl) _ n us (by rfl) HL.out (Wk HU.out (Wg (bR _ _) _)) H1.out (by omega) ?_;intro v1 w1 ho1 hg1 hat1;simp only[Nat.zero_add,List.nil_append]at ho1;obtain⟨B1,d1,rfl⟩:=Wd ho1)
  exact Z9
theorem Tryz.infoC_int:(Tryz.prog.info? 3).map (fun i=>(i.zero,i.size,i.bytes))=some (some (.int .i64 0),1,8):=by kernel_rfl
theorem clone_int (w:World) (A:Option Addr) (n c:Nat) (us:List Value) (hu:Vm w (.slice A n c) n us) (hl:us.length=n * 1) (h1:∀ u ∈ us,u.oneCell'=true) (hn:n * 8≤140737488355328):Calls Tryz.prog 110 #[.slice A n c] w (Uj 3 1 n us w):=by
 rcases A with _|a
 ·obtain⟨rfl,rfl,rfl⟩:=hu.nil_len;clear hu hl h1 hn;have hq:(binOp .eql 22 (.slice none 0 0) (.slice none 0 0)).run Tryz.prog w=.ok (.bool true) w:=by simp[binOp,WG w 22 3 none 0 0 Tryz.underlying22]
  go_enter Tryz.func110,Tryz.ntmps110;go_wp2;go_ret;exact UQ _ _ _
 ·have hq:(binOp .eql 22 (.slice (some a) n c) (.slice none 0 0)).run Tryz.prog w=.ok (.bool false) w:=by simp[binOp,WG w 22 3 (some a) n c Tryz.underlying22]
  have HU:=hD hu;have HL:=hD hl;have H1:=hD h1;clear hu hl h1;go_enter Tryz.func110,Tryz.ntmps110;go_wp2_with (at_builtin;refine WM rfl (.tmp 5) (.tmp 6) 22 3 rfl _ 1 8 Tryz.underlying22 Tryz.infoC_int rfl (by decide) (by decide) (.slice (some ⟨w.heap.size,0,none⟩) 0 0) 0 [] (by rfl) (World.ownsRow_made w #[] 0 (nZ _) (nZ _) rfl) _ n us (by rfl) HL.out (Wk HU.out (Wg (bR _ _) _)) H1.out (by omega) ?_;intro v1 w1 ho1 hg1 hat1;simp only[Nat.zero_add,List.nil_append]at ho1;obtain⟨B1,d1,rfl⟩:=Wd ho1)
  exact Z9
end
section
open Go.RowKit
def Free (vs:List Value) (w:World) (k:Nat):Prop:=k<w.heap.size∧∀ v ∈ vs,v.ownBlock≠some k
theorem Free.mono {vs:List Value} {w w':World} {k:Nat} (h:Free vs w k) (hs:w.heap.size≤w'.heap.size):Free vs w' k:=⟨WK h.1 hs,h.2⟩
theorem Rows.free_old {w0 w:World} {l:List Ws} (h:Rows w0 w l) {k:Nat} (hk:k<w0.heap.size):Free (l.map Ws.v) w k :=
 ⟨WK hk h.bl.size,fun v hv e=>by
  obtain⟨r,hr,rfl⟩:=List.mem_map.1 hv;have:=h.nw r hr k e;omega⟩
theorem Rows.free_new {w0 w w':World} {l:List Ws} (h:Rows w0 w l) {k:Nat} (h1:w.heap.size≤k) (h2:k<w'.heap.size):Free (l.map Ws.v) w' k :=
 ⟨h2,fun v hv e=>by
  obtain⟨r,hr,rfl⟩:=List.mem_map.1 hv;have:=h.lt hr e;omega⟩
theorem Rows.set {w0 w:World} {e:TypeId} {size g n c:Nat} {xs:List Value} {l:List Ws} (h:Rows w0 w (⟨e,size,.slice (some ⟨g,0,.none⟩) n c,n,xs,true⟩ :: l)) (j:Nat) (u:Value) :
 Rows w0 (w.setCell ⟨g,j,.none⟩ u) (⟨e,size,.slice (some ⟨g,0,.none⟩) n c,n,xs.set j u,true⟩ :: l):=by
 have ha:=List.pairwise_cons.1 h.ap;have hg:w0.heap.size≤g:=h.nw _ (List.mem_cons_self ..) g rfl;have hk:We (fun b=>b≠g) w (w.setCell ⟨g,j,.none⟩ u):=.setCell w (fun e=>e rfl) u;refine⟨h.bl.setCell hg u,fun s hs=>?_,fun s hs=>?_,List.pairwise_cons.2 ⟨fun s hs g' hr hs2=>ha.1 s hs g' hr hs2,ha.2⟩⟩
 ·rcases List.mem_cons.1 hs with rfl|hs
  ·exact Ws.in_.mk rfl (h.head.stored j u).1
  ·exact(h.ow s (List.mem_cons_of_mem _ hs)).keep hk fun g' hg' e=>ha.1 s hs g rfl (e ▸ hg')
 ·rcases List.mem_cons.1 hs with rfl|hs
  ·exact fun g' hg'=>h.nw _ (List.mem_cons_self ..) g' hg'
  ·exact h.nw s (List.mem_cons_of_mem _ hs)
theorem Rows.some_ {w0 w:World} {e:TypeId} {size n:Nat} {v:Value} {xs:List Value} {l:List Ws} (h:Rows w0 w (⟨e,size,v,n,xs,true⟩ :: l)) (hn:0<n):∃ g c,v=.slice (some ⟨g,0,.none⟩) n c∧n≤c∧c≤maxLen:=by
 rcases h.head.2 with ⟨_,h0⟩|⟨g,c,_,h1,_,_,h2,h3,_⟩
 ·have h0:n=0:=h0;omega
 ·exact⟨g,c,h1,h2,h3⟩
def VG (f:Nat→Nat→Value→Prop) (n size:Nat) (us:List Value):Prop:=us.length=n * size∧∀ j i,j<n→i<size→∃ u,us[j * size+i]?=some u∧f j i u
theorem VG.mono {f f':Nat→Nat→Value→Prop} {n size:Nat} {us:List Value} (h:VG f n size us) (hf:∀ j i u,j<n→i<size→f j i u→f' j i u):VG f' n size us :=
 ⟨h.1,fun j i hj hi=>by obtain⟨u,h1,h2⟩:=h.2 j i hj hi;exact⟨u,h1,hf j i u hj hi h2⟩⟩
theorem VG.set {f f':Nat→Nat→Value→Prop} {n size:Nat} {us:List Value} (h:VG f n size us) (k i0:Nat) (hk:k<n) (hi0:i0<size) (u0:Value) (h0:f' k i0 u0) (hf:∀ j i u,j<n→i<size→(j=k→i≠i0)→f j i u→f' j i u):VG f' n size (us.set (k * size+i0) u0):=by
 refine⟨by rw[List.length_set];exact h.1,fun j i hj hi=>?_⟩;by_cases hjk:j=k
 ·subst hjk;by_cases hii:i=i0
  ·subst hii;exact⟨u0,by rw[List.getElem?_set,if_pos rfl,if_pos (by rw[h.1];exact lt_rows hj hi)],h0⟩
  ·obtain⟨u,h1,h2⟩:=h.2 j i hj hi;exact⟨u,by rw[List.getElem?_set,if_neg (by omega)];exact h1,hf j i u hj hi (fun _=>hii) h2⟩
 ·obtain⟨u,h1,h2⟩:=h.2 j i hj hi;exact⟨u,by rw[List.getElem?_set,if_neg (row_ne hi hi0 hjk)];exact h1,hf j i u hj hi (fun e=>absurd e hjk) h2⟩
theorem VG.cells {f:Nat→Nat→Value→Prop} {n size:Nat} {us:List Value} (h:VG f n size us) {K:Nat→Prop} {w:World} {base:Nat} {e:TypeId} {v:Value} (ho:w.ownsRow base e size v n us) (hK:∀ g,v.ownBlock=some g→K g):Wb K w v n size f :=
 Ue ho f hK fun j i hj hi=>h.2 j i hj hi
theorem VG.at_ {f:Nat→Nat→Value→Prop} {n size g c:Nat} {us:List Value} (h:VG f n size us) {w:World} {base:Nat} {e:TypeId} (ho:w.ownsRow base e size (.slice (some ⟨g,0,none⟩) n c) n us) (j i:Nat) (hj:j<n) (hi:i<size):∃ u,w.cell? ⟨g,j * size+i,none⟩=some u∧f j i u:=by
 obtain⟨u,h1,h2⟩:=h.2 j i hj hi;exact⟨u,by rw[ho.cellAt _ (lt_rows hj hi),h1],h2⟩
theorem owns_intsF {w w':World} {e:TypeId} {v:Value} {l:List Int} {n:Nat} (hn:l.length=n) (h:w'.ownsRow 0 e 1 v n (l.map (Value.int .i64))) (hg:∀ g,v.ownBlock=some g→w.heap.size≤g):Wh (fun k=>w.heap.size≤k∧k<w'.heap.size) w' v l:=by
 subst hn;rcases h.2 with ⟨rfl,h0⟩|⟨g,cap,cur,rfl,_,_,h1,h2,_⟩
 ·obtain rfl:l=[]:=List.eq_nil_of_length_eq_zero h0;exact Wh.nil _ _
 ·refine⟨_,cap,rfl,Nat.le_trans h1 h2,(fun h=>by cases h),fun _=>⟨g,0,rfl,⟨hg g rfl,(h.lt g rfl).2⟩,fun j hj=>?_⟩⟩;rw[Nat.zero_add,h.cellAt j (by rw[Nat.mul_one];exact hj)];simp[hj]
theorem WN.plain {K K':Nat→Prop} {w w':World} {x:Ins} {i:Nat} {u:Value} (h:WN K w x i u) (hi:i<4):WN K' w' x i u:=by
 match i,h,hi with
 | 0,h,_=>exact h
 | 1,h,_=>exact h
 | 2,h,_=>exact h
 | 3,h,_=>exact h
theorem Vd (w:World) (cs:Array Value) (t:TypeId):(w.alloc (.cells cs t)).heap[w.heap.size]?=some (.cells cs t (0,0)):=by simp[World.alloc,-World.alloc_eq]
theorem ints_lit (l:List Int) (n:Nat) (h:l.length=n):(l.map (Value.int .i64)).length=n * 1:=by rw[List.length_map,Nat.mul_one,h]
end
section
open Go.RowKit
set_option maxHeartbeats 8000000
set_option maxRecDepth 100000
theorem ZK {P:Prop}(h:P:=by
 have q0:=hR.head.cellAt 0 (show 0<1 * 3 by decide);have q1:=hR.head.cellAt 1 (show 1<1 * 3 by decide);have q2:=hR.head.cellAt 2 (show 2<1 * 3 by decide);have f0:=hR.head.frozenAt 0;have f1:=hR.head.frozenAt 1;have f2:=hR.head.frozenAt 2;simp only[List.getElem?_cons_zero,List.getElem?_cons_succ]at q0 q1 q2;refine Wf.on 10 rfl fun K hK=>?_;go_simp;refine hK.out _ _ (.inl rfl) ?_;clear hK K;try simp only[sA,List.set]
 clear q0 q1 q2 f0 f1 f2;have hR2:=((hR.set 0 (.int .i64 ty)).set 1 (.slice A1 nl c1)).set 2 (.slice A2 nc c2);simp only[List.set]at hR2;refine Wf.done (by kernel_rfl) ?_ _;go_wp2
 go_meet
 exact⟨P,A1,c1,A2,c2,rfl,hD hR2⟩):P:=h
def FncPost (f:Fnc) (w:World) (e:Ending) (w':World):Prop :=
 ∃ lv cv,e=.returned (.agg #[.int .i64 f.ty,lv,cv])∧Wh (fun k=>w.heap.size≤k∧k<w'.heap.size) w' lv f.loc∧WO (fun k=>w.heap.size≤k∧k<w'.heap.size) w' cv f.code∧Below w.heap.size w w'
theorem alloc2_at (w:World) (cs ds:Array Value) (t s:TypeId):((w.alloc (.cells cs t)).alloc (.cells ds s)).heap[w.heap.size]?=some (.cells cs t (0,0))∧((w.alloc (.cells cs t)).alloc (.cells ds s)).heap[w.heap.size+1]?=some (.cells ds s (0,0))∧((w.alloc (.cells cs t)).alloc (.cells ds s)).heap.size=w.heap.size+2:=by
 have h1:=Below.heap_alloc (w.alloc (.cells cs t)) (.cells ds s) w.heap.size (by simp);have h2:(w.alloc (.cells cs t)).heap[w.heap.size]?=some (.cells cs t (0,0)):=Vd w cs t;have h3:((w.alloc (.cells cs t)).alloc (.cells ds s)).heap[(w.alloc (.cells cs t)).heap.size]?=some (.cells ds s (0,0)):=Vd _ ds s;have h4:(w.alloc (.cells cs t)).heap.size=w.heap.size+1:=by simp
 rw[h4]at h3;exact⟨h1.trans h2,h3,by simp⟩
theorem Wz {w:World} {B:Nat} {cs:Array Value} {T:TypeId} (h:w.heap[B]?=some (.cells cs T (0,0))) (j:Nat):w.cell? ⟨B,j,none⟩=cs[j]?:=by simp[World.cell?,h]
theorem Vo {w:World} {B:Nat} {cs:Array Value} {T:TypeId} (h:w.heap[B]?=some (.cells cs T (0,0))) (j:Nat):w.frozen? ⟨B,j,none⟩=false:=by simp[World.frozen?,h]
theorem fill3_at {w:World} {P:Nat} {z0 z1 z2:Value} {T:TypeId} (h:w.heap[P]?=some (.cells #[z0,z1,z2] T (0,0))) (a b c:Value):(((w.setCell ⟨P,0,none⟩ a).setCell ⟨P,1,none⟩ b).setCell ⟨P,2,none⟩ c).heap[P]?=some (.cells #[a,b,c] T (0,0)):=by
 have h0:=Wi w P 0 _ T a h;have h1:=Wi _ P 1 _ T b h0;exact Wi _ P 2 _ T c h1
theorem fill3_keeps (w:World) (P:Nat) (a b c:Value):We (fun k=>k≠P) w (((w.setCell ⟨P,0,none⟩ a).setCell ⟨P,1,none⟩ b).setCell ⟨P,2,none⟩ c) :=
 ((We.setCell w (fun e=>e rfl) a).trans (We.setCell _ (fun e=>e rfl) b)).trans (We.setCell _ (fun e=>e rfl) c)
theorem fill3_below {w0 w:World} {P:Nat} (h:Below w0.heap.size w0 w) (hP:w0.heap.size≤P) (a b c:Value):Below w0.heap.size w0 (((w.setCell ⟨P,0,none⟩ a).setCell ⟨P,1,none⟩ b).setCell ⟨P,2,none⟩ c) :=
 ((h.setCell (by exact hP) _).setCell (by exact hP) _).setCell (by exact hP) _
theorem copyFunc_any (K:Nat→Prop) (w:World) (hK:∀ k,K k→k<w.heap.size) (lv cv:Value) (f:Fnc) (hl:Wh K w lv f.loc) (hc:WO K w cv f.code) (hb1:f.loc.length≤1000000) (hb2:f.code.length≤1000000) :
 Calls Tryz.prog 77 #[.agg #[.int .i64 f.ty,lv,cv]] w (FncPost f w):=by
 obtain⟨us,hul,hun,hur⟩:=Wb.news hc;have HNL:=hD hl.news;have HNC:=hD hun;obtain⟨Al,cl,rfl,_,_⟩:=hl.form;obtain⟨Ac,cc,rfl,_,_⟩:=Wb.form hc;obtain⟨ty,loc,code⟩:=f;simp only at *;obtain⟨nl,hnl⟩:∃ n,loc.length=n:=⟨_,rfl⟩;obtain⟨nc,hnc⟩:∃ n,code.length=n:=⟨_,rfl⟩;rw[hnl]at HNL hb1 ⊢;rw[hnc]at HNC hb2 hul ⊢;have HQL:=hD hnl;have HQC:=hD hnc;obtain⟨W,hW⟩:∃ W,W=(w.alloc (.cells #[.int .i64 ty,.slice Al nl cl,.slice Ac nc cc] 64)).alloc (.cells #[.int .i64 0,.slice none 0 0,.slice none 0 0] 64):=⟨_,rfl⟩;obtain⟨ha1,ha2,hsz⟩:=alloc2_at w #[.int .i64 ty,.slice Al nl cl,.slice Ac nc cc] #[.int .i64 0,.slice none 0 0,.slice none 0 0] 64 64;rw[← hW]at ha1 ha2 hsz;have hbW:Below w.heap.size w W:=by rw[hW];exact Wg (Wg (bR _ _) _) _
 have HUL:=hD hul;have HRD:Hid (VG (fun j i u=>WN (fun b=>b<w.heap.size) w (code.getD j VX) i u) nc 5 us):=hD ⟨hul,fun j i hj hi=>by
  obtain⟨u,h1,h2⟩:=hur j i (by rw[hnc];exact hj) hi;exact⟨u,h1,h2.keep (We.refl _ _) hK⟩⟩
 have HONE:Hid (∀ u ∈ us,u.oneCell'=true):=hD (VH.ones (K:=K) (w:=w) (n:=nc) ⟨hul,fun j hj=>⟨_,fun i hi=>hur j i (by rw[hnc];exact hj) hi⟩⟩);have HBW:=hD hbW;have HSZ:=hD hsz;have HA2:=hD ha2;have HB1:=hD (fun wz (hb:Below W.heap.size W wz)=>(show wz.cell? ⟨w.heap.size,0,none⟩=some (.int .i64 ty)∧wz.cell? ⟨w.heap.size,1,none⟩=some (.slice Al nl cl)∧wz.cell? ⟨w.heap.size,2,none⟩=some (.slice Ac nc cc) from by
  have hq:=(hb.block w.heap.size (by omega)).trans ha1;exact⟨Wz hq 0,Wz hq 1,Wz hq 2⟩))
 clear hl hc hun hur hul hnl hnc hbW hsz ha1 ha2;go_enter Tryz.func77,Tryz.ntmps77
 go_upto_region 1 with (fail)
 rw[← hW];clear hW hK K
 go_cut [3] from 6 to 14 (fun p wx=>∃ (P:Nat) (A1:Option Addr) (c1:Nat) (A2:Option Addr) (c2:Nat),p=.pointer (some ⟨P,0,none⟩)∧Hid (Rows W wx [⟨64,3,.slice (some ⟨P,0,none⟩) 1 1,1,[.int .i64 ty,.slice A1 nl c1,.slice A2 nc c2],true⟩,⟨26,5,.slice A2 nc c2,nc,us,true⟩,⟨3,1,.slice A1 nl c1,nl,loc.map (Value.int .i64),true⟩]))
 case first =>
  refine Wf.start (X:=10) (S:=fun w'=>Below W.heap.size W w') (by kernel_rfl) ?_;have hS:Below W.heap.size W W.drew:=(bR _ _).drew;generalize W.drew=w5 at hS ⊢;have hR:Rows W w5 []:=Rows.nil hS;show Wf _ _ _ _ _ _ 11 #[false,false,false,false,false,false,false,false,false,false,false] _ _;refine Wf.tk 0 6 rfl hS ?_;refine Wf.tk 1 7 rfl hS ?_ (hy:=by intro wS hSw;obtain⟨s0,s1,s2⟩:=HB1.out wS hSw;go_simp;try with_reducible rfl);refine Wf.tk 2 8 rfl hS ?_;refine Wf.tk 3 9 rfl hS ?_ (hy:=by intro wS hSw;obtain⟨s0,s1,s2⟩:=HB1.out wS hSw;go_simp;try with_reducible rfl);refine Wf.tk 5 11 rfl hS ?_;refine Wf.tk 6 12 rfl hS ?_ (hy:=by intro wS hSw;obtain⟨s0,s1,s2⟩:=HB1.out wS hSw;go_simp;try with_reducible rfl);refine Wf.two (i:=4) (j:=9) (by kernel_rfl) ?_ ?_
  ·refine Wp.m 10 rfl fun K hK=>?_;go_simp;refine(clone_int _ _ _ _ _ (Wk HNL.out (Wa HBW.out hR.bl)) (ints_lit loc nl HQL.out) (WV _) (by omega)).mono ?_;rintro e w6 ⟨v1,rfl,⟨A1,c1,rfl⟩,ho,hn,hb⟩;go_wp2_with fail
   refine hK.out _ _ (.inr (Wa hS hb)) ?_;clear hK K;try simp only[sA,List.set]
   replace hS:=Wa hS hb;replace hR:=hR.push hb (r:=⟨3,1,.slice A1 nl c1,nl,loc.map (Value.int .i64),true⟩) (Ws.in_.mk rfl ho) hn;clear ho hn hb;refine Wf.two (i:=7) (j:=9) (by kernel_rfl) ?_ ?_
   ·refine Wp.m 13 rfl fun K hK=>?_;go_simp;refine(clone_ins _ _ _ _ us (Wk HNC.out (Wa HBW.out hR.bl)) HUL.out HONE.out (by omega)).mono ?_;rintro e w7 ⟨v1,rfl,⟨A2,c2,rfl⟩,ho,hn,hb⟩;go_wp2_with fail
    refine hK.out _ _ (.inr (Wa hS hb)) ?_;clear hK K;try simp only[sA,List.set]
    replace hS:=Wa hS hb;replace hR:=hR.push hb (r:=⟨26,5,.slice A2 nc c2,nc,us,true⟩) (Ws.in_.mk rfl ho) hn;clear ho hn hb;refine Wf.tk 8 14 rfl hS ?_;refine Wf.om 9 3 rfl fun K hK=>?_;go_simp;refine hK.out _ _ (.inr (Wg hS _)) ?_;clear hK K;try simp only[sA,List.set]
    replace hS:=Wg hS (.cells #[.int .i64 0,.slice none 0 0,.slice none 0 0] 64);replace hR:=hR.lit 64 3 1 #[.int .i64 0,.slice none 0 0,.slice none 0 0] rfl (by decide);generalize w7.heap.size=P at *;generalize w7.alloc (.cells #[.int .i64 0,.slice none 0 0,.slice none 0 0] 64)=w8 at *;exact ZK
   ·refine Wp.m 3 rfl fun K hK=>?_;go_simp;refine hK.out _ _ (.inr (Wg hS _)) ?_;clear hK K;try simp only[sA,List.set]
    replace hS:=Wg hS (.cells #[.int .i64 0,.slice none 0 0,.slice none 0 0] 64);replace hR:=hR.lit 64 3 1 #[.int .i64 0,.slice none 0 0,.slice none 0 0] rfl (by decide);generalize w6.heap.size=P at *;generalize w6.alloc (.cells #[.int .i64 0,.slice none 0 0,.slice none 0 0] 64)=w7 at *;refine Wf.om 7 13 rfl fun K hK=>?_;go_simp;refine(clone_ins _ _ _ _ us (Wk HNC.out (Wa HBW.out hR.bl)) HUL.out HONE.out (by omega)).mono ?_;rintro e w8 ⟨v1,rfl,⟨A2,c2,rfl⟩,ho,hn,hb⟩;go_wp2_with fail
    refine hK.out _ _ (.inr (Wa hS hb)) ?_;clear hK K;try simp only[sA,List.set]
    replace hS:=Wa hS hb;replace hR:=hR.push hb (r:=⟨26,5,.slice A2 nc c2,nc,us,true⟩) (Ws.in_.mk rfl ho) hn;clear ho hn hb;refine Wf.tk 8 14 rfl hS ?_;replace hR:=hR.swap;exact ZK
  ·refine Wp.m 3 rfl fun K hK=>?_;go_simp;refine hK.out _ _ (.inr (Wg hS _)) ?_;clear hK K;try simp only[sA,List.set]
   replace hS:=Wg hS (.cells #[.int .i64 0,.slice none 0 0,.slice none 0 0] 64);replace hR:=hR.lit 64 3 1 #[.int .i64 0,.slice none 0 0,.slice none 0 0] rfl (by decide);generalize w5.heap.size=P at *;generalize w5.alloc (.cells #[.int .i64 0,.slice none 0 0,.slice none 0 0] 64)=w6 at *;refine Wf.om 4 10 rfl fun K hK=>?_;go_simp;refine(clone_int _ _ _ _ _ (Wk HNL.out (Wa HBW.out hR.bl)) (ints_lit loc nl HQL.out) (WV _) (by omega)).mono ?_;rintro e w7 ⟨v1,rfl,⟨A1,c1,rfl⟩,ho,hn,hb⟩;go_wp2_with fail
   refine hK.out _ _ (.inr (Wa hS hb)) ?_;clear hK K;try simp only[sA,List.set]
   replace hS:=Wa hS hb;replace hR:=hR.push hb (r:=⟨3,1,.slice A1 nl c1,nl,loc.map (Value.int .i64),true⟩) (Ws.in_.mk rfl ho) hn;clear ho hn hb;refine Wf.om 7 13 rfl fun K hK=>?_;go_simp;refine(clone_ins _ _ _ _ us (Wk HNC.out (Wa HBW.out hR.bl)) HUL.out HONE.out (by omega)).mono ?_;rintro e w8 ⟨v1,rfl,⟨A2,c2,rfl⟩,ho,hn,hb⟩;go_wp2_with fail
   refine hK.out _ _ (.inr (Wa hS hb)) ?_;clear hK K;try simp only[sA,List.set]
   replace hS:=Wa hS hb;replace hR:=hR.push hb (r:=⟨26,5,.slice A2 nc c2,nc,us,true⟩) (Ws.in_.mk rfl ho) hn;clear ho hn hb;refine Wf.tk 8 14 rfl hS ?_;replace hR:=hR.pull3;exact ZK
 case rest =>
  obtain⟨P,A1,c1,A2,c2,rfl,HR⟩:=hcut;obtain⟨w9,rfl⟩:∃ w9,w9=wc:=⟨_,rfl⟩;clear HNL HNC HB1 HONE;have q0:=HR.out.head.cellAt 0 (show 0<1 * 3 by decide);have q1:=HR.out.head.cellAt 1 (show 1<1 * 3 by decide);have q2:=HR.out.head.cellAt 2 (show 2<1 * 3 by decide);simp only[List.getElem?_cons_zero,List.getElem?_cons_succ]at q0 q1 q2;go_wp2_with fail
  clear q0 q1 q2;go_loopw [18] (fun i wr=>∃ (k:Nat) (xs:List Value),k≤nc∧i=.int .i64 (k:Int)∧Hid (Rows W wr [⟨64,3,.slice (some ⟨P,0,none⟩) 1 1,1,[.int .i64 ty,.slice A1 nl c1,.slice A2 nc c2],true⟩,⟨26,5,.slice A2 nc c2,nc,xs,true⟩,⟨3,1,.slice A1 nl c1,nl,loc.map (Value.int .i64),true⟩])∧Hid (VG (fun j i u=>WN (fun b=>Free [.slice (some ⟨P,0,none⟩) 1 1,.slice A2 nc c2,.slice A1 nl c1] wr b∧(j<k→W.heap.size≤b)) wr (code.getD j VX) i u) nc 5 xs)) (fun i _=>nc - (intOf i).toNat)
  case atStart=>exact⟨0,us,nZ _,rfl,HR,hD (HRD.out.mono fun j i u _ _ h=>h.keep (We.below (Wa HBW.out HR.out.bl) fun _ h=>h) fun b hb=>⟨HR.out.free_old (WK hb HBW.out.size),fun h=>absurd h (Nat.not_lt_zero _)⟩)⟩
  case round =>
   clear HR HRD;obtain⟨w0,rfl⟩:∃ w0,w0=wr:=⟨_,rfl⟩;obtain⟨k,xs,hk,rfl,HR,HD⟩:=hrel;by_cases hlt:k<nc
   rotate_left
   ·have hd:decide ((k:Int)<(nc:Int))=false:=by simp;omega
    have q0:=HR.out.head.cellAt 0 (show 0<1 * 3 by decide);have q1:=HR.out.head.cellAt 1 (show 1<1 * 3 by decide);have q2:=HR.out.head.cellAt 2 (show 2<1 * 3 by decide);simp only[List.getElem?_cons_zero,List.getElem?_cons_succ]at q0 q1 q2;have hz:=(HR.out.bl.block (w.heap.size+1) (by have:=HSZ.out;omega)).trans HA2.out;have z0:=Wz hz 0;have z1:=Wz hz 1;have z2:=Wz hz 2;have y0:=Vo hz 0;have y1:=Vo hz 1;have y2:=Vo hz 2;simp only[List.getElem?_toArray,List.getElem?_cons_zero,List.getElem?_cons_succ]at z0 z1 z2;have HFL:=hD (fill3_at hz (.int .i64 ty) (.slice A1 nl c1) (.slice A2 nc c2));have HFK:=hD (fill3_keeps w0 (w.heap.size+1) (.int .i64 ty) (.slice A1 nl c1) (.slice A2 nc c2));have HFB:=hD (fill3_below (Wa HBW.out HR.out.bl) (Nat.le_succ w.heap.size) (.int .i64 ty) (.slice A1 nl c1) (.slice A2 nc c2));have HIL:=hD (owns_intsF (w:=W) HQL.out (HR.out.tail.tail.head) (HR.out.tail.tail.nw _ (List.mem_cons_self ..)));have HIC:=hD (show Wb (fun b=>W.heap.size≤b∧b<w0.heap.size) w0 (.slice A2 nc c2) nc 5 (fun j i u=>WN (fun b=>W.heap.size≤b∧b<w0.heap.size) w0 (code.getD j VX) i u) from (HD.out.mono fun j i u hj hi h=>h.keep (We.refl _ _) fun b hb=>⟨hb.2 (by omega),hb.1.1⟩).cells HR.out.tail.head fun g hg=>⟨HR.out.tail.nw _ (List.mem_cons_self ..) g hg,HR.out.tail.lt (List.mem_cons_self ..) hg⟩);clear hz HR HD hk;go_wp2;have hfl:=HFL.out;have hw1:=HBW.out.size;refine bodyPost_ret (v:=.agg #[.int .i64 ty,.slice A1 nl c1,.slice A2 nc c2]) (by simp[results,Tryz.results77,go_sem,World.cell?,hfl]) rfl ⟨_,_,rfl,?_,?_,HFB.out⟩
    ·exact HIL.out.keep (HFK.out.mono fun b hb e=>by have:=HSZ.out;omega) fun b hb=>⟨by omega,WK hb.2 HFK.out.size⟩
    ·have hcc:WO (fun b=>W.heap.size≤b∧b<w0.heap.size) w0 (.slice A2 nc c2) code:=by
      unfold WO;rw[HQC.out];exact HIC.out
     exact hcc.keep (HFK.out.mono fun b hb e=>by have:=HSZ.out;omega) fun b hb=>⟨by omega,WK hb.2 HFK.out.size⟩
   ·have hkn:(0:Int)≤(k:Int)∧(k:Int)<(nc:Int):=by omega
    have hd:decide ((k:Int)<(nc:Int))=true:=by simp;omega
    obtain⟨gC,cC,hv,hcc,_⟩:=HR.out.tail.some_ (by omega);simp only[vI]at hv;obtain⟨rfl,-,-⟩:=hv;obtain⟨u0,k0,h0⟩:=HD.out.at_ HR.out.tail.head k 0 hlt (by decide);obtain⟨u1,k1,h1⟩:=HD.out.at_ HR.out.tail.head k 1 hlt (by decide);obtain⟨u2,k2,h2⟩:=HD.out.at_ HR.out.tail.head k 2 hlt (by decide);obtain⟨u3,k3,h3⟩:=HD.out.at_ HR.out.tail.head k 3 hlt (by decide);obtain⟨u4,k4,h4⟩:=HD.out.at_ HR.out.tail.head k 4 hlt (by decide);obtain⟨x,hx⟩:∃ x,code.getD k VX=x:=⟨_,rfl⟩;rw[hx]at h0 h1 h2 h3 h4;have HX:=hD hx;clear hx;obtain⟨x0,x1,x2,x3,x4⟩:=x;obtain rfl:u0=.int .i64 x0:=h0;obtain rfl:u1=.int .i64 x1:=h1;obtain rfl:u2=.int .i64 x2:=h2;obtain rfl:u3=.int .u64 x3:=h3.1;have h4i:Wh (fun b=>Free [.slice (some ⟨P,0,none⟩) 1 1,.slice (some ⟨gC,0,none⟩) nc c2,.slice A1 nl c1] w0 b∧(k<k→W.heap.size≤b)) w0 u4 x4:=h4.1;have h4f:fitN x4.length:=h4.2;have hnw:=h4i.news;obtain⟨A4,c4,rfl,_,_⟩:=h4i.form;rw[Nat.add_zero]at k0;obtain⟨m4,hm4⟩:∃ n,x4.length=n:=⟨_,rfl⟩;rw[hm4]at hnw k4 h4f;have HM4:=hD hm4;have HNW:=hD hnw;unfold fitN at h4f;have HF4:=hD h4f;clear h3 h4 h4i hnw hm4 h4f;obtain⟨W5,hW5⟩:∃ W5,W5=w0.alloc (.cells #[.int .i64 x0,.int .i64 x1,.int .i64 x2,.int .u64 x3,.slice A4 m4 c4] 26):=⟨_,rfl⟩;have hb5:Below w0.heap.size w0 W5:=by rw[hW5];exact Wg (bR _ _) _
    have hv5:W5.cell? ⟨w0.heap.size,4,none⟩=some (.slice A4 m4 c4):=by rw[hW5];exact wN w0 _ _ 4
    have HR5:=hD (HR.out.below hb5);have hq2:=HR5.out.head.cellAt 2 (show 2<1 * 3 by decide);simp only[List.getElem?_cons_succ,List.getElem?_cons_zero]at hq2;have HFC:=hD (fun wz (hb:Below W5.heap.size W5 wz)=>And.intro ((hb.cell (p:=⟨P,2,none⟩) (wL _ _ hq2)).trans hq2) ((hb.cell (p:=⟨w0.heap.size,4,none⟩) (wL _ _ hv5)).trans hv5));have HB5:=hD hb5;have p2:=HR.out.head.cellAt 2 (show 2<1 * 3 by decide);simp only[List.getElem?_cons_succ,List.getElem?_cons_zero]at p2;clear hb5 hv5 hq2
    go_upto_region 5 with (fail)
    rw[← hW5];clear hW5 k0 k1 k2 k3 k4 p2;refine Wf.start (X:=8) (S:=fun w'=>Below W5.heap.size W5 w') (by kernel_rfl) ?_;have hS:Below W5.heap.size W5 W5.drew:=(bR _ _).drew;generalize W5.drew=w6 at hS ⊢;show Wf _ _ _ _ _ _ 9 #[false,false,false,false,false,false,false,false,false] _ _;refine Wf.tk 0 23 rfl hS ?_;refine Wf.tk 1 24 rfl hS ?_ (hy:=by intro wS hSw;obtain⟨s0,s1⟩:=HFC.out wS hSw;go_simp;try with_reducible rfl);refine Wf.tk 2 25 rfl hS ?_;refine Wf.tk 3 26 rfl hS ?_;refine Wf.tk 4 27 rfl hS ?_ (hy:=by intro wS hSw;obtain⟨s0,s1⟩:=HFC.out wS hSw;go_simp;try with_reducible rfl);refine Wf.om 5 28 rfl fun K hK=>?_;go_simp;refine(clone_int _ _ _ _ _ (Wk HNW.out (Wa HB5.out hS)) (ints_lit x4 m4 HM4.out) (WV _) HF4.out).mono ?_;rintro e w7 ⟨v1,rfl,⟨A5,c5,rfl⟩,ho,hn,hb⟩;go_wp2_with fail
    refine hK.out _ _ (.inr (Wa hS hb)) ?_;clear hK K;try simp only[sA,List.set]
    have hi5:=owns_intsF (w:=w6) HM4.out ho hn;have hS6:=hS;replace hS:=Wa hS hb;have hR7:=HR5.out.below hS;clear ho hn;refine Wf.om 6 29 rfl fun K hK=>?_;go_simp;refine hK.out _ _ (.inr hS) ?_;clear hK K;try simp only[sA,List.set]
    refine Wf.tk 7 30 rfl hS ?_;have hfz:=hR7.tail.head.frozenAt (k * 5+4);obtain⟨uu,huu,_⟩:=HD.out.2 k 4 hlt (by decide);have hct:=(hR7.tail.head.cellAt (k * 5+4) (lt_rows hlt (by decide))).trans huu;refine Wf.on 8 rfl fun K hK=>?_;go_simp;refine hK.out _ _ (.inl rfl) ?_;clear hK K;try simp only[sA,List.set]
    clear hfz hct huu;have hR8:=(hR7.swap.set (k * 5+4) (.slice A5 m4 c5)).swap;have hks:We (fun b=>b≠gC) w7 (w7.setCell ⟨gC,k * 5+4,none⟩ (.slice A5 m4 c5)):=.setCell w7 (fun e=>e rfl) _;have hs6:W5.heap.size≤w6.heap.size:=hS6.size;have hs5:=HB5.out.size;have hs0:=HR.out.bl.size;have hbb:=Wa HB5.out hS;have hlc:gC<w0.heap.size:=HR.out.tail.lt (List.mem_cons_self ..) rfl;have hkk:We (fun b=>Free [.slice (some ⟨P,0,none⟩) 1 1,.slice (some ⟨gC,0,none⟩) nc c2,.slice A1 nl c1] w0 b) w0 (w7.setCell ⟨gC,k * 5+4,none⟩ (.slice A5 m4 c5)):=(We.below hbb fun _ hb=>hb.1).trans (hks.mono fun b hb e=>hb.2 (.slice (some ⟨gC,0,none⟩) nc c2) (by simp) (by rw[e];rfl));have HD8:=hD (HD.out.set (f':=fun j i u=>WN (fun b=>Free [.slice (some ⟨P,0,none⟩) 1 1,.slice (some ⟨gC,0,none⟩) nc c2,.slice A1 nl c1] (w7.setCell ⟨gC,k * 5+4,none⟩ (.slice A5 m4 c5)) b∧(j<k+1→W.heap.size≤b)) (w7.setCell ⟨gC,k * 5+4,none⟩ (.slice A5 m4 c5)) (code.getD j VX) i u) k 4 hlt (by decide) (.slice A5 m4 c5) (by
     rw[HX.out];refine⟨hi5.keep (hks.mono fun b hb e=>by omega) fun b hb=>⟨(HR.out.free_new (w':=w7.setCell ⟨gC,k * 5+4,none⟩ (.slice A5 m4 c5)) (by omega) (WK hb.2 hks.size)),fun _=>by omega⟩,?_⟩;have:=HF4.out;unfold fitN;show x4.length * 8≤_;rw[HM4.out];exact this) fun j i u hj hi hne h=>by
     by_cases hjk:j=k
     ·exact h.plain (by have:=hne hjk;omega)
     ·exact h.keep (hkk.mono fun b hb=>hb.1) fun b hb=>⟨hb.1.mono hkk.size,fun hlt2=>hb.2 (by omega)⟩)
    have HR8:=hD hR8;refine Wf.done (by kernel_rfl) ?_ _;clear hi5 hR7 hR8 hks hs6 hs5 hs0 hbb hlc hkk hS hS6 hb;go_wp2;go_roundw
    case rel=>exact⟨k+1,_,by omega,by go_num,HR8,HD8⟩
    case measure=>simp[intOf];omega
end
section
open Go.RowKit
theorem Rows.setAt {w0 w:World} {e:TypeId} {size g n c:Nat} {xs:List Value} {l1 l2:List Ws} (h:Rows w0 w (l1++⟨e,size,.slice (some ⟨g,0,.none⟩) n c,n,xs,true⟩ :: l2)) (j:Nat) (u:Value) :
 Rows w0 (w.setCell ⟨g,j,.none⟩ u) (l1++⟨e,size,.slice (some ⟨g,0,.none⟩) n c,n,xs.set j u,true⟩ :: l2) :=
 ((h.perm List.perm_middle.symm).set j u).perm List.perm_middle
theorem Ve.keep {K K':Nat→Prop} {w w':World} {x:List Int×List Int} {i:Nat} {u:Value} (h:Ve K w x i u) (hk:We K w w') (hm:∀ k,K k→K' k):Ve K' w' x i u:=Wh.keep h hk hm
def V3 (P:Nat) (v:Mv):List Value:=[.slice (some ⟨P,0,none⟩) 1 1,v.m0,v.m1,v.m2,v.m3,v.m4,v.m5,v.m6,v.m7]
def Vx (P:Nat) (v:Mv) (n0 n1 n2 n3 n4 n5 n6 n7:Nat) (x0 x1 x2 x3 x4 x5 x6 x7:List Value):List Ws :=
 [⟨36,8,.slice (some ⟨P,0,none⟩) 1 1,1,[v.m0,v.m1,v.m2,v.m3,v.m4,v.m5,v.m6,v.m7],true⟩,⟨68,2,v.m0,n0,x0,true⟩,⟨51,3,v.m1,n1,x1,true⟩,⟨64,3,v.m2,n2,x2,true⟩,⟨56,2,v.m3,n3,x3,true⟩,⟨53,3,v.m4,n4,x4,true⟩,⟨61,3,v.m5,n5,x5,true⟩,⟨59,4,v.m6,n6,x6,true⟩,⟨115,2,v.m7,n7,x7,true⟩]
def Vr (X:Nat) (vs:List Value) (w:World) (k:Nat):Prop:=Free vs w k∧k≠X
theorem Vr.mono {X:Nat} {vs:List Value} {w w':World} {k:Nat} (h:Vr X vs w k) (hs:w.heap.size≤w'.heap.size):Vr X vs w' k:=⟨h.1.mono hs,h.2⟩
structure UL (X:Nat) (W wr:World) (P:Nat) (v:Mv) (m:Vz) (n0 n1 n2 n3 n4 n5 n6 n7:Nat) (x0 x1 x2 x3 x4 x5 x6 x7:List Value):Prop where
 hx:X<W.heap.size
 rows:Rows W wr (Vx P v n0 n1 n2 n3 n4 n5 n6 n7 x0 x1 x2 x3 x4 x5 x6 x7)
 r0:VG (fun j i u=>Ve (Vr X (V3 P v) wr) wr (m.types.getD j ([],[])) i u) n0 2 x0
 r1:VG (fun j i u=>UR (m.imps.getD j (ByteArray.empty,ByteArray.empty,0)) i u) n1 3 x1
 r2:VG (fun j i u=>WP (Vr X (V3 P v) wr) wr (m.funs.getD j WW) i u) n2 3 x2
 r3:VG (fun j i u=>memCell (m.mems.getD j (0,0)) i u) n3 2 x3
 r4:VG (fun j i u=>Ua (m.globs.getD j (0,false,0)) i u) n4 3 x4
 r5:VG (fun j i u=>expCell (m.exps.getD j (ByteArray.empty,0,0)) i u) n5 3 x5
 r6:VG (fun j i u=>Vi (Vr X (V3 P v) wr) wr (m.datas.getD j VC) i u) n6 4 x6
 r7:VG (fun j i u=>Vk (Vr X (V3 P v) wr) wr (m.cus.getD j (ByteArray.empty,[])) i u) n7 2 x7
section
variable {X:Nat} {W wr w':World} {P:Nat} {v:Mv} {m:Vz} {n0 n1 n2 n3 n4 n5 n6 n7:Nat} {x0 x1 x2 x3 x4 x5 x6 x7:List Value}
theorem UL.below (h:UL X W wr P v m n0 n1 n2 n3 n4 n5 n6 n7 x0 x1 x2 x3 x4 x5 x6 x7) (hb:Below wr.heap.size wr w'):UL X W w' P v m n0 n1 n2 n3 n4 n5 n6 n7 x0 x1 x2 x3 x4 x5 x6 x7 :=
 ⟨h.hx,h.rows.below hb,h.r0.mono fun _ _ _ _ _ h=>Ve.keep h (We.below hb fun _ hk=>hk.1.1) fun _ hk=>hk.mono hb.size,h.r1,h.r2.mono fun _ _ _ _ _ h=>WP.keep h (We.below hb fun _ hk=>hk.1.1) fun _ hk=>hk.mono hb.size,h.r3,h.r4,h.r5,h.r6.mono fun _ _ _ _ _ h=>Vi.keep h (We.below hb fun _ hk=>hk.1.1) fun _ hk=>hk.mono hb.size,h.r7.mono fun _ _ _ _ _ h=>Vk.keep h (We.below hb fun _ hk=>hk.1.1) fun _ hk=>hk.mono hb.size⟩
theorem UL.box (h:UL X W wr P v m n0 n1 n2 n3 n4 n5 n6 n7 x0 x1 x2 x3 x4 x5 x6 x7) (j:Nat) (hj:j<8):wr.cell? ⟨P,j,none⟩=v.cells[j]?:=by
 have h1:=h.rows.head.cellAt j (by show j<1 * 8;omega);rw[h1];simp[Mv.cells]
theorem UL.own0 (h:UL X W wr P v m n0 n1 n2 n3 n4 n5 n6 n7 x0 x1 x2 x3 x4 x5 x6 x7):wr.ownsRow 0 68 2 v.m0 n0 x0:=(h.rows.ow ⟨68,2,v.m0,n0,x0,true⟩ (by simp[Vx])).own rfl
theorem UL.nw0 (h:UL X W wr P v m n0 n1 n2 n3 n4 n5 n6 n7 x0 x1 x2 x3 x4 x5 x6 x7):∀ g,v.m0.ownBlock=some g→W.heap.size≤g∧g<wr.heap.size:=fun g hg=>⟨h.rows.nw ⟨68,2,v.m0,n0,x0,true⟩ (by simp[Vx]) g hg,h.rows.lt (r:=⟨68,2,v.m0,n0,x0,true⟩) (by simp[Vx]) hg⟩
theorem UL.own1 (h:UL X W wr P v m n0 n1 n2 n3 n4 n5 n6 n7 x0 x1 x2 x3 x4 x5 x6 x7):wr.ownsRow 0 51 3 v.m1 n1 x1:=(h.rows.ow ⟨51,3,v.m1,n1,x1,true⟩ (by simp[Vx])).own rfl
theorem UL.nw1 (h:UL X W wr P v m n0 n1 n2 n3 n4 n5 n6 n7 x0 x1 x2 x3 x4 x5 x6 x7):∀ g,v.m1.ownBlock=some g→W.heap.size≤g∧g<wr.heap.size:=fun g hg=>⟨h.rows.nw ⟨51,3,v.m1,n1,x1,true⟩ (by simp[Vx]) g hg,h.rows.lt (r:=⟨51,3,v.m1,n1,x1,true⟩) (by simp[Vx]) hg⟩
theorem UL.own2 (h:UL X W wr P v m n0 n1 n2 n3 n4 n5 n6 n7 x0 x1 x2 x3 x4 x5 x6 x7):wr.ownsRow 0 64 3 v.m2 n2 x2:=(h.rows.ow ⟨64,3,v.m2,n2,x2,true⟩ (by simp[Vx])).own rfl
theorem UL.nw2 (h:UL X W wr P v m n0 n1 n2 n3 n4 n5 n6 n7 x0 x1 x2 x3 x4 x5 x6 x7):∀ g,v.m2.ownBlock=some g→W.heap.size≤g∧g<wr.heap.size:=fun g hg=>⟨h.rows.nw ⟨64,3,v.m2,n2,x2,true⟩ (by simp[Vx]) g hg,h.rows.lt (r:=⟨64,3,v.m2,n2,x2,true⟩) (by simp[Vx]) hg⟩
theorem UL.own3 (h:UL X W wr P v m n0 n1 n2 n3 n4 n5 n6 n7 x0 x1 x2 x3 x4 x5 x6 x7):wr.ownsRow 0 56 2 v.m3 n3 x3:=(h.rows.ow ⟨56,2,v.m3,n3,x3,true⟩ (by simp[Vx])).own rfl
theorem UL.nw3 (h:UL X W wr P v m n0 n1 n2 n3 n4 n5 n6 n7 x0 x1 x2 x3 x4 x5 x6 x7):∀ g,v.m3.ownBlock=some g→W.heap.size≤g∧g<wr.heap.size:=fun g hg=>⟨h.rows.nw ⟨56,2,v.m3,n3,x3,true⟩ (by simp[Vx]) g hg,h.rows.lt (r:=⟨56,2,v.m3,n3,x3,true⟩) (by simp[Vx]) hg⟩
theorem UL.own4 (h:UL X W wr P v m n0 n1 n2 n3 n4 n5 n6 n7 x0 x1 x2 x3 x4 x5 x6 x7):wr.ownsRow 0 53 3 v.m4 n4 x4:=(h.rows.ow ⟨53,3,v.m4,n4,x4,true⟩ (by simp[Vx])).own rfl
theorem UL.nw4 (h:UL X W wr P v m n0 n1 n2 n3 n4 n5 n6 n7 x0 x1 x2 x3 x4 x5 x6 x7):∀ g,v.m4.ownBlock=some g→W.heap.size≤g∧g<wr.heap.size:=fun g hg=>⟨h.rows.nw ⟨53,3,v.m4,n4,x4,true⟩ (by simp[Vx]) g hg,h.rows.lt (r:=⟨53,3,v.m4,n4,x4,true⟩) (by simp[Vx]) hg⟩
theorem UL.own5 (h:UL X W wr P v m n0 n1 n2 n3 n4 n5 n6 n7 x0 x1 x2 x3 x4 x5 x6 x7):wr.ownsRow 0 61 3 v.m5 n5 x5:=(h.rows.ow ⟨61,3,v.m5,n5,x5,true⟩ (by simp[Vx])).own rfl
theorem UL.nw5 (h:UL X W wr P v m n0 n1 n2 n3 n4 n5 n6 n7 x0 x1 x2 x3 x4 x5 x6 x7):∀ g,v.m5.ownBlock=some g→W.heap.size≤g∧g<wr.heap.size:=fun g hg=>⟨h.rows.nw ⟨61,3,v.m5,n5,x5,true⟩ (by simp[Vx]) g hg,h.rows.lt (r:=⟨61,3,v.m5,n5,x5,true⟩) (by simp[Vx]) hg⟩
theorem UL.own6 (h:UL X W wr P v m n0 n1 n2 n3 n4 n5 n6 n7 x0 x1 x2 x3 x4 x5 x6 x7):wr.ownsRow 0 59 4 v.m6 n6 x6:=(h.rows.ow ⟨59,4,v.m6,n6,x6,true⟩ (by simp[Vx])).own rfl
theorem UL.nw6 (h:UL X W wr P v m n0 n1 n2 n3 n4 n5 n6 n7 x0 x1 x2 x3 x4 x5 x6 x7):∀ g,v.m6.ownBlock=some g→W.heap.size≤g∧g<wr.heap.size:=fun g hg=>⟨h.rows.nw ⟨59,4,v.m6,n6,x6,true⟩ (by simp[Vx]) g hg,h.rows.lt (r:=⟨59,4,v.m6,n6,x6,true⟩) (by simp[Vx]) hg⟩
theorem UL.own7 (h:UL X W wr P v m n0 n1 n2 n3 n4 n5 n6 n7 x0 x1 x2 x3 x4 x5 x6 x7):wr.ownsRow 0 115 2 v.m7 n7 x7:=(h.rows.ow ⟨115,2,v.m7,n7,x7,true⟩ (by simp[Vx])).own rfl
theorem UL.nw7 (h:UL X W wr P v m n0 n1 n2 n3 n4 n5 n6 n7 x0 x1 x2 x3 x4 x5 x6 x7):∀ g,v.m7.ownBlock=some g→W.heap.size≤g∧g<wr.heap.size:=fun g hg=>⟨h.rows.nw ⟨115,2,v.m7,n7,x7,true⟩ (by simp[Vx]) g hg,h.rows.lt (r:=⟨115,2,v.m7,n7,x7,true⟩) (by simp[Vx]) hg⟩
theorem UL.free_old (h:UL X W wr P v m n0 n1 n2 n3 n4 n5 n6 n7 x0 x1 x2 x3 x4 x5 x6 x7) {k:Nat} (hk:k<W.heap.size) (hne:k≠X):Vr X (V3 P v) wr k:=⟨h.rows.free_old hk,hne⟩
theorem UL.free_new (h:UL X W wr P v m n0 n1 n2 n3 n4 n5 n6 n7 x0 x1 x2 x3 x4 x5 x6 x7) {k:Nat} (h1:wr.heap.size≤k) (h2:k<w'.heap.size):Vr X (V3 P v) w' k:=⟨h.rows.free_new h1 h2,by have:=h.hx;have:=h.rows.bl.size;omega⟩
theorem UL.set0 (h:UL X W wr P v m n0 n1 n2 n3 n4 n5 n6 n7 x0 x1 x2 x3 x4 x5 x6 x7) {g c k:Nat} (hv:v.m0=.slice (some ⟨g,0,none⟩) n0 c) (hk:k<n0) {a0 a1:Value} (h0:Ve (Vr X (V3 P v) wr) wr (m.types.getD k ([],[])) 0 a0) (h1:Ve (Vr X (V3 P v) wr) wr (m.types.getD k ([],[])) 1 a1):∃ y,UL X W ((wr.setCell ⟨g,k * 2,none⟩ a0).setCell ⟨g,k * 2+1,none⟩ a1) P v m n0 n1 n2 n3 n4 n5 n6 n7 y x1 x2 x3 x4 x5 x6 x7:=by
 have hkp:We (fun b=>Vr X (V3 P v) wr b) wr ((wr.setCell ⟨g,k * 2,none⟩ a0).setCell ⟨g,k * 2+1,none⟩ a1):=((We.setCell wr (K:=fun b=>b≠g) (fun e=>e rfl) a0).trans (We.setCell _ (fun e=>e rfl) a1)).mono fun b hb e=>hb.1.2 v.m0 (by simp[V3]) (by rw[hv,e];rfl);have hr:Rows W wr ([⟨36,8,.slice (some ⟨P,0,none⟩) 1 1,1,[v.m0,v.m1,v.m2,v.m3,v.m4,v.m5,v.m6,v.m7],true⟩]++⟨68,2,.slice (some ⟨g,0,none⟩) n0 c,n0,x0,true⟩ :: [⟨51,3,v.m1,n1,x1,true⟩,⟨64,3,v.m2,n2,x2,true⟩,⟨56,2,v.m3,n3,x3,true⟩,⟨53,3,v.m4,n4,x4,true⟩,⟨61,3,v.m5,n5,x5,true⟩,⟨59,4,v.m6,n6,x6,true⟩,⟨115,2,v.m7,n7,x7,true⟩]):=by rw[← hv];exact h.rows
 replace hr:=hr.setAt (k * 2) a0;replace hr:=hr.setAt (k * 2+1) a1;rw[← hv]at hr;have h9:=h.r0.mono (f':=fun j i u=>Ve (Vr X (V3 P v) ((wr.setCell ⟨g,k * 2,none⟩ a0).setCell ⟨g,k * 2+1,none⟩ a1)) ((wr.setCell ⟨g,k * 2,none⟩ a0).setCell ⟨g,k * 2+1,none⟩ a1) (m.types.getD j ([],[])) i u) fun _ _ _ _ _ h=>Ve.keep h hkp fun _ hk=>hk.mono hkp.size;replace h9:=h9.set (f':=fun j i u=>Ve (Vr X (V3 P v) ((wr.setCell ⟨g,k * 2,none⟩ a0).setCell ⟨g,k * 2+1,none⟩ a1)) ((wr.setCell ⟨g,k * 2,none⟩ a0).setCell ⟨g,k * 2+1,none⟩ a1) (m.types.getD j ([],[])) i u) k 0 hk (by decide) a0 (Ve.keep h0 hkp fun _ hk=>hk.mono hkp.size) fun _ _ _ _ _ _ h=>h;replace h9:=h9.set (f':=fun j i u=>Ve (Vr X (V3 P v) ((wr.setCell ⟨g,k * 2,none⟩ a0).setCell ⟨g,k * 2+1,none⟩ a1)) ((wr.setCell ⟨g,k * 2,none⟩ a0).setCell ⟨g,k * 2+1,none⟩ a1) (m.types.getD j ([],[])) i u) k 1 hk (by decide) a1 (Ve.keep h1 hkp fun _ hk=>hk.mono hkp.size) fun _ _ _ _ _ _ h=>h;simp only[Nat.add_zero]at h9;exact⟨_,h.hx,hr,h9,h.r1,h.r2.mono fun _ _ _ _ _ h=>WP.keep h hkp fun _ hk=>hk.mono hkp.size,h.r3,h.r4,h.r5,h.r6.mono fun _ _ _ _ _ h=>Vi.keep h hkp fun _ hk=>hk.mono hkp.size,h.r7.mono fun _ _ _ _ _ h=>Vk.keep h hkp fun _ hk=>hk.mono hkp.size⟩
theorem UL.set2 (h:UL X W wr P v m n0 n1 n2 n3 n4 n5 n6 n7 x0 x1 x2 x3 x4 x5 x6 x7) {g c k:Nat} (hv:v.m2=.slice (some ⟨g,0,none⟩) n2 c) (hk:k<n2) {a0 a1 a2:Value} (h0:WP (Vr X (V3 P v) wr) wr (m.funs.getD k WW) 0 a0) (h1:WP (Vr X (V3 P v) wr) wr (m.funs.getD k WW) 1 a1) (h2:WP (Vr X (V3 P v) wr) wr (m.funs.getD k WW) 2 a2):∃ y,UL X W (((wr.setCell ⟨g,k * 3,none⟩ a0).setCell ⟨g,k * 3+1,none⟩ a1).setCell ⟨g,k * 3+2,none⟩ a2) P v m n0 n1 n2 n3 n4 n5 n6 n7 x0 x1 y x3 x4 x5 x6 x7:=by
 have hkp:We (fun b=>Vr X (V3 P v) wr b) wr (((wr.setCell ⟨g,k * 3,none⟩ a0).setCell ⟨g,k * 3+1,none⟩ a1).setCell ⟨g,k * 3+2,none⟩ a2):=(((We.setCell wr (K:=fun b=>b≠g) (fun e=>e rfl) a0).trans (We.setCell _ (fun e=>e rfl) a1)).trans (We.setCell _ (fun e=>e rfl) a2)).mono fun b hb e=>hb.1.2 v.m2 (by simp[V3]) (by rw[hv,e];rfl);have hr:Rows W wr ([⟨36,8,.slice (some ⟨P,0,none⟩) 1 1,1,[v.m0,v.m1,v.m2,v.m3,v.m4,v.m5,v.m6,v.m7],true⟩,⟨68,2,v.m0,n0,x0,true⟩,⟨51,3,v.m1,n1,x1,true⟩]++⟨64,3,.slice (some ⟨g,0,none⟩) n2 c,n2,x2,true⟩ :: [⟨56,2,v.m3,n3,x3,true⟩,⟨53,3,v.m4,n4,x4,true⟩,⟨61,3,v.m5,n5,x5,true⟩,⟨59,4,v.m6,n6,x6,true⟩,⟨115,2,v.m7,n7,x7,true⟩]):=by rw[← hv];exact h.rows
 replace hr:=hr.setAt (k * 3) a0;replace hr:=hr.setAt (k * 3+1) a1;replace hr:=hr.setAt (k * 3+2) a2;rw[← hv]at hr;have h9:=h.r2.mono (f':=fun j i u=>WP (Vr X (V3 P v) (((wr.setCell ⟨g,k * 3,none⟩ a0).setCell ⟨g,k * 3+1,none⟩ a1).setCell ⟨g,k * 3+2,none⟩ a2)) (((wr.setCell ⟨g,k * 3,none⟩ a0).setCell ⟨g,k * 3+1,none⟩ a1).setCell ⟨g,k * 3+2,none⟩ a2) (m.funs.getD j WW) i u) fun _ _ _ _ _ h=>WP.keep h hkp fun _ hk=>hk.mono hkp.size;replace h9:=h9.set (f':=fun j i u=>WP (Vr X (V3 P v) (((wr.setCell ⟨g,k * 3,none⟩ a0).setCell ⟨g,k * 3+1,none⟩ a1).setCell ⟨g,k * 3+2,none⟩ a2)) (((wr.setCell ⟨g,k * 3,none⟩ a0).setCell ⟨g,k * 3+1,none⟩ a1).setCell ⟨g,k * 3+2,none⟩ a2) (m.funs.getD j WW) i u) k 0 hk (by decide) a0 (WP.keep h0 hkp fun _ hk=>hk.mono hkp.size) fun _ _ _ _ _ _ h=>h;replace h9:=h9.set (f':=fun j i u=>WP (Vr X (V3 P v) (((wr.setCell ⟨g,k * 3,none⟩ a0).setCell ⟨g,k * 3+1,none⟩ a1).setCell ⟨g,k * 3+2,none⟩ a2)) (((wr.setCell ⟨g,k * 3,none⟩ a0).setCell ⟨g,k * 3+1,none⟩ a1).setCell ⟨g,k * 3+2,none⟩ a2) (m.funs.getD j WW) i u) k 1 hk (by decide) a1 (WP.keep h1 hkp fun _ hk=>hk.mono hkp.size) fun _ _ _ _ _ _ h=>h;replace h9:=h9.set (f':=fun j i u=>WP (Vr X (V3 P v) (((wr.setCell ⟨g,k * 3,none⟩ a0).setCell ⟨g,k * 3+1,none⟩ a1).setCell ⟨g,k * 3+2,none⟩ a2)) (((wr.setCell ⟨g,k * 3,none⟩ a0).setCell ⟨g,k * 3+1,none⟩ a1).setCell ⟨g,k * 3+2,none⟩ a2) (m.funs.getD j WW) i u) k 2 hk (by decide) a2 (WP.keep h2 hkp fun _ hk=>hk.mono hkp.size) fun _ _ _ _ _ _ h=>h;simp only[Nat.add_zero]at h9;exact⟨_,h.hx,hr,h.r0.mono fun _ _ _ _ _ h=>Ve.keep h hkp fun _ hk=>hk.mono hkp.size,h.r1,h9,h.r3,h.r4,h.r5,h.r6.mono fun _ _ _ _ _ h=>Vi.keep h hkp fun _ hk=>hk.mono hkp.size,h.r7.mono fun _ _ _ _ _ h=>Vk.keep h hkp fun _ hk=>hk.mono hkp.size⟩
theorem UL.set6 (h:UL X W wr P v m n0 n1 n2 n3 n4 n5 n6 n7 x0 x1 x2 x3 x4 x5 x6 x7) {g c k:Nat} (hv:v.m6=.slice (some ⟨g,0,none⟩) n6 c) (hk:k<n6) {a3:Value} (h3:Vi (Vr X (V3 P v) wr) wr (m.datas.getD k VC) 3 a3):∃ y,UL X W (wr.setCell ⟨g,k * 4+3,none⟩ a3) P v m n0 n1 n2 n3 n4 n5 n6 n7 x0 x1 x2 x3 x4 x5 y x7:=by
 have hkp:We (fun b=>Vr X (V3 P v) wr b) wr (wr.setCell ⟨g,k * 4+3,none⟩ a3):=(We.setCell _ (K:=fun b=>b≠g) (fun e=>e rfl) _).mono fun b hb e=>hb.1.2 v.m6 (by simp[V3]) (by rw[hv,e];rfl);have hr:Rows W wr ([⟨36,8,.slice (some ⟨P,0,none⟩) 1 1,1,[v.m0,v.m1,v.m2,v.m3,v.m4,v.m5,v.m6,v.m7],true⟩,⟨68,2,v.m0,n0,x0,true⟩,⟨51,3,v.m1,n1,x1,true⟩,⟨64,3,v.m2,n2,x2,true⟩,⟨56,2,v.m3,n3,x3,true⟩,⟨53,3,v.m4,n4,x4,true⟩,⟨61,3,v.m5,n5,x5,true⟩]++⟨59,4,.slice (some ⟨g,0,none⟩) n6 c,n6,x6,true⟩ :: [⟨115,2,v.m7,n7,x7,true⟩]):=by rw[← hv];exact h.rows
 replace hr:=hr.setAt (k * 4+3) a3;rw[← hv]at hr;have h9:=h.r6.mono (f':=fun j i u=>Vi (Vr X (V3 P v) (wr.setCell ⟨g,k * 4+3,none⟩ a3)) (wr.setCell ⟨g,k * 4+3,none⟩ a3) (m.datas.getD j VC) i u) fun _ _ _ _ _ h=>Vi.keep h hkp fun _ hk=>hk.mono hkp.size;replace h9:=h9.set (f':=fun j i u=>Vi (Vr X (V3 P v) (wr.setCell ⟨g,k * 4+3,none⟩ a3)) (wr.setCell ⟨g,k * 4+3,none⟩ a3) (m.datas.getD j VC) i u) k 3 hk (by decide) a3 (Vi.keep h3 hkp fun _ hk=>hk.mono hkp.size) fun _ _ _ _ _ _ h=>h;exact⟨_,h.hx,hr,h.r0.mono fun _ _ _ _ _ h=>Ve.keep h hkp fun _ hk=>hk.mono hkp.size,h.r1,h.r2.mono fun _ _ _ _ _ h=>WP.keep h hkp fun _ hk=>hk.mono hkp.size,h.r3,h.r4,h.r5,h9,h.r7.mono fun _ _ _ _ _ h=>Vk.keep h hkp fun _ hk=>hk.mono hkp.size⟩
theorem UL.set7 (h:UL X W wr P v m n0 n1 n2 n3 n4 n5 n6 n7 x0 x1 x2 x3 x4 x5 x6 x7) {g c k:Nat} (hv:v.m7=.slice (some ⟨g,0,none⟩) n7 c) (hk:k<n7) {a1:Value} (h1:Vk (Vr X (V3 P v) wr) wr (m.cus.getD k (ByteArray.empty,[])) 1 a1):∃ y,UL X W (wr.setCell ⟨g,k * 2+1,none⟩ a1) P v m n0 n1 n2 n3 n4 n5 n6 n7 x0 x1 x2 x3 x4 x5 x6 y:=by
 have hkp:We (fun b=>Vr X (V3 P v) wr b) wr (wr.setCell ⟨g,k * 2+1,none⟩ a1):=(We.setCell _ (K:=fun b=>b≠g) (fun e=>e rfl) _).mono fun b hb e=>hb.1.2 v.m7 (by simp[V3]) (by rw[hv,e];rfl);have hr:Rows W wr ([⟨36,8,.slice (some ⟨P,0,none⟩) 1 1,1,[v.m0,v.m1,v.m2,v.m3,v.m4,v.m5,v.m6,v.m7],true⟩,⟨68,2,v.m0,n0,x0,true⟩,⟨51,3,v.m1,n1,x1,true⟩,⟨64,3,v.m2,n2,x2,true⟩,⟨56,2,v.m3,n3,x3,true⟩,⟨53,3,v.m4,n4,x4,true⟩,⟨61,3,v.m5,n5,x5,true⟩,⟨59,4,v.m6,n6,x6,true⟩]++⟨115,2,.slice (some ⟨g,0,none⟩) n7 c,n7,x7,true⟩ :: []):=by rw[← hv];exact h.rows
 replace hr:=hr.setAt (k * 2+1) a1;rw[← hv]at hr;have h9:=h.r7.mono (f':=fun j i u=>Vk (Vr X (V3 P v) (wr.setCell ⟨g,k * 2+1,none⟩ a1)) (wr.setCell ⟨g,k * 2+1,none⟩ a1) (m.cus.getD j (ByteArray.empty,[])) i u) fun _ _ _ _ _ h=>Vk.keep h hkp fun _ hk=>hk.mono hkp.size;replace h9:=h9.set (f':=fun j i u=>Vk (Vr X (V3 P v) (wr.setCell ⟨g,k * 2+1,none⟩ a1)) (wr.setCell ⟨g,k * 2+1,none⟩ a1) (m.cus.getD j (ByteArray.empty,[])) i u) k 1 hk (by decide) a1 (Vk.keep h1 hkp fun _ hk=>hk.mono hkp.size) fun _ _ _ _ _ _ h=>h;exact⟨_,h.hx,hr,h.r0.mono fun _ _ _ _ _ h=>Ve.keep h hkp fun _ hk=>hk.mono hkp.size,h.r1,h.r2.mono fun _ _ _ _ _ h=>WP.keep h hkp fun _ hk=>hk.mono hkp.size,h.r3,h.r4,h.r5,h.r6.mono fun _ _ _ _ _ h=>Vi.keep h hkp fun _ hk=>hk.mono hkp.size,h9⟩
theorem UL.mod (h:UL X W wr P v m n0 n1 n2 n3 n4 n5 n6 n7 x0 x1 x2 x3 x4 x5 x6 x7) (e0:m.types.length=n0) (e1:m.imps.length=n1) (e2:m.funs.length=n2) (e3:m.mems.length=n3) (e4:m.globs.length=n4) (e5:m.exps.length=n5) (e6:m.datas.length=n6) (e7:m.cus.length=n7):WL (fun k=>k<wr.heap.size∧k≠X) wr v m:=by
 subst e0 e1 e2 e3 e4 e5 e6 e7;exact⟨(h.r0.mono fun _ _ _ _ _ h=>Ve.keep h (We.refl _ _) fun _ hk=>⟨hk.1.1,hk.2⟩).cells h.own0 fun g hg=>⟨(h.nw0 g hg).2,by have:=(h.nw0 g hg).1;have:=h.hx;omega⟩,h.r1.cells h.own1 fun g hg=>⟨(h.nw1 g hg).2,by have:=(h.nw1 g hg).1;have:=h.hx;omega⟩,(h.r2.mono fun _ _ _ _ _ h=>WP.keep h (We.refl _ _) fun _ hk=>⟨hk.1.1,hk.2⟩).cells h.own2 fun g hg=>⟨(h.nw2 g hg).2,by have:=(h.nw2 g hg).1;have:=h.hx;omega⟩,h.r3.cells h.own3 fun g hg=>⟨(h.nw3 g hg).2,by have:=(h.nw3 g hg).1;have:=h.hx;omega⟩,h.r4.cells h.own4 fun g hg=>⟨(h.nw4 g hg).2,by have:=(h.nw4 g hg).1;have:=h.hx;omega⟩,h.r5.cells h.own5 fun g hg=>⟨(h.nw5 g hg).2,by have:=(h.nw5 g hg).1;have:=h.hx;omega⟩,(h.r6.mono fun _ _ _ _ _ h=>Vi.keep h (We.refl _ _) fun _ hk=>⟨hk.1.1,hk.2⟩).cells h.own6 fun g hg=>⟨(h.nw6 g hg).2,by have:=(h.nw6 g hg).1;have:=h.hx;omega⟩,(h.r7.mono fun _ _ _ _ _ h=>Vk.keep h (We.refl _ _) fun _ hk=>⟨hk.1.1,hk.2⟩).cells h.own7 fun g hg=>⟨(h.nw7 g hg).2,by have:=(h.nw7 g hg).1;have:=h.hx;omega⟩⟩
end
end
end Go.Proofs.YtgmgcadlkebokaaGreatDoor
