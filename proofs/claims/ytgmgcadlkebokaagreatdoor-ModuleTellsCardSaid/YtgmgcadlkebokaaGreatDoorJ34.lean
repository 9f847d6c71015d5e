/- A part of the proof. -/
import Derived.Deep.Quiet
import Derived.Test.YtgmgcadlkebokaaGreatDoorJ29
import Derived.Test.YtgmgcadlkebokaaGreatDoorJ25
namespace Go.Proofs.YtgmgcadlkebokaaGreatDoor
section
open Go.RowKit
section
variable {P:Program} {ops:Array Oper} {C:World→Prop}
theorem WpQ.take {Q:Act→Prop} {a:Act} {o:Oper} {rest:List Oper} {v:Value} (hw:Region.wanted o (yielded ops a.tmps)=true) (h:∀ w,C w→o.quietAt P a C w v) (hk:wpQuiet P ops C Q rest (a.put o.dst v)):wpQuiet P ops C Q (o :: rest) a:=by
 show if _ then _ else _;rw[if_pos hw];exact⟨v,h,hk⟩
end
end
section
open Go.RowKit
set_option maxHeartbeats 1000000
set_option maxRecDepth 100000
theorem ZI {P:Prop}(h:P:=by
 cases b with
 | true =>
  have HY2:=hD (HY.out rfl);clear HY HN;simp only[Bool.not_true]at hnq;go_wp2_with fail
  go_quiet (fail)
  go_wp2;go_roundw
  case rel=>exact⟨k+1,_,by omega,by go_num,rfl,HY2⟩
  case measure=>simp[intOf];omega
 | false =>
  have HN2:=hD (HN.out rfl);clear HY HN;simp only[Bool.not_false]at hnq;go_wp2_with fail
  go_quiet (fail)
  go_wp2;go_ret;exact⟨WA (by rw[HN2.out]),Wn (Wn (bR _ _) _) _⟩):P:=h
theorem Z4 {P:Prop}(h:P:=by
 have hd:decide ((k:Int)<(n:Int))=false:=by simp;omega
 have HD:=hD (VA HQ1.out HQ2.out (show ∀ j,j<n→_ by rw[show n=k by omega];exact HE.out));go_wp2;go_ret;exact⟨WA (by rw[HD.out]),Wn (bR _ _) _⟩):P:=h
theorem Zbo {P:Prop}(h:P:=by
 go_wp2;go_ret;exact⟨WA (by rw[HN.out]),bR _ _⟩):P:=h
theorem beq_data (a d:ByteArray):(a==d)=(a.data==d.data):=by
 cases a;cases d;rfl
def V4 (a b:ByteArray):Bool:=decide (Vs a=Vs b)
theorem strE_beq (a d:ByteArray):(a==d)=V4 a d:=by
 unfold V4;rw[← nums_beq,Lib.toList_data,Lib.toList_data,beq_data];rw[Bool.eq_iff_iff];simp
theorem strE_list (a d:ByteArray):(a.toList==d.toList)=V4 a d:=nums_beq a d
theorem strE_refl (a:ByteArray):V4 a a=true:=decide_eq_true rfl
def Ww {α:Type} (e:α→α→Bool) (d:α) (a b:List α):Bool:=decide (a.length=b.length) && (List.range a.length).all fun j=>e (a.getD j d) (b.getD j d)
theorem WQ {α:Type} {e:α→α→Bool} {d:α} {a b:List α} (h:a.length≠b.length):Ww e d a b=false:=by unfold Ww;rw[decide_eq_false h];rfl
theorem W6 {α:Type} {e:α→α→Bool} {d:α} {a b:List α} {j n:Nat} (hn:a.length=n) (hj:j<n) (h:e (a.getD j d) (b.getD j d)=false):Ww e d a b=false:=by
 unfold Ww;have h1:((List.range a.length).all fun j=>e (a.getD j d) (b.getD j d))=false:=by
  rw[Bool.eq_false_iff];intro ha;rw[List.all_eq_true]at ha;rw[ha j (List.mem_range.2 (by omega))]at h;cases h
 rw[h1,Bool.and_false]
theorem VA {α:Type} {e:α→α→Bool} {d:α} {a b:List α} {n:Nat} (hn:a.length=n) (hm:b.length=n) (h:∀ j,j<n→e (a.getD j d) (b.getD j d)=true):Ww e d a b=true:=by
 unfold Ww;have h1:((List.range a.length).all fun j=>e (a.getD j d) (b.getD j d))=true:=by
  rw[List.all_eq_true];intro j hj;exact h j (by have:=List.mem_range.1 hj;omega)
 rw[h1,decide_eq_true (by omega)];rfl
theorem V1 {α:Type} {e:α→α→Bool} (he:∀ x,e x x=true) (d:α) (a:List α):Ww e d a a=true:=VA rfl rfl fun _ _=>he _
def UI {α:Type} (e:α→α→Bool) (d:α) (a b:List α) (k:Nat):Prop:=∀ j,j<k→e (a.getD j d) (b.getD j d)=true
theorem UI.zero {α:Type} (e:α→α→Bool) (d:α) (a b:List α):UI e d a b 0:=fun _ h=>absurd h (Nat.not_lt_zero _)
theorem UI.succ {α:Type} {e:α→α→Bool} {d:α} {a b:List α} {k:Nat} (h:UI e d a b k) (hk:e (a.getD k d) (b.getD k d)=true):UI e d a b (k+1):=fun j hj=>by
 rcases Nat.lt_or_ge j k with h1|h1
 ·exact h j h1
 ·rw[show j=k by omega];exact hk
def Vu (a b:List Int):Bool:=decide (a=b)
def Un (a b:List Nat):Bool:=decide (a=b)
def typE (x y:List Int×List Int):Bool:=Vu x.1 y.1 && Vu x.2 y.2
def impE (x y:ByteArray×ByteArray×Int):Bool:=V4 x.1 y.1 && (V4 x.2.1 y.2.1 && x.2.2==y.2.2)
def UC (x y:Int×Int):Bool:=x.1==y.1 && x.2==y.2
def VJ (x y:Int×Bool×Int):Bool:=x.1==y.1 && (x.2.1==y.2.1 && x.2.2==y.2.2)
def UA (x y:ByteArray×Int×Int):Bool:=V4 x.1 y.1 && (x.2.1==y.2.1 && x.2.2==y.2.2)
def insE (x y:Ins):Bool:=x.op==y.op && (x.a==y.a && (x.b==y.b && (x.n==y.n && Vu x.l y.l)))
def codeE (a b:List Ins):Bool:=Ww insE VX a b
def fncE (x y:Fnc):Bool:=x.ty==y.ty && (Vu x.loc y.loc && codeE x.code y.code)
def UB (x y:Dat):Bool:=x.act==y.act && (x.mem==y.mem && (x.pos==y.pos && Un x.bytes y.bytes))
def UE (x y:ByteArray×List Nat):Bool:=V4 x.1 y.1 && Un x.2 y.2
def sameB (m o:Vz):Bool :=
 Ww typE ([],[]) m.types o.types && Ww impE (ByteArray.empty,ByteArray.empty,0) m.imps o.imps && Ww fncE WW m.funs o.funs && Ww UC (0,0) m.mems o.mems && Ww VJ (0,false,0) m.globs o.globs && Ww UA (ByteArray.empty,0,0) m.exps o.exps && Ww UB VC m.datas o.datas && Ww UE (ByteArray.empty,[]) m.cus o.cus
theorem insE_refl (x:Ins):insE x x=true:=by simp[insE,Vu]
theorem sameB_refl (m:Vz):sameB m m=true:=by
 unfold sameB;rw[V1 (fun x=>by simp[typE,Vu]),V1 (fun x=>by simp[impE,strE_refl]),V1 (fun x=>by simp[fncE,Vu,codeE,V1 insE_refl]),V1 (fun x=>by simp[UC]),V1 (fun x=>by simp[VJ]),V1 (fun x=>by simp[UA,strE_refl]),V1 (fun x=>by simp[UB,Un]),V1 (fun x=>by simp[UE,Un,strE_refl])];rfl
theorem eq_str_in (w:World) (d:Nat) (t:TypeId) (ht:Tryz.prog.underlying t=some .string) (a b:ByteArray):(Op.equalIn (d+1) t (.string a) (.string b)).run Tryz.prog w=.ok (V4 a b) w:=by
 rw[← strE_beq];simp[Op.equalIn,run_underlying ht]
theorem eq_int_in (w:World) (d:Nat) (t:TypeId) (k:IntKind) (ht:Tryz.prog.underlying t=some (.int k)) (a b:Int):(Op.equalIn (d+1) t (.int k a) (.int k b)).run Tryz.prog w=.ok (a==b) w:=by
 simp[Op.equalIn,run_underlying ht]
theorem eq_bool_in (w:World) (d:Nat) (t:TypeId) (ht:Tryz.prog.underlying t=some .bool) (a b:Bool):(Op.equalIn (d+1) t (.bool a) (.bool b)).run Tryz.prog w=.ok (a==b) w:=by
 simp[Op.equalIn,run_underlying ht]
theorem eq_imp (w:World) (n:Nat) (x0 y0:ByteArray) (x1 y1:ByteArray) (x2 y2:Int):(Op.equalIn (n+2) 51 (.agg #[.string x0,.string x1,.int .i64 x2]) (.agg #[.string y0,.string y1,.int .i64 y2])).run Tryz.prog w=.ok (V4 x0 y0 && (V4 x1 y1 && (x2==y2))) w:=by
 have h0:Tryz.prog.stoodInHeld 51=false:=by kernel_rfl
 have p0:∀ (x0:ByteArray) (x1:ByteArray) (x2:Int) w,Sem.run Tryz.prog (part 9 #[.string x0,.string x1,.int .i64 x2] 0) w=.ok (.string x0) w:=fun x0 x1 x2 w=>by kernel_rfl
 have p1:∀ (x0:ByteArray) (x1:ByteArray) (x2:Int) w,Sem.run Tryz.prog (part 9 #[.string x0,.string x1,.int .i64 x2] 1) w=.ok (.string x1) w:=fun x0 x1 x2 w=>by kernel_rfl
 have p2:∀ (x0:ByteArray) (x1:ByteArray) (x2:Int) w,Sem.run Tryz.prog (part 3 #[.string x0,.string x1,.int .i64 x2] 2) w=.ok (.int .i64 x2) w:=fun x0 x1 x2 w=>by kernel_rfl
 rw[Op.equalIn];simp[run_underlying Tryz.underlying51,h0,eq_int_in w n 3 .i64 Tryz.underlying3,eq_str_in w n 9 Tryz.underlying9,p0,p1,p2];cases hs0:V4 x0 y0 <;> cases hs1:V4 x1 y1 <;> by_cases hc2:x2=y2 <;> simp[hc2]
theorem neq_imp (w:World) (x0 y0:ByteArray) (x1 y1:ByteArray) (x2 y2:Int):(binOp .neq 51 (.agg #[.string x0,.string x1,.int .i64 x2]) (.agg #[.string y0,.string y1,.int .i64 y2])).run Tryz.prog w=.ok (.bool (!(V4 x0 y0 && (V4 x1 y1 && (x2==y2))))) w:=by
 have h:∀ w,(Op.equal 51 (.agg #[.string x0,.string x1,.int .i64 x2]) (.agg #[.string y0,.string y1,.int .i64 y2])).run Tryz.prog w=.ok (V4 x0 y0 && (V4 x1 y1 && (x2==y2))) w:=fun w=>eq_imp w 9998 x0 y0 x1 y1 x2 y2;simp[binOp,h]
theorem eq_mem (w:World) (n:Nat) (x0 y0:Int) (x1 y1:Int):(Op.equalIn (n+2) 56 (.agg #[.int .i64 x0,.int .i64 x1]) (.agg #[.int .i64 y0,.int .i64 y1])).run Tryz.prog w=.ok (x0==y0 && (x1==y1)) w:=by
 have h0:Tryz.prog.stoodInHeld 56=false:=by kernel_rfl
 have p0:∀ (x0:Int) (x1:Int) w,Sem.run Tryz.prog (part 3 #[.int .i64 x0,.int .i64 x1] 0) w=.ok (.int .i64 x0) w:=fun x0 x1 w=>by kernel_rfl
 have p1:∀ (x0:Int) (x1:Int) w,Sem.run Tryz.prog (part 3 #[.int .i64 x0,.int .i64 x1] 1) w=.ok (.int .i64 x1) w:=fun x0 x1 w=>by kernel_rfl
 rw[Op.equalIn];simp[run_underlying Tryz.underlying56,h0,eq_int_in w n 3 .i64 Tryz.underlying3,p0,p1];by_cases hc0:x0=y0 <;> by_cases hc1:x1=y1 <;> simp[hc0,hc1]
theorem neq_mem (w:World) (x0 y0:Int) (x1 y1:Int):(binOp .neq 56 (.agg #[.int .i64 x0,.int .i64 x1]) (.agg #[.int .i64 y0,.int .i64 y1])).run Tryz.prog w=.ok (.bool (!(x0==y0 && (x1==y1)))) w:=by
 have h:∀ w,(Op.equal 56 (.agg #[.int .i64 x0,.int .i64 x1]) (.agg #[.int .i64 y0,.int .i64 y1])).run Tryz.prog w=.ok (x0==y0 && (x1==y1)) w:=fun w=>eq_mem w 9998 x0 y0 x1 y1;simp[binOp,h]
theorem eq_glob (w:World) (n:Nat) (x0 y0:Int) (x1 y1:Bool) (x2 y2:Int):(Op.equalIn (n+2) 53 (.agg #[.int .i64 x0,.bool x1,.int .u64 x2]) (.agg #[.int .i64 y0,.bool y1,.int .u64 y2])).run Tryz.prog w=.ok (x0==y0 && (x1==y1 && (x2==y2))) w:=by
 have h0:Tryz.prog.stoodInHeld 53=false:=by kernel_rfl
 have p0:∀ (x0:Int) (x1:Bool) (x2:Int) w,Sem.run Tryz.prog (part 3 #[.int .i64 x0,.bool x1,.int .u64 x2] 0) w=.ok (.int .i64 x0) w:=fun x0 x1 x2 w=>by kernel_rfl
 have p1:∀ (x0:Int) (x1:Bool) (x2:Int) w,Sem.run Tryz.prog (part 4 #[.int .i64 x0,.bool x1,.int .u64 x2] 1) w=.ok (.bool x1) w:=fun x0 x1 x2 w=>by kernel_rfl
 have p2:∀ (x0:Int) (x1:Bool) (x2:Int) w,Sem.run Tryz.prog (part 24 #[.int .i64 x0,.bool x1,.int .u64 x2] 2) w=.ok (.int .u64 x2) w:=fun x0 x1 x2 w=>by kernel_rfl
 rw[Op.equalIn];simp[run_underlying Tryz.underlying53,h0,eq_bool_in w n 4 Tryz.underlying4,eq_int_in w n 3 .i64 Tryz.underlying3,eq_int_in w n 24 .u64 Tryz.underlying24,p0,p1,p2];by_cases hc0:x0=y0 <;> by_cases hc1:x1=y1 <;> by_cases hc2:x2=y2 <;> simp[hc0,hc1,hc2]
theorem neq_glob (w:World) (x0 y0:Int) (x1 y1:Bool) (x2 y2:Int):(binOp .neq 53 (.agg #[.int .i64 x0,.bool x1,.int .u64 x2]) (.agg #[.int .i64 y0,.bool y1,.int .u64 y2])).run Tryz.prog w=.ok (.bool (!(x0==y0 && (x1==y1 && (x2==y2))))) w:=by
 have h:∀ w,(Op.equal 53 (.agg #[.int .i64 x0,.bool x1,.int .u64 x2]) (.agg #[.int .i64 y0,.bool y1,.int .u64 y2])).run Tryz.prog w=.ok (x0==y0 && (x1==y1 && (x2==y2))) w:=fun w=>eq_glob w 9998 x0 y0 x1 y1 x2 y2;simp[binOp,h]
theorem eq_exp (w:World) (n:Nat) (x0 y0:ByteArray) (x1 y1:Int) (x2 y2:Int):(Op.equalIn (n+2) 61 (.agg #[.string x0,.int .i64 x1,.int .i64 x2]) (.agg #[.string y0,.int .i64 y1,.int .i64 y2])).run Tryz.prog w=.ok (V4 x0 y0 && (x1==y1 && (x2==y2))) w:=by
 have h0:Tryz.prog.stoodInHeld 61=false:=by kernel_rfl
 have p0:∀ (x0:ByteArray) (x1:Int) (x2:Int) w,Sem.run Tryz.prog (part 9 #[.string x0,.int .i64 x1,.int .i64 x2] 0) w=.ok (.string x0) w:=fun x0 x1 x2 w=>by kernel_rfl
 have p1:∀ (x0:ByteArray) (x1:Int) (x2:Int) w,Sem.run Tryz.prog (part 3 #[.string x0,.int .i64 x1,.int .i64 x2] 1) w=.ok (.int .i64 x1) w:=fun x0 x1 x2 w=>by kernel_rfl
 have p2:∀ (x0:ByteArray) (x1:Int) (x2:Int) w,Sem.run Tryz.prog (part 3 #[.string x0,.int .i64 x1,.int .i64 x2] 2) w=.ok (.int .i64 x2) w:=fun x0 x1 x2 w=>by kernel_rfl
 rw[Op.equalIn];simp[run_underlying Tryz.underlying61,h0,eq_int_in w n 3 .i64 Tryz.underlying3,eq_str_in w n 9 Tryz.underlying9,p0,p1,p2];cases hs0:V4 x0 y0 <;> by_cases hc1:x1=y1 <;> by_cases hc2:x2=y2 <;> simp[hc1,hc2]
theorem neq_exp (w:World) (x0 y0:ByteArray) (x1 y1:Int) (x2 y2:Int):(binOp .neq 61 (.agg #[.string x0,.int .i64 x1,.int .i64 x2]) (.agg #[.string y0,.int .i64 y1,.int .i64 y2])).run Tryz.prog w=.ok (.bool (!(V4 x0 y0 && (x1==y1 && (x2==y2))))) w:=by
 have h:∀ w,(Op.equal 61 (.agg #[.string x0,.int .i64 x1,.int .i64 x2]) (.agg #[.string y0,.int .i64 y1,.int .i64 y2])).run Tryz.prog w=.ok (V4 x0 y0 && (x1==y1 && (x2==y2))) w:=fun w=>eq_exp w 9998 x0 y0 x1 y1 x2 y2;simp[binOp,h]
theorem equal_imp (K:Nat→Prop) (w:World) (v1 v2:Value) (q1 q2:List (ByteArray×ByteArray×Int)) (h1:ImpsK K w v1 q1) (h2:ImpsK K w v2 q2):Calls Tryz.prog 39 #[v1,v2] w (Wj (Ww impE (ByteArray.empty,ByteArray.empty,0) q1 q2) w):=by
 obtain⟨A1,c1,hv1,hl1,hm1⟩:=Wb.form h1;obtain⟨A2,c2,hv2,hl2,hm2⟩:=Wb.form h2;unfold maxLen at hm1 hm2;rw[hv1]at h1 ⊢;rw[hv2]at h2 ⊢;have H1:=hD h1;have H2:=hD h2;clear h1 h2 hv1 hv2;generalize hQ1:q1.length=n at *;generalize hQ2:q2.length=m at *;have HQ1:=hD hQ1;have HQ2:=hD hQ2;clear hQ1 hQ2;by_cases hnm:n=m
 ·subst hnm;go_enter Tryz.func39,Tryz.ntmps39;go_wp2_with fail
  go_loopw [13] (fun i wr=>∃ k a:Nat,k≤n∧i=.int .i64 (k:Int)∧wr=w.drewN a∧Hid (UI impE (ByteArray.empty,ByteArray.empty,0) q1 q2 k)) (fun i _=>n - (intOf i).toNat)
  case atStart=>exact⟨0,0,nZ _,rfl,rfl,hD (UI.zero _ _ _ _)⟩
  case round =>
   obtain⟨k,a,hk,rfl,rfl,HE⟩:=hrel;by_cases hlt:k<n
   ·have hkn:(0:Int)≤k:=Int.natCast_nonneg _;have hd:decide ((k:Int)<(n:Int))=true:=by simp;omega
    obtain⟨g1,o1,c3,he,_,_⟩:=Wb.some_ H1.out (by first|omega|(rw[HQ1.out];omega));simp only[vI]at he;obtain⟨rfl,-,-⟩:=he;obtain⟨g2,o2,c4,he,_,_⟩:=Wb.some_ H2.out (by first|omega|(rw[HQ2.out];omega));simp only[vI]at he;obtain⟨rfl,-,-⟩:=he;obtain⟨u,k10,hu⟩:=Wb.at_ H1.out k 0 (by first|exact hlt|(rw[HQ1.out];exact hlt)) (by decide);obtain rfl:u=.string (q1.getD k (ByteArray.empty,ByteArray.empty,0)).1:=hu;obtain⟨u,k11,hu⟩:=Wb.at_ H1.out k 1 (by first|exact hlt|(rw[HQ1.out];exact hlt)) (by decide);obtain rfl:u=.string (q1.getD k (ByteArray.empty,ByteArray.empty,0)).2.1:=hu;obtain⟨u,k12,hu⟩:=Wb.at_ H1.out k 2 (by first|exact hlt|(rw[HQ1.out];exact hlt)) (by decide);obtain rfl:u=.int .i64 (q1.getD k (ByteArray.empty,ByteArray.empty,0)).2.2:=hu;rw[Nat.add_zero]at k10;obtain⟨u,k20,hu⟩:=Wb.at_ H2.out k 0 (by first|exact hlt|(rw[HQ2.out];exact hlt)) (by decide);obtain rfl:u=.string (q2.getD k (ByteArray.empty,ByteArray.empty,0)).1:=hu;obtain⟨u,k21,hu⟩:=Wb.at_ H2.out k 1 (by first|exact hlt|(rw[HQ2.out];exact hlt)) (by decide);obtain rfl:u=.string (q2.getD k (ByteArray.empty,ByteArray.empty,0)).2.1:=hu;obtain⟨u,k22,hu⟩:=Wb.at_ H2.out k 2 (by first|exact hlt|(rw[HQ2.out];exact hlt)) (by decide);obtain rfl:u=.int .i64 (q2.getD k (ByteArray.empty,ByteArray.empty,0)).2.2:=hu;rw[Nat.add_zero]at k20;have HY:=hD (fun (h:impE (q1.getD k (ByteArray.empty,ByteArray.empty,0)) (q2.getD k (ByteArray.empty,ByteArray.empty,0))=true)=>HE.out.succ h);have HN:=hD (fun (h:impE (q1.getD k (ByteArray.empty,ByteArray.empty,0)) (q2.getD k (ByteArray.empty,ByteArray.empty,0))=false)=>W6 HQ1.out hlt h);generalize q1.getD k (ByteArray.empty,ByteArray.empty,0)=x at k10 k11 k12 HY HN;generalize q2.getD k (ByteArray.empty,ByteArray.empty,0)=y at k20 k21 k22 HY HN;obtain⟨x0,x1,x2⟩:=x;obtain⟨y0,y1,y2⟩:=y;simp only at k10 k20 k11 k21 k12 k22;have hnq:=fun w=>neq_imp w x0 y0 x1 y1 x2 y2;rw[show impE (x0,x1,x2) (y0,y1,y2)=(V4 x0 y0 && (V4 x1 y1 && (x2==y2))) from rfl]at HY HN;generalize (V4 x0 y0 && (V4 x1 y1 && (x2==y2)))=b at hnq HY HN;exact ZI
   ·exact Z4
 ·have hd:((n:Int) != (m:Int))=true:=by simp;omega
  have HN:=hD (WQ (e:=impE) (d:=(ByteArray.empty,ByteArray.empty,0)) (a:=q1) (b:=q2) (by rw[HQ1.out,HQ2.out];exact hnm));go_enter Tryz.func39,Tryz.ntmps39;exact Zbo
theorem equal_mem (K:Nat→Prop) (w:World) (v1 v2:Value) (q1 q2:List (Int×Int)) (h1:MemsK K w v1 q1) (h2:MemsK K w v2 q2):Calls Tryz.prog 41 #[v1,v2] w (Wj (Ww UC (0,0) q1 q2) w):=by
 obtain⟨A1,c1,hv1,hl1,hm1⟩:=Wb.form h1;obtain⟨A2,c2,hv2,hl2,hm2⟩:=Wb.form h2;unfold maxLen at hm1 hm2;rw[hv1]at h1 ⊢;rw[hv2]at h2 ⊢;have H1:=hD h1;have H2:=hD h2;clear h1 h2 hv1 hv2;generalize hQ1:q1.length=n at *;generalize hQ2:q2.length=m at *;have HQ1:=hD hQ1;have HQ2:=hD hQ2;clear hQ1 hQ2;by_cases hnm:n=m
 ·subst hnm;go_enter Tryz.func41,Tryz.ntmps41;go_wp2_with fail
  go_loopw [13] (fun i wr=>∃ k a:Nat,k≤n∧i=.int .i64 (k:Int)∧wr=w.drewN a∧Hid (UI UC (0,0) q1 q2 k)) (fun i _=>n - (intOf i).toNat)
  case atStart=>exact⟨0,0,nZ _,rfl,rfl,hD (UI.zero _ _ _ _)⟩
  case round =>
   obtain⟨k,a,hk,rfl,rfl,HE⟩:=hrel;by_cases hlt:k<n
   ·have hkn:(0:Int)≤k:=Int.natCast_nonneg _;have hd:decide ((k:Int)<(n:Int))=true:=by simp;omega
    obtain⟨g1,o1,c3,he,_,_⟩:=Wb.some_ H1.out (by first|omega|(rw[HQ1.out];omega));simp only[vI]at he;obtain⟨rfl,-,-⟩:=he;obtain⟨g2,o2,c4,he,_,_⟩:=Wb.some_ H2.out (by first|omega|(rw[HQ2.out];omega));simp only[vI]at he;obtain⟨rfl,-,-⟩:=he;obtain⟨u,k10,hu⟩:=Wb.at_ H1.out k 0 (by first|exact hlt|(rw[HQ1.out];exact hlt)) (by decide);obtain rfl:u=.int .i64 (q1.getD k (0,0)).1:=hu;obtain⟨u,k11,hu⟩:=Wb.at_ H1.out k 1 (by first|exact hlt|(rw[HQ1.out];exact hlt)) (by decide);obtain rfl:u=.int .i64 (q1.getD k (0,0)).2:=hu;rw[Nat.add_zero]at k10;obtain⟨u,k20,hu⟩:=Wb.at_ H2.out k 0 (by first|exact hlt|(rw[HQ2.out];exact hlt)) (by decide);obtain rfl:u=.int .i64 (q2.getD k (0,0)).1:=hu;obtain⟨u,k21,hu⟩:=Wb.at_ H2.out k 1 (by first|exact hlt|(rw[HQ2.out];exact hlt)) (by decide);obtain rfl:u=.int .i64 (q2.getD k (0,0)).2:=hu;rw[Nat.add_zero]at k20;have HY:=hD (fun (h:UC (q1.getD k (0,0)) (q2.getD k (0,0))=true)=>HE.out.succ h);have HN:=hD (fun (h:UC (q1.getD k (0,0)) (q2.getD k (0,0))=false)=>W6 HQ1.out hlt h);generalize q1.getD k (0,0)=x at k10 k11 HY HN;generalize q2.getD k (0,0)=y at k20 k21 HY HN;obtain⟨x0,x1⟩:=x;obtain⟨y0,y1⟩:=y;simp only at k10 k20 k11 k21;have hnq:=fun w=>neq_mem w x0 y0 x1 y1;rw[show UC (x0,x1) (y0,y1)=(x0==y0 && (x1==y1)) from rfl]at HY HN;generalize (x0==y0 && (x1==y1))=b at hnq HY HN;exact ZI
   ·exact Z4
 ·have hd:((n:Int) != (m:Int))=true:=by simp;omega
  have HN:=hD (WQ (e:=UC) (d:=(0,0)) (a:=q1) (b:=q2) (by rw[HQ1.out,HQ2.out];exact hnm));go_enter Tryz.func41,Tryz.ntmps41;exact Zbo
theorem equal_glob (K:Nat→Prop) (w:World) (v1 v2:Value) (q1 q2:List (Int×Bool×Int)) (h1:GlobsK K w v1 q1) (h2:GlobsK K w v2 q2):Calls Tryz.prog 42 #[v1,v2] w (Wj (Ww VJ (0,false,0) q1 q2) w):=by
 obtain⟨A1,c1,hv1,hl1,hm1⟩:=Wb.form h1;obtain⟨A2,c2,hv2,hl2,hm2⟩:=Wb.form h2;unfold maxLen at hm1 hm2;rw[hv1]at h1 ⊢;rw[hv2]at h2 ⊢;have H1:=hD h1;have H2:=hD h2;clear h1 h2 hv1 hv2;generalize hQ1:q1.length=n at *;generalize hQ2:q2.length=m at *;have HQ1:=hD hQ1;have HQ2:=hD hQ2;clear hQ1 hQ2;by_cases hnm:n=m
 ·subst hnm;go_enter Tryz.func42,Tryz.ntmps42;go_wp2_with fail
  go_loopw [13] (fun i wr=>∃ k a:Nat,k≤n∧i=.int .i64 (k:Int)∧wr=w.drewN a∧Hid (UI VJ (0,false,0) q1 q2 k)) (fun i _=>n - (intOf i).toNat)
  case atStart=>exact⟨0,0,nZ _,rfl,rfl,hD (UI.zero _ _ _ _)⟩
  case round =>
   obtain⟨k,a,hk,rfl,rfl,HE⟩:=hrel;by_cases hlt:k<n
   ·have hkn:(0:Int)≤k:=Int.natCast_nonneg _;have hd:decide ((k:Int)<(n:Int))=true:=by simp;omega
    obtain⟨g1,o1,c3,he,_,_⟩:=Wb.some_ H1.out (by first|omega|(rw[HQ1.out];omega));simp only[vI]at he;obtain⟨rfl,-,-⟩:=he;obtain⟨g2,o2,c4,he,_,_⟩:=Wb.some_ H2.out (by first|omega|(rw[HQ2.out];omega));simp only[vI]at he;obtain⟨rfl,-,-⟩:=he;obtain⟨u,k10,hu⟩:=Wb.at_ H1.out k 0 (by first|exact hlt|(rw[HQ1.out];exact hlt)) (by decide);obtain rfl:u=.int .i64 (q1.getD k (0,false,0)).1:=hu;obtain⟨u,k11,hu⟩:=Wb.at_ H1.out k 1 (by first|exact hlt|(rw[HQ1.out];exact hlt)) (by decide);obtain rfl:u=.bool (q1.getD k (0,false,0)).2.1:=hu;obtain⟨u,k12,hu⟩:=Wb.at_ H1.out k 2 (by first|exact hlt|(rw[HQ1.out];exact hlt)) (by decide);obtain rfl:u=.int .u64 (q1.getD k (0,false,0)).2.2:=hu.1;rw[Nat.add_zero]at k10;obtain⟨u,k20,hu⟩:=Wb.at_ H2.out k 0 (by first|exact hlt|(rw[HQ2.out];exact hlt)) (by decide);obtain rfl:u=.int .i64 (q2.getD k (0,false,0)).1:=hu;obtain⟨u,k21,hu⟩:=Wb.at_ H2.out k 1 (by first|exact hlt|(rw[HQ2.out];exact hlt)) (by decide);obtain rfl:u=.bool (q2.getD k (0,false,0)).2.1:=hu;obtain⟨u,k22,hu⟩:=Wb.at_ H2.out k 2 (by first|exact hlt|(rw[HQ2.out];exact hlt)) (by decide);obtain rfl:u=.int .u64 (q2.getD k (0,false,0)).2.2:=hu.1;rw[Nat.add_zero]at k20;have HY:=hD (fun (h:VJ (q1.getD k (0,false,0)) (q2.getD k (0,false,0))=true)=>HE.out.succ h);have HN:=hD (fun (h:VJ (q1.getD k (0,false,0)) (q2.getD k (0,false,0))=false)=>W6 HQ1.out hlt h);generalize q1.getD k (0,false,0)=x at k10 k11 k12 HY HN;generalize q2.getD k (0,false,0)=y at k20 k21 k22 HY HN;obtain⟨x0,x1,x2⟩:=x;obtain⟨y0,y1,y2⟩:=y;simp only at k10 k20 k11 k21 k12 k22;have hnq:=fun w=>neq_glob w x0 y0 x1 y1 x2 y2;rw[show VJ (x0,x1,x2) (y0,y1,y2)=(x0==y0 && (x1==y1 && (x2==y2))) from rfl]at HY HN;generalize (x0==y0 && (x1==y1 && (x2==y2)))=b at hnq HY HN;exact ZI
   ·exact Z4
 ·have hd:((n:Int) != (m:Int))=true:=by simp;omega
  have HN:=hD (WQ (e:=VJ) (d:=(0,false,0)) (a:=q1) (b:=q2) (by rw[HQ1.out,HQ2.out];exact hnm));go_enter Tryz.func42,Tryz.ntmps42;exact Zbo
theorem equal_exp (K:Nat→Prop) (w:World) (v1 v2:Value) (q1 q2:List (ByteArray×Int×Int)) (h1:ExpsK K w v1 q1) (h2:ExpsK K w v2 q2):Calls Tryz.prog 43 #[v1,v2] w (Wj (Ww UA (ByteArray.empty,0,0) q1 q2) w):=by
 obtain⟨A1,c1,hv1,hl1,hm1⟩:=Wb.form h1;obtain⟨A2,c2,hv2,hl2,hm2⟩:=Wb.form h2;unfold maxLen at hm1 hm2;rw[hv1]at h1 ⊢;rw[hv2]at h2 ⊢;have H1:=hD h1;have H2:=hD h2;clear h1 h2 hv1 hv2;generalize hQ1:q1.length=n at *;generalize hQ2:q2.length=m at *;have HQ1:=hD hQ1;have HQ2:=hD hQ2;clear hQ1 hQ2;by_cases hnm:n=m
 ·subst hnm;go_enter Tryz.func43,Tryz.ntmps43;go_wp2_with fail
  go_loopw [13] (fun i wr=>∃ k a:Nat,k≤n∧i=.int .i64 (k:Int)∧wr=w.drewN a∧Hid (UI UA (ByteArray.empty,0,0) q1 q2 k)) (fun i _=>n - (intOf i).toNat)
  case atStart=>exact⟨0,0,nZ _,rfl,rfl,hD (UI.zero _ _ _ _)⟩
  case round =>
   obtain⟨k,a,hk,rfl,rfl,HE⟩:=hrel;by_cases hlt:k<n
   ·have hkn:(0:Int)≤k:=Int.natCast_nonneg _;have hd:decide ((k:Int)<(n:Int))=true:=by simp;omega
    obtain⟨g1,o1,c3,he,_,_⟩:=Wb.some_ H1.out (by first|omega|(rw[HQ1.out];omega));simp only[vI]at he;obtain⟨rfl,-,-⟩:=he;obtain⟨g2,o2,c4,he,_,_⟩:=Wb.some_ H2.out (by first|omega|(rw[HQ2.out];omega));simp only[vI]at he;obtain⟨rfl,-,-⟩:=he;obtain⟨u,k10,hu⟩:=Wb.at_ H1.out k 0 (by first|exact hlt|(rw[HQ1.out];exact hlt)) (by decide);obtain rfl:u=.string (q1.getD k (ByteArray.empty,0,0)).1:=hu;obtain⟨u,k11,hu⟩:=Wb.at_ H1.out k 1 (by first|exact hlt|(rw[HQ1.out];exact hlt)) (by decide);obtain rfl:u=.int .i64 (q1.getD k (ByteArray.empty,0,0)).2.1:=hu;obtain⟨u,k12,hu⟩:=Wb.at_ H1.out k 2 (by first|exact hlt|(rw[HQ1.out];exact hlt)) (by decide);obtain rfl:u=.int .i64 (q1.getD k (ByteArray.empty,0,0)).2.2:=hu;rw[Nat.add_zero]at k10;obtain⟨u,k20,hu⟩:=Wb.at_ H2.out k 0 (by first|exact hlt|(rw[HQ2.out];exact hlt)) (by decide);obtain rfl:u=.string (q2.getD k (ByteArray.empty,0,0)).1:=hu;obtain⟨u,k21,hu⟩:=Wb.at_ H2.out k 1 (by first|exact hlt|(rw[HQ2.out];exact hlt)) (by decide);obtain rfl:u=.int .i64 (q2.getD k (ByteArray.empty,0,0)).2.1:=hu;obtain⟨u,k22,hu⟩:=Wb.at_ H2.out k 2 (by first|exact hlt|(rw[HQ2.out];exact hlt)) (by decide);obtain rfl:u=.int .i64 (q2.getD k (ByteArray.empty,0,0)).2.2:=hu;rw[Nat.add_zero]at k20;have HY:=hD (fun (h:UA (q1.getD k (ByteArray.empty,0,0)) (q2.getD k (ByteArray.empty,0,0))=true)=>HE.out.succ h);have HN:=hD (fun (h:UA (q1.getD k (ByteArray.empty,0,0)) (q2.getD k (ByteArray.empty,0,0))=false)=>W6 HQ1.out hlt h);generalize q1.getD k (ByteArray.empty,0,0)=x at k10 k11 k12 HY HN;generalize q2.getD k (ByteArray.empty,0,0)=y at k20 k21 k22 HY HN;obtain⟨x0,x1,x2⟩:=x;obtain⟨y0,y1,y2⟩:=y;simp only at k10 k20 k11 k21 k12 k22;have hnq:=fun w=>neq_exp w x0 y0 x1 y1 x2 y2;rw[show UA (x0,x1,x2) (y0,y1,y2)=(V4 x0 y0 && (x1==y1 && (x2==y2))) from rfl]at HY HN;generalize (V4 x0 y0 && (x1==y1 && (x2==y2)))=b at hnq HY HN;exact ZI
   ·exact Z4
 ·have hd:((n:Int) != (m:Int))=true:=by simp;omega
  have HN:=hD (WQ (e:=UA) (d:=(ByteArray.empty,0,0)) (a:=q1) (b:=q2) (by rw[HQ1.out,HQ2.out];exact hnm));go_enter Tryz.func43,Tryz.ntmps43;exact Zbo
end
end Go.Proofs.YtgmgcadlkebokaaGreatDoor
