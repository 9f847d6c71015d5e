/- A part of the proof. -/
import Derived.Test.YtgmgcadlkebokaaGreatDoorProg
import Derived.OrdersHeld
import Derived.Deep.RegionHeld
import Derived.WalkKit
import Derived.WalkLawsBesides
import Derived.Lib.Hide
import Derived.Below
import Derived.Deep.AppendLies
import Derived.Deep.QuietTactic
import Derived.BigQuiet
import Derived.WalkSmall
import Derived.Lib.BitFns
import Derived.Lib.Walk
import Derived.Deep.CutRange
import Derived.Test.YtgmgcadlkebokaaGreatDoorRows
import Derived.ProofKit
import Derived.LaidMore
import Derived.OpenShut
import Derived.Stop.Joined
import Derived.Stop.LaidErr
import Derived.Lib.LaidTab
import Derived.Laws.OwnMore
import Derived.Maps.AppendAt
import Derived.BigFrame
namespace Go.Proofs.YtgmgcadlkebokaaGreatDoor
section
open Go
section
variable {P:Program} {md:Region.Mode} {ops:Array Oper} {Q:Exit→Act→World→Prop} {S:World→Prop}
theorem mR (i d:Nat) {o1:Op} {o2:TypeId} {o3:String} {o4:Array Edge} {o5:Option (Nat×Bool)} {n:Nat} {l:Array Bool} {a:Act} {w:World} (ho:ops[i]?=some ⟨some d,o1,o2,o3,o4,o5⟩)
 (h:∀ K:Act→World→Prop,Shut (∀ a w,S w→(S w→wpAnyH P md ops Q S n (l.setIfInBounds i true) a w)→K a w)→if Region.wanted ⟨some d,o1,o2,o3,o4,o5⟩ (yielded ops a.tmps)=true then Oper.wp P ⟨some d,o1,o2,o3,o4,o5⟩ a w K Q else K (a.put (some d) undef) w)
 (hr:Region.ready md ops l=[i]:=by kernel_rfl):wpAnyH P md ops Q S (n+1) l a w:=wpAnyH_ready hr (by simp) (AllReadyH.cons ho h AllReadyH.nil)
theorem mT (i d:Nat) {o1:Op} {o2:TypeId} {o3:String} {o4:Array Edge} {o5:Option (Nat×Bool)} {n:Nat} {v:Value} {l l2:Array Bool} {a a2:Act} {w:World} (hi:ops[i]?=some ⟨some d,o1,o2,o3,o4,o5⟩) (hS:S w)
 (h:wpAnyH P md ops Q S n l2 a2 w) (hw:Region.wanted ⟨some d,o1,o2,o3,o4,o5⟩ (yielded ops a.tmps)=true:=by rfl) (hy:∀ w',S w'→(execOp a.eval ⟨some d,o1,o2,o3,o4,o5⟩).run P w'=.ok (.value v) w':=by intro wS hSw;go_simp;try with_reducible rfl)
 (hl:l.setIfInBounds i true=l2:=by simp only[List.setIfInBounds_toArray,List.set] <;> rfl) (ha:a.put (some d) v=a2:=by simp only[Act.put,List.setIfInBounds_toArray,List.set] <;> rfl)
 (hs:Region.noSelect ops=true:=by kernel_rfl) (hf:Region.free md ops l i=true:=by kernel_rfl) (hr:(Region.ready md ops l).contains i=true:=by kernel_rfl)
 (hQ:∀ c a w,Q (.panic c) (a.put (some d) v) w→Q (.panic c) a w:=by exact fun _ _ _ h=>h):wpAnyH P md ops Q S (n+1) l a w:=wpAnyH_take hi hs hf hr hQ (.inl ⟨hw,hy⟩) hS (by rw[hl,ha];exact h)
theorem mN (i d:Nat) {o1:Op} {o2:TypeId} {o3:String} {o4:Array Edge} {o5:Option (Nat×Bool)} {n:Nat} {l l2:Array Bool} {a a2:Act} {w:World} (hi:ops[i]?=some ⟨some d,o1,o2,o3,o4,o5⟩) (hS:S w)
 (h:wpAnyH P md ops Q S n l2 a2 w) (hw:Region.wanted ⟨some d,o1,o2,o3,o4,o5⟩ (yielded ops a.tmps)=false:=by rfl)
 (hl:l.setIfInBounds i true=l2:=by simp only[List.setIfInBounds_toArray,List.set] <;> rfl) (ha:a.put (some d) undef=a2:=by simp only[Act.put,List.setIfInBounds_toArray,List.set] <;> rfl)
 (hs:Region.noSelect ops=true:=by kernel_rfl) (hf:Region.free md ops l i=true:=by kernel_rfl) (hr:(Region.ready md ops l).contains i=true:=by kernel_rfl)
 (hQ:∀ c a w,Q (.panic c) (a.put (some d) undef) w→Q (.panic c) a w:=by exact fun _ _ _ h=>h):wpAnyH P md ops Q S (n+1) l a w:=wpAnyH_take hi hs hf hr hQ (.inr ⟨hw,rfl⟩) hS (by rw[hl,ha];exact h)
end
theorem sA {α:Type} (l:List α) (i:Nat) (x:α):l.toArray.setIfInBounds i x=(l.set i x).toArray:=List.setIfInBounds_toArray ..
end
section
open Go.RowKit
def Wj (b:Bool) (w:World) (e:Ending) (w':World):Prop:=e=.returned (.bool b)∧Below w.heap.size w w'
def ValPost (v:Value) (w:World) (e:Ending) (w':World):Prop:=e=.returned v∧Below w.heap.size w w'
theorem Wa {a b c:World} (h:Below a.heap.size a b) (k:Below b.heap.size b c):Below a.heap.size a c:=h.trans (k.mono h.size)
theorem Wn {B:Nat} {a w:World} (h:Below B a w) (n:Nat):Below B a (w.drewN n):=⟨h.os,h.tape,h.output,h.size,h.block⟩
theorem Wg {w w1:World} (h:Below w.heap.size w w1) (o:Obj):Below w.heap.size w (w1.alloc o):=h.alloc h.size o
theorem WA {b c:Bool} (h:b=c):Ending.returned (.bool b)=.returned (.bool c):=by rw[h]
theorem ret_int {k:IntKind} {a b:Int} (h:a=b):Ending.returned (.int k a)=.returned (.int k b):=by rw[h]
theorem owns_below {w w':World} {base:Nat} {e:TypeId} {size:Nat} {v:Value} {n:Nat} {xs:List Value} (h:w.ownsRow base e size v n xs) (hb:Below w.heap.size w w'):w'.ownsRow base e size v n xs:=by
 obtain⟨h1,h2⟩:=h;refine⟨h1,?_⟩;rcases h2 with h2|⟨g,cap,cur,r1,r2,r3,r4⟩
 ·exact .inl h2
 ·have hg:g<w.heap.size:=(Array.getElem?_eq_some_iff.1 r3).1;exact .inr ⟨g,cap,cur,r1,r2,(hb.block g hg).trans r3,r4⟩
theorem add_lit0 (g j:Nat):(⟨g,0,none⟩:Addr).add j=⟨g,j,none⟩:=by unfold Addr.add;split <;> simp_all
theorem info_parts {P:Program} {t:TypeId} {z:Value} {s b:Nat} (h:(P.info? t).map (fun i=>(i.zero,i.size,i.bytes))=some (some z,s,b)) :
 ∃ i,P.info? t=some i∧i.zero=some z∧i.size=s∧i.bytes=b:=by
 cases hi:P.info? t with
 | none=>rw[hi]at h;cases h
 | some i =>
  rw[hi]at h;have h1:(i.zero,i.size,i.bytes)=(some z,s,b):=by simpa using h
  exact⟨i,rfl,congrArg Prod.fst h1,congrArg (·.2.1) h1,congrArg (·.2.2) h1⟩
end
section
open Go.RowKit
theorem hD {p:Prop} (h:p):Hid p:=Lib.hid h
theorem WK {n m k:Nat}:n<m→m≤k→n<k:=Nat.lt_of_lt_of_le
theorem nR (n:Nat):n≤n:=Nat.le_refl n
theorem nZ (n:Nat):0≤n:=Nat.zero_le n
theorem bR (B:Nat) (w:World):Below B w w:=Below.refl B w
theorem wL (w:World) (a:Addr) {u:Value} (h:w.cell? a=some u):a.block<w.heap.size:=World.block_lt_of_cell? w a h
theorem vI (a:Option Addr) (len cap:Nat) (b:Option Addr) (l c:Nat):(Value.slice a len cap=Value.slice b l c)=(a=b∧len=l∧cap=c):=Value.slice.injEq ..
theorem wN (w:World) (c:Array Value) (t:TypeId) (i:Nat):(w.alloc (.cells c t)).cell? ⟨w.heap.size,i,none⟩=c[i]?:=World.cell?_alloc_new w c t i
end
section
open Go.RowKit
def Bytes (w:World) (A:Option Addr) (l:List Nat):Prop :=
 (∀ x ∈ l,x<256)∧(0<l.length→∃ g o:Nat,A=some ⟨g,o,none⟩∧g<w.heap.size∧∀ j,j<l.length→w.cell? ⟨g,o+j,none⟩=some (.int .u8 (l.getD j 0:Nat)))
theorem Bytes.nil (w:World) (A:Option Addr):Bytes w A []:=⟨by simp,fun h=>by simp at h⟩
theorem Bytes.below {w w':World} {A:Option Addr} {l:List Nat} (h:Bytes w A l) (hb:Below w.heap.size w w'):Bytes w' A l :=
 ⟨h.1,fun hl=>by
  obtain⟨g,o,r1,r2,r3⟩:=h.2 hl;exact⟨g,o,r1,WK r2 hb.size,fun j hj=>(hb.cell (p:=⟨g,o+j,none⟩) r2).trans (r3 j hj)⟩⟩
theorem getD_lt {l:List Nat} {b:Nat} (hb:0<b) (h:∀ x ∈ l,x<b) (j:Nat):l.getD j 0<b:=by
 rcases Nat.lt_or_ge j l.length with hj|hj
 ·have e:l.getD j 0=l[j]:=by simp[hj]
  rw[e];exact h _ (List.getElem_mem hj)
 ·simp[List.getD,hj,hb]
theorem Bytes.part {w:World} {A:Option Addr} {l:List Nat} (h:Bytes w A l) (k m:Nat) (hm:k+m≤l.length) (A':Option Addr) (hA:∀ g o:Nat,0<m→A=some ⟨g,o,none⟩→A'=some ⟨g,o+k,none⟩):Bytes w A' ((l.drop k).take m):=by
 refine⟨fun x hx=>h.1 x (List.mem_of_mem_drop (List.mem_of_mem_take hx)),fun hl=>?_⟩;have hm':0<m:=by simp at hl;omega
 obtain⟨g,o,rfl,r2,r3⟩:=h.2 (by omega);refine⟨g,o+k,hA g o hm' rfl,r2,fun j hj=>?_⟩;have hj':j<m:=by simp at hj;omega
 have e:((l.drop k).take m).getD j 0=l.getD (k+j) 0:=by simp[List.getD,hj']
 rw[e,Nat.add_assoc];exact r3 (k+j) (by omega)
end
section
def VB (x:Nat):Bool:=decide (128≤x) && decide (x<192)
def WC (x:Nat):Nat:=if 192≤x∧x<224 then 1 else if 224≤x∧x<240 then 2 else if 240≤x∧x<248 then 3 else 0
def maskB (k:Nat):Nat:=if k=1 then 32 else if k=2 then 16 else 8
def leastB (k:Nat):Nat:=if k=1 then 128 else if k=2 then 2048 else 65536
def W9 (v:Nat):List Nat→Nat
 | []=>v
 | y :: l=>W9 (v * 64+y % 64) l
def badV (k v:Nat):Bool:=decide (v<leastB k∨(55296≤v∧v<57344)∨1114112≤v)
def tvalB (x k:Nat) (t:List Nat):Nat:=W9 (x % maskB k) (t.take k)
def VN:List Nat→Nat
 | []=>0
 | x :: t=>if x<128 then 1 else if WC x=0∨t.length<WC x∨(t.take (WC x)).all VB=false∨badV (WC x) (tvalB x (WC x) t)=true then 0 else WC x+1
def charsB (l:List Nat):Option Nat :=
 if l=[] then some 0 else if h:VN l=0 then none else (charsB (l.drop (VN l))).map (·+1)
termination_by l.length
decreasing_by
 rename_i h0
 have:0<l.length:=List.length_pos_iff.2 h0;rw[List.length_drop];omega
def joinI (m:Nat):Option Nat→Int
 | none => -1
 | some t=>((m+t:Nat):Int)
def cntI (l:List Nat):Int:=joinI 0 (charsB l)
theorem charB_cons (x:Nat) (t:List Nat):VN (x :: t)=if x<128 then 1 else if WC x=0∨t.length<WC x∨(t.take (WC x)).all VB=false∨badV (WC x) (tvalB x (WC x) t)=true then 0 else WC x+1:=rfl
theorem charB_more {x:Nat} {t:List Nat} (hx:¬ x<128) (hc:VN (x :: t)≠0) :
 VN (x :: t)=WC x+1∧WC x≠0∧WC x≤t.length∧(t.take (WC x)).all VB=true∧badV (WC x) (tvalB x (WC x) t)=false:=by
 rw[charB_cons,if_neg hx]at hc ⊢
 split at hc
 ·exact absurd rfl hc
 ·rename_i h
  rw[if_neg h];refine⟨rfl,fun h0=>h (.inl h0),?_,?_,?_⟩
  ·rcases Nat.lt_or_ge t.length (WC x) with h1|h1
   ·exact absurd (.inr (.inl h1)) h
   ·exact h1
  ·cases h1:(t.take (WC x)).all VB with
   | true=>rfl
   | false=>exact absurd (.inr (.inr (.inl h1))) h
  ·cases h1:badV (WC x) (tvalB x (WC x) t) with
   | false=>rfl
   | true=>exact absurd (.inr (.inr (.inr h1))) h
theorem charB_good {x:Nat} {t:List Nat} (hx:¬ x<128) (h1:WC x≠0) (h2:WC x≤t.length) (h3:(t.take (WC x)).all VB=true) (h4:badV (WC x) (tvalB x (WC x) t)=false) :
 VN (x :: t)=WC x+1:=by
 rw[charB_cons,if_neg hx,if_neg];rintro(h|h|h|h)
 ·exact h1 h
 ·omega
 ·rw[h3]at h;cases h
 ·rw[h4]at h;cases h
theorem charB_one {x:Nat} {t:List Nat} (hx:x<128):VN (x :: t)=1:=by rw[charB_cons,if_pos hx]
theorem V0 {x:Nat} {t:List Nat} (hx:¬ x<128) (h:WC x=0∨t.length<WC x∨(t.take (WC x)).all VB=false∨badV (WC x) (tvalB x (WC x) t)=true):VN (x :: t)=0:=by
 rw[charB_cons,if_neg hx,if_pos h]
theorem moreB_le (x:Nat):WC x≤3:=by
 unfold WC;split;· omega
 ·split;· omega
  ·split <;> omega
theorem charB_le (l:List Nat):VN l≤l.length∧VN l≤4:=by
 cases l with
 | nil=>exact⟨Nat.le_refl _,Nat.zero_le _⟩
 | cons x t =>
  by_cases hx:x<128
  ·rw[charB_one hx];simp
  ·by_cases h:VN (x :: t)=0
   ·rw[h];simp
   ·obtain⟨h1,h2,h3,_⟩:=charB_more hx h;have:=moreB_le x;rw[h1];simp;omega
theorem cons_of {l:List Nat} (h:0<l.length):l=l.getD 0 0 :: l.drop 1:=by
 cases l with
 | nil=>simp at h
 | cons x t=>simp
theorem accB_snoc (l:List Nat):∀ (v y:Nat),W9 v (l++[y])=W9 v l * 64+y % 64:=by
 induction l with
 | nil=>intro v y;rfl
 | cons a l ih=>intro v y;exact ih _ y
theorem accB_take (t:List Nat) (j:Nat) (h:j<t.length) (v:Nat):W9 v (t.take (j+1))=W9 v (t.take j) * 64+t.getD j 0 % 64:=by
 have e:t.take (j+1)=t.take j++[t.getD j 0]:=by
  rw[List.take_succ_eq_append_getElem h];simp[List.getD,h]
 rw[e,accB_snoc]
theorem accB_lt (l:List Nat):∀ v,W9 v l<(v+1) * 64 ^ l.length:=by
 induction l with
 | nil=>intro v;simp[W9]
 | cons y l ih =>
  intro v;have:=ih (v * 64+y % 64);have h2:v * 64+y % 64+1≤(v+1) * 64:=by omega
  have h3:(v * 64+y % 64+1) * 64 ^ l.length≤(v+1) * 64 * 64 ^ l.length:=Nat.mul_le_mul_right _ h2;simp only[W9,List.length_cons];rw[Nat.pow_succ,Nat.mul_comm (64 ^ l.length) 64,← Nat.mul_assoc];omega
theorem accB_small (x k j:Nat) (t:List Nat) (hj:j≤3):W9 (x % maskB k) (t.take j)<8388608:=by
 have h:=accB_lt (t.take j) (x % maskB k);have hm:x % maskB k+1≤32:=by
  unfold maskB
  split
  ·omega
  ·split <;> omega
 have hl:(t.take j).length≤3:=by rw[List.length_take];omega
 have h2:(64:Nat) ^ (t.take j).length≤64 ^ 3:=Nat.pow_le_pow_right (by decide) hl;have h3:(x % maskB k+1) * 64 ^ (t.take j).length≤32 * 64 ^ 3:=Nat.mul_le_mul hm h2;omega
theorem V6 {t:List Nat} {j:Nat} (h:j<t.length) (ha:(t.take j).all VB=true) (hc:VB (t.getD j 0)=true):(t.take (j+1)).all VB=true:=by
 have e:t.take (j+1)=t.take j++[t.getD j 0]:=by
  rw[List.take_succ_eq_append_getElem h];simp[List.getD,h]
 rw[e,List.all_append,ha];simp only[List.all_cons,List.all_nil,hc,Bool.and_self]
theorem all_take_no {t:List Nat} {j k:Nat} (h:j<t.length) (hk:j<k) (hc:VB (t.getD j 0)=false):(t.take k).all VB=false:=by
 rw[Bool.eq_false_iff];intro ha;have h1:=List.all_eq_true.1 ha (t.getD j 0) (List.mem_iff_getElem?.2 ⟨j,by rw[List.getElem?_take,if_pos hk];simp[List.getD,h]⟩);rw[hc]at h1;cases h1
theorem charB_out {x:Nat} {t:List Nat} (h1:128≤x) (h2:x<194∨245≤x) (hx:x<256):VN (x :: t)=0:=by
 rcases Nat.eq_zero_or_pos (VN (x :: t)) with h|h
 ·exact h
 ·obtain⟨_,hm,hl,_,hb⟩:=charB_more (by omega) (Nat.ne_of_gt h);exfalso
  have hc:((x=192∨x=193)∧WC x=1)∨(245≤x∧x<248∧WC x=3):=by
   unfold WC at hm ⊢;by_cases a:192≤x∧x<224
   ·rw[if_pos a];left;omega
   ·rw[if_neg a]at hm ⊢;by_cases b:224≤x∧x<240
    ·omega
    ·rw[if_neg b]at hm ⊢;by_cases c:240≤x∧x<248
     ·rw[if_pos c];right;omega
     ·rw[if_neg c]at hm;exact absurd rfl hm
  rcases hc with ⟨hx1,h3⟩|⟨h4,h5,h3⟩
  ·rw[h3]at hl hb
   match t,hl with
   | y :: _,_ =>
    unfold badV tvalB at hb;simp only[List.take_succ_cons,List.take_zero,W9,maskB,leastB,decide_eq_false_iff_not]at hb;apply hb;left;simp;omega
  ·rw[h3]at hl hb
   match t,hl with
   | y1 :: y2 :: y3 :: _,_ =>
    unfold badV tvalB at hb;simp only[List.take_succ_cons,List.take_zero,W9,maskB,leastB,decide_eq_false_iff_not]at hb;apply hb;right;right;simp;omega
theorem joinI_end (m:Nat):joinI m (charsB [])=m:=by rw[charsB];simp[joinI]
theorem joinI_bad {l:List Nat} (h:0<l.length) (hc:VN l=0) (m:Nat):joinI m (charsB l) = -1:=by
 rw[charsB,if_neg (by rintro rfl;simp at h),dif_pos hc];rfl
theorem joinI_step {l:List Nat} (h:0<l.length) (hc:VN l≠0) (m:Nat):joinI m (charsB l)=joinI (m+1) (charsB (l.drop (VN l))):=by
 rw[charsB,if_neg (by rintro rfl;simp at h),dif_neg hc];cases charsB (l.drop (VN l)) with
 | none=>rfl
 | some t=>simp only[Option.map_some,joinI];omega
end
section
open Go.RowKit
set_option maxHeartbeats 1000000
set_option maxRecDepth 100000
theorem Zbi {P:Prop}(h:P:=by
 clear hV;rcases hbw with ⟨hb,w1⟩|⟨hb,w1,w2,w3⟩|⟨hb,w1,w2,w3,w4⟩|⟨hb,w1,w2,w4⟩|⟨hb,w1,w2,w3,w4⟩
 all_goals
  rw[hb]at HR;clear hb;go_wp2;go_ret;exact⟨ret_int (by rw[HR.out];rfl),Wn (bR _ _) _⟩):P:=h
theorem Zbq {P:Prop}(h:P:=by
 go_enter Tryz.func124,Tryz.ntmps124;go_wp2_with (go_at_call 125;refine(HL.out _).mono ?_;rintro e w' ⟨rfl,rfl⟩)
 go_ret;exact⟨rfl,bR _ _⟩):P:=h
theorem ZbH {P:Prop}(h:P:=by
 clear hac hat hcb hno;go_wp2;go_round
 case rel=>exact⟨j+1,by omega,by go_num,by rw[HAC.out];go_num,HAT⟩
 case measure=>simp[intOf];omega):P:=h
theorem ZbV {P:Prop}(h:P:=by
 have HN:=hD (hno hcb);clear hac hat hcb hno;go_wp2;go_ret;exact⟨ret_int (by rw[HN.out];rfl),Wn (bR _ _) _⟩):P:=h
def Tab (w:World):Prop:=∀ i,i<5→w.cell? ⟨0,i,none⟩=some (.int .i64 ([0,0,128,2048,65536].getD i 0))
theorem Tab.lt {w:World} (h:Tab w):0<w.heap.size:=wL w _ (h 0 (by decide))
theorem Tab.below {w w':World} (h:Tab w) (hb:Below w.heap.size w w'):Tab w':=fun i hi=>(hb.cell (p:=⟨0,i,none⟩) h.lt).trans (h i hi)
theorem len8_byte (x:Nat) (hx:x<256) (hs:x<Lib.len8tab.size):wrap64 ((Lib.len8tab[x]'hs).toNat:Int)=(Lib.bitLen x:Int):=by
 have e:=Lib.len8_int (x:Int) (by omega) (by omega);have e2:((Lib.len8tab[x]'hs).toNat:Int)=Lib.len8 (x:Int):=by simp only[Lib.len8,Int.toNat_natCast,ByteArray.getElem?_lt' _ _ hs,Option.getD_some]
 rw[e2];rw[Int.toNat_natCast]at e;unfold wrap64;exact e
theorem len8_any (x:Nat) (hx:x<256) (w:World):Calls Tryz.prog 126 #[.int .u8 (x:Int)] w fun e w'=>e=.returned (.int .i64 (Lib.bitLen x:Int))∧w=w':=by
 have HX:=hD hx;go_enter Tryz.func126,Tryz.ntmps126;go_wp2;go_ret;exact⟨ret_int (len8_byte x HX.out _),rfl⟩
theorem lead8_any (x:Nat) (hx:x<256) (w:World):Calls Tryz.prog 125 #[.int .u8 (x:Int)] w fun e w'=>e=.returned (.int .i64 (8 - (Lib.bitLen x:Int)))∧w=w':=by
 have hl:Lib.bitLen x≤8:=(by decide +kernel:∀ k:Fin 256,Lib.bitLen k.val≤8) ⟨x,hx⟩;go_enter Tryz.func125,Tryz.ntmps125;go_wp2_with (go_at_call 126;refine(len8_any x hx _).mono ?_;rintro e w' ⟨rfl,rfl⟩)
 go_ret;exact⟨rfl,rfl⟩
theorem not_byte (x:Nat) (h:x<256):Go.bits .xor .u8 IntKind.u8.max (x:Int)=((255 - x:Nat):Int) :=
 (by decide +kernel:∀ k:Fin 256,Go.bits .xor .u8 IntKind.u8.max (k.val:Int)=((255 - k.val:Nat):Int)) ⟨x,h⟩
def onesB (x:Nat):Nat:=8 - Lib.bitLen (255 - x)
theorem ones_is (x:Nat) (h:x<256):(8:Int) - (Lib.bitLen (255 - x):Int)=(onesB x:Int) :=
 (by decide +kernel:∀ k:Fin 256,(8:Int) - (Lib.bitLen (255 - k.val):Int)=(onesB k.val:Int)) ⟨x,h⟩
theorem ones_says (x:Nat) (h:x<256):(x<128→onesB x=0)∧(128≤x∧x<192→onesB x=1)∧(WC x≠0→onesB x=WC x+1)∧(192≤x→WC x=0→5≤onesB x∧onesB x≤8) :=
 (by decide +kernel:∀ k:Fin 256,(k.val<128→onesB k.val=0)∧(128≤k.val∧k.val<192→onesB k.val=1)∧(WC k.val≠0→onesB k.val=WC k.val+1)∧(192≤k.val→WC k.val=0→5≤onesB k.val∧onesB k.val≤8)) ⟨x,h⟩
abbrev LeadSays (x o:Nat):Prop:=∀ w:World,Calls Tryz.prog 125 #[.int .u8 ((255 - x:Nat):Int)] w fun e w'=>e=.returned (.int .i64 (o:Int))∧w=w'
theorem lead_says (x:Nat) (h:x<256):LeadSays x (onesB x):=fun w=>(lead8_any (255 - x) (by omega) w).mono fun e w' ⟨he,hw⟩=>⟨by rw[he,ones_is x h],hw⟩
theorem u8_plain:IntKind.u8.signed=false:=rfl
theorem size_low (g o n cap x k:Nat) (hx:x<256) (ho:onesB x=k) (hk:k=0) (w:World) (hc:w.cell? ⟨g,o,none⟩=some (.int .u8 (x:Int))) (hn:1≤n) :
 Calls Tryz.prog 124 #[.slice (some ⟨g,o,none⟩) n cap] w (ValPost (.int .i64 1) w):=by
 have hl:=lead_says x hx;rw[ho]at hl;have HL:=hD hl;have h1:=not_byte x hx;have h2:=u8_plain;subst hk;clear hl ho;exact Zbq
theorem size_off (g o n cap x k:Nat) (hx:x<256) (ho:onesB x=k) (hk:k=1∨4<k∨n<k) (hk0:1≤k) (hk8:k≤8) (w:World) (hc:w.cell? ⟨g,o,none⟩=some (.int .u8 (x:Int))) (hn:1≤n) :
 Calls Tryz.prog 124 #[.slice (some ⟨g,o,none⟩) n cap] w (ValPost (.int .i64 0) w):=by
 have hl:=lead_says x hx;rw[ho]at hl;have HL:=hD hl;have h1:=not_byte x hx;have h2:=u8_plain;have h3:((k:Int)==0)=false:=by simp;omega
 have HK:=hD hk;clear hl ho hk;by_cases k1:k=1
 ·subst k1;clear HK;exact Zbq
 ·have h4:((k:Int)==1)=false:=by simp;omega
  by_cases k4:4<k
  ·have h5:decide ((4:Int)<(k:Int))=true:=by simp;omega
   exact Zbq
  ·have h5:decide ((4:Int)<(k:Int))=false:=by simp;omega
   have h6:n<k:=by have:=HK.out;omega
   have h7:decide ((n:Int)<(k:Int))=true:=by simp;omega
   exact Zbq
theorem and31 (x:Nat) (h:x<256):Go.bits .and .u8 (x:Int) 31=((x % 32:Nat):Int) :=
 (by decide +kernel:∀ k:Fin 256,Go.bits .and .u8 (k.val:Int) 31=((k.val % 32:Nat):Int)) ⟨x,h⟩
theorem and63 (x:Nat) (h:x<256):Go.bits .and .u8 (x:Int) 63=((x % 64:Nat):Int) :=
 (by decide +kernel:∀ k:Fin 256,Go.bits .and .u8 (k.val:Int) 63=((k.val % 64:Nat):Int)) ⟨x,h⟩
theorem and15 (x:Nat) (h:x<256):Go.bits .and .u8 (x:Int) 15=((x % 16:Nat):Int) :=
 (by decide +kernel:∀ k:Fin 256,Go.bits .and .u8 (k.val:Int) 15=((k.val % 16:Nat):Int)) ⟨x,h⟩
theorem and7 (x:Nat) (h:x<256):Go.bits .and .u8 (x:Int) 7=((x % 8:Nat):Int) :=
 (by decide +kernel:∀ k:Fin 256,Go.bits .and .u8 (k.val:Int) 7=((k.val % 8:Nat):Int)) ⟨x,h⟩
theorem or_six (V y:Nat) (h:V<8388608):Go.bits .or .i64 ((V:Int) * 64) ((y:Int) % 64)=(V:Int) * 64+(y:Int) % 64:=by
 have e1:(V:Int) * 64=((V * 64:Nat):Int):=by omega
 have e2:(y:Int) % 64=((y % 64:Nat):Int):=by omega
 have h1:(BitVec.ofInt 64 ((V * 64:Nat):Int)).toNat=V * 64:=by
  rw[BitVec.ofInt_natCast,BitVec.toNat_ofNat];exact Nat.mod_eq_of_lt (by omega)
 have h2:(BitVec.ofInt 64 ((y % 64:Nat):Int)).toNat=y % 64:=by
  rw[BitVec.ofInt_natCast,BitVec.toNat_ofNat];exact Nat.mod_eq_of_lt (by omega)
 have h3:V * 64 ||| y % 64=V * 64+y % 64:=by
  have h:=Nat.two_pow_add_eq_or_of_lt (i:=6) (b:=y % 64) (by omega) V;rw[show(2:Nat) ^ 6=64 from rfl]at h;rw[Nat.mul_comm V 64];exact h.symm
 rw[e1,e2];show IntKind.i64.wrap ((BitVec.ofInt 64 ((V * 64:Nat):Int) ||| BitVec.ofInt 64 ((y % 64:Nat):Int)).toNat:Int)=_;rw[BitVec.toNat_or,h1,h2,h3,IntKind.wrap_i64];omega
theorem cont_yes {y:Nat} (h:VB y=true):((y:Int) / 64 != 2)=false:=by
 unfold VB at h;simp only[Bool.and_eq_true,decide_eq_true_eq]at h;simp;omega
theorem cont_no {y:Nat} (h:VB y=false):((y:Int) / 64 != 2)=true:=by
 unfold VB at h;simp only[Bool.and_eq_false_iff,decide_eq_false_iff_not]at h;simp;omega
theorem bad_ways (k V:Nat) (L:Int) (hL:L=(leastB k:Int)) :
 (badV k V=true∧decide ((V:Int)<L)=true)∨(badV k V=true∧decide ((V:Int)<L)=false∧decide ((55296:Int)≤V)=true∧decide ((V:Int)<57344)=true) ∨
 (badV k V=true∧decide ((V:Int)<L)=false∧decide ((55296:Int)≤V)=true∧decide ((V:Int)<57344)=false∧decide ((1114112:Int)≤V)=true) ∨
 (badV k V=false∧decide ((V:Int)<L)=false∧decide ((55296:Int)≤V)=false∧decide ((1114112:Int)≤V)=false) ∨
 (badV k V=false∧decide ((V:Int)<L)=false∧decide ((55296:Int)≤V)=true∧decide ((V:Int)<57344)=false∧decide ((1114112:Int)≤V)=false):=by
 subst hL;unfold badV;simp only[decide_eq_true_eq,decide_eq_false_iff_not];omega
theorem size_2 (g o n cap x:Nat) (t:List Nat) (R:Nat) (hx:x<256) (ho:onesB x=2) (hn:2≤n) (hcap:n≤cap) (w:World) (htab:Tab w) (hc:w.cell? ⟨g,o,none⟩=some (.int .u8 (x:Int)))
 (ht:∀ j,j<1→w.cell? ⟨g,o+1+j,none⟩=some (.int .u8 (t.getD j 0:Nat))) (hb:∀ j,t.getD j 0<256) (htl:1≤t.length)
 (hno:∀ j,j<1→VB (t.getD j 0)=false→R=0) (hyes:(t.take 1).all VB=true→R=if badV 1 (W9 (x % 32) (t.take 1))=true then 0 else 2) (hsm:∀ j,j≤3→W9 (x % 32) (t.take j)<8388608) :
 Calls Tryz.prog 124 #[.slice (some ⟨g,o,none⟩) n cap] w (ValPost (.int .i64 (R:Int)) w):=by
 have hl:=lead_says x hx;rw[ho]at hl;have HL:=hD hl;have HT:=hD ht;have HB:=hD hb;have HTL:=hD htl;have HNO:=hD hno;have HYES:=hD hyes;have HSM:=hD hsm;have HTAB:=hD htab;have h1:=not_byte x hx;have h2:=u8_plain;have h3:=and31 x hx;have h4:decide ((n:Int)<2)=false:=by simp;omega
 clear hl ho ht hb htl hno hyes hsm htab;go_enter Tryz.func124,Tryz.ntmps124;go_wp2_with (go_at_call 125;refine(HL.out _).mono ?_;rintro e w' ⟨rfl,rfl⟩)
 go_quiet (fail)
 go_wp2_with fail
 clear h1 h2 h3 h4 hc;go_loop [4,37] (fun c i=>∃ j:Nat,j≤1∧i=.int .i64 (j:Int)∧c=.int .i64 ((W9 (x % 32) (t.take j):Nat):Int)∧Hid ((t.take j).all VB=true)) (fun _ i=>1 - (intOf i).toNat)
 case atStart=>exact⟨0,nZ _,rfl,by simp[W9],hD rfl⟩
 case round =>
  obtain⟨j,hj,rfl,rfl,hall⟩:=hrel;have hV:=HSM.out j (by omega);by_cases hlt:j<1
  ·have c0:=HT.out j hlt;have hy:=HB.out j;have hac:=accB_take t j (by have:=HTL.out;omega) (x % 32);have hat:=V6 (t:=t) (j:=j) (by have:=HTL.out;omega) hall.out;have hno:=HNO.out j hlt;generalize t.getD j 0=y at c0 hy hac hat hno;generalize W9 (x % 32) (t.take j)=V at hac hV ⊢;have hor:=or_six V y (by omega);have h63:=and63 y hy;cases hcb:VB y with
   | true =>
    have hd:((y:Int) / 64 != 2)=false:=cont_yes hcb;have hat:=hat hcb;have HAC:=hD hac;have HAT:=hD hat;have hl2:decide ((j:Int)<1)=true:=by simp;omega
    exact ZbH
   | false =>
    have hd:((y:Int) / 64 != 2)=true:=cont_no hcb;have hl2:decide ((j:Int)<1)=true:=by simp;omega
    exact ZbV
  ·obtain rfl:j=1:=by omega
   have ct:w.cell? ⟨0,2,none⟩=some (.int .i64 128):=HTAB.out 2 (by decide);have HR:=hD (HYES.out hall.out);clear hall;generalize W9 (x % 32) (t.take 1)=V at HR hV ⊢;have hbw:=bad_ways 1 V 128 rfl;exact Zbi
theorem size_3 (g o n cap x:Nat) (t:List Nat) (R:Nat) (hx:x<256) (ho:onesB x=3) (hn:3≤n) (hcap:n≤cap) (w:World) (htab:Tab w) (hc:w.cell? ⟨g,o,none⟩=some (.int .u8 (x:Int)))
 (ht:∀ j,j<2→w.cell? ⟨g,o+1+j,none⟩=some (.int .u8 (t.getD j 0:Nat))) (hb:∀ j,t.getD j 0<256) (htl:2≤t.length)
 (hno:∀ j,j<2→VB (t.getD j 0)=false→R=0) (hyes:(t.take 2).all VB=true→R=if badV 2 (W9 (x % 16) (t.take 2))=true then 0 else 3) (hsm:∀ j,j≤3→W9 (x % 16) (t.take j)<8388608) :
 Calls Tryz.prog 124 #[.slice (some ⟨g,o,none⟩) n cap] w (ValPost (.int .i64 (R:Int)) w):=by
 have hl:=lead_says x hx;rw[ho]at hl;have HL:=hD hl;have HT:=hD ht;have HB:=hD hb;have HTL:=hD htl;have HNO:=hD hno;have HYES:=hD hyes;have HSM:=hD hsm;have HTAB:=hD htab;have h1:=not_byte x hx;have h2:=u8_plain;have h3:=and15 x hx;have h4:decide ((n:Int)<3)=false:=by simp;omega
 clear hl ho ht hb htl hno hyes hsm htab;go_enter Tryz.func124,Tryz.ntmps124;go_wp2_with (go_at_call 125;refine(HL.out _).mono ?_;rintro e w' ⟨rfl,rfl⟩)
 go_quiet (fail)
 go_wp2_with fail
 clear h1 h2 h3 h4 hc;go_loop [4,37] (fun c i=>∃ j:Nat,j≤2∧i=.int .i64 (j:Int)∧c=.int .i64 ((W9 (x % 16) (t.take j):Nat):Int)∧Hid ((t.take j).all VB=true)) (fun _ i=>2 - (intOf i).toNat)
 case atStart=>exact⟨0,nZ _,rfl,by simp[W9],hD rfl⟩
 case round =>
  obtain⟨j,hj,rfl,rfl,hall⟩:=hrel;have hV:=HSM.out j (by omega);by_cases hlt:j<2
  ·have c0:=HT.out j hlt;have hy:=HB.out j;have hac:=accB_take t j (by have:=HTL.out;omega) (x % 16);have hat:=V6 (t:=t) (j:=j) (by have:=HTL.out;omega) hall.out;have hno:=HNO.out j hlt;generalize t.getD j 0=y at c0 hy hac hat hno;generalize W9 (x % 16) (t.take j)=V at hac hV ⊢;have hor:=or_six V y (by omega);have h63:=and63 y hy;cases hcb:VB y with
   | true =>
    have hd:((y:Int) / 64 != 2)=false:=cont_yes hcb;have hat:=hat hcb;have HAC:=hD hac;have HAT:=hD hat;have hl2:decide ((j:Int)<2)=true:=by simp;omega
    exact ZbH
   | false =>
    have hd:((y:Int) / 64 != 2)=true:=cont_no hcb;have hl2:decide ((j:Int)<2)=true:=by simp;omega
    exact ZbV
  ·obtain rfl:j=2:=by omega
   have ct:w.cell? ⟨0,3,none⟩=some (.int .i64 2048):=HTAB.out 3 (by decide);have HR:=hD (HYES.out hall.out);clear hall;generalize W9 (x % 16) (t.take 2)=V at HR hV ⊢;have hbw:=bad_ways 2 V 2048 rfl;exact Zbi
theorem size_4 (g o n cap x:Nat) (t:List Nat) (R:Nat) (hx:x<256) (ho:onesB x=4) (hn:4≤n) (hcap:n≤cap) (w:World) (htab:Tab w) (hc:w.cell? ⟨g,o,none⟩=some (.int .u8 (x:Int)))
 (ht:∀ j,j<3→w.cell? ⟨g,o+1+j,none⟩=some (.int .u8 (t.getD j 0:Nat))) (hb:∀ j,t.getD j 0<256) (htl:3≤t.length)
 (hno:∀ j,j<3→VB (t.getD j 0)=false→R=0) (hyes:(t.take 3).all VB=true→R=if badV 3 (W9 (x % 8) (t.take 3))=true then 0 else 4) (hsm:∀ j,j≤3→W9 (x % 8) (t.take j)<8388608) :
 Calls Tryz.prog 124 #[.slice (some ⟨g,o,none⟩) n cap] w (ValPost (.int .i64 (R:Int)) w):=by
 have hl:=lead_says x hx;rw[ho]at hl;have HL:=hD hl;have HT:=hD ht;have HB:=hD hb;have HTL:=hD htl;have HNO:=hD hno;have HYES:=hD hyes;have HSM:=hD hsm;have HTAB:=hD htab;have h1:=not_byte x hx;have h2:=u8_plain;have h3:=and7 x hx;have h4:decide ((n:Int)<4)=false:=by simp;omega
 clear hl ho ht hb htl hno hyes hsm htab;go_enter Tryz.func124,Tryz.ntmps124;go_wp2_with (go_at_call 125;refine(HL.out _).mono ?_;rintro e w' ⟨rfl,rfl⟩)
 go_quiet (fail)
 go_wp2_with fail
 clear h1 h2 h3 h4 hc;go_loop [4,37] (fun c i=>∃ j:Nat,j≤3∧i=.int .i64 (j:Int)∧c=.int .i64 ((W9 (x % 8) (t.take j):Nat):Int)∧Hid ((t.take j).all VB=true)) (fun _ i=>3 - (intOf i).toNat)
 case atStart=>exact⟨0,nZ _,rfl,by simp[W9],hD rfl⟩
 case round =>
  obtain⟨j,hj,rfl,rfl,hall⟩:=hrel;have hV:=HSM.out j (by omega);by_cases hlt:j<3
  ·have c0:=HT.out j hlt;have hy:=HB.out j;have hac:=accB_take t j (by have:=HTL.out;omega) (x % 8);have hat:=V6 (t:=t) (j:=j) (by have:=HTL.out;omega) hall.out;have hno:=HNO.out j hlt;generalize t.getD j 0=y at c0 hy hac hat hno;generalize W9 (x % 8) (t.take j)=V at hac hV ⊢;have hor:=or_six V y (by omega);have h63:=and63 y hy;cases hcb:VB y with
   | true =>
    have hd:((y:Int) / 64 != 2)=false:=cont_yes hcb;have hat:=hat hcb;have HAC:=hD hac;have HAT:=hD hat;have hl2:decide ((j:Int)<3)=true:=by simp;omega
    exact ZbH
   | false =>
    have hd:((y:Int) / 64 != 2)=true:=cont_no hcb;have hl2:decide ((j:Int)<3)=true:=by simp;omega
    exact ZbV
  ·obtain rfl:j=3:=by omega
   have ct:w.cell? ⟨0,4,none⟩=some (.int .i64 65536):=HTAB.out 4 (by decide);have HR:=hD (HYES.out hall.out);clear hall;generalize W9 (x % 8) (t.take 3)=V at HR hV ⊢;have hbw:=bad_ways 3 V 65536 rfl;exact Zbi
theorem size_any (A:Option Addr) (n cap:Nat) (l:List Nat) (hl:l.length=n) (h0:0<n) (hcap:n≤cap) (w:World) (htab:Tab w) (hb:Bytes w A l) :
 Calls Tryz.prog 124 #[.slice A n cap] w (ValPost (.int .i64 (VN l:Int)) w):=by
 obtain⟨g,o,rfl,_,hc⟩:=hb.2 (by omega);have hx:l.getD 0 0<256:=getD_lt (by decide) hb.1 0;have he:=cons_of (l:=l) (by omega);have hc0:=hc 0 (by omega);have hct:∀ j,j<(l.drop 1).length→w.cell? ⟨g,o+1+j,none⟩=some (.int .u8 ((l.drop 1).getD j 0:Nat)):=fun j hj=>by
  have h:=hc (1+j) (by rw[List.length_drop]at hj;omega);have e:(l.drop 1).getD j 0=l.getD (1+j) 0:=by rw[List.getD_eq_getElem?_getD,List.getElem?_drop,← List.getD_eq_getElem?_getD]
  rw[e,← h,Nat.add_assoc]
 have hcb:∀ j,(l.drop 1).getD j 0<256:=fun j=>getD_lt (by decide) (fun y hy=>hb.1 y (List.mem_of_mem_drop hy)) j;have htl:(l.drop 1).length=n - 1:=by rw[List.length_drop,hl]
 rw[Nat.add_zero]at hc0;generalize l.getD 0 0=x at hx he hc0;generalize l.drop 1=t at he hct hcb htl;subst he;obtain⟨s1,s2,s3,s4⟩:=ones_says x hx;by_cases hx1:x<128
 ·rw[charB_one hx1];exact size_low g o n cap x _ hx rfl (s1 hx1) w hc0 (by omega)
 ·by_cases hm:WC x=0
  ·rw[V0 hx1 (.inl hm)];by_cases h192:x<192
   ·have:=s2 ⟨by omega,h192⟩;exact size_off g o n cap x _ hx rfl (.inl this) (by omega) (by omega) w hc0 (by omega)
   ·have:=s4 (by omega) hm;exact size_off g o n cap x _ hx rfl (.inr (.inl (by omega))) (by omega) (by omega) w hc0 (by omega)
  ·have h3:=s3 hm;have hle:=moreB_le x;by_cases hlen:t.length<WC x
   ·rw[V0 hx1 (.inr (.inl hlen))];exact size_off g o n cap x _ hx rfl (.inr (.inr (by omega))) (by omega) (by omega) w hc0 (by omega)
   ·have hno:∀ j,j<WC x→VB (t.getD j 0)=false→VN (x :: t)=0:=fun j hj hcj=>V0 hx1 (.inr (.inr (.inl (all_take_no (by omega) hj hcj))));have hyes:(t.take (WC x)).all VB=true→VN (x :: t)=if badV (WC x) (W9 (x % maskB (WC x)) (t.take (WC x)))=true then 0 else WC x+1:=fun ha=>by
     cases hbd:badV (WC x) (W9 (x % maskB (WC x)) (t.take (WC x))) with
     | true=>rw[V0 hx1 (.inr (.inr (.inr hbd)))];rfl
     | false=>rw[charB_good hx1 hm (by omega) ha hbd];rfl
    have hsm:=fun j hj=>accB_small x (WC x) j t hj;generalize VN (x :: t)=R at hno hyes ⊢;have h3w:WC x=1∨WC x=2∨WC x=3:=by omega
    rcases h3w with h|h|h
    ·rw[h]at h3 hno hyes hlen hsm;exact size_2 g o n cap x t R hx h3 (by omega) hcap w htab hc0 (fun j hj=>hct j (by omega)) hcb (by omega) hno hyes hsm
    ·rw[h]at h3 hno hyes hlen hsm;exact size_3 g o n cap x t R hx h3 (by omega) hcap w htab hc0 (fun j hj=>hct j (by omega)) hcb (by omega) hno hyes hsm
    ·rw[h]at h3 hno hyes hlen hsm;exact size_4 g o n cap x t R hx h3 (by omega) hcap w htab hc0 (fun j hj=>hct j (by omega)) hcb (by omega) hno hyes hsm
end
section
open Go.ChangeShapes Go.WideShapes Go.ChangeAt Go.RowKit
def laidL:List (String×DataW Unit):=[("plainsong/text.least",Rows.laid_plainsong_text_least)]
theorem ownL:ownKnob Tryz.prog.godebug=none:=by kernel_rfl
theorem gLeast:Tryz.prog.globalNamed "plainsong/text.least"=some 0:=by kernel_rfl
theorem tLeast:(Tryz.prog.globals[0]?).map (·.type)=some 152:=by kernel_rfl
theorem cInt:Tryz.prog.cellsOf 3=1:=by kernel_rfl
theorem cLeast:Tryz.prog.cellsOf 152=5:=by kernel_rfl
theorem door_met (os:Os) (args:Array Value):laidMetH Tryz.prog laidL ((World.doorLaid Tryz.prog 14 os).forCall (fun _ _=>0) ⟨#[],args,[]⟩).memory :=
 laidMetH_of_parts3 (fuel:=8) (laidMet_of_run' 8 (by kernel_rfl) (by kernel_rfl)) (by kernel_rfl) (by kernel_rfl)
theorem tab_of_laid {W:World} (h:laidMetH Tryz.prog laidL W):Tab W:=by
 rw[MakeChecks.laidMetH_plain _ _ _ (by kernel_rfl)]at h;have h4:laidMet Tryz.prog [("plainsong/text.least",Lib.tabData .i64 [0,0,128,2048,65536])] W:=h;have hT:=Lib.tabIs_of_head gLeast tLeast Tryz.underlying152 Tryz.underlying3 cInt cLeast h4;exact fun i hi=>hT.cell gLeast i hi
end
section
open Go.RowKit
theorem Zbu {P:Prop}(h:P:=by
 refine⟨v,w,?_,by simpa using hown,World.grownBy.refl w _,.inl rfl⟩;rcases hown.2 with ⟨rfl,h⟩|⟨g',cap',cur,rfl,_,_,hnc,_⟩
 ·simp[Builtin.append_,run_underlying ht,sizeOf,typeInfo,hi,Builtin.lenOf,Builtin.firstCells]
 ·simp[Builtin.append_,run_underlying ht,sizeOf,typeInfo,hi,Builtin.lenOf,Builtin.firstCells,hnc,storeCells]):P:=h
theorem ZbT {P:Prop}(h:P:=by
 have h0:l.length=0:=by
  rcases Nat.eq_zero_or_pos l.length with h0|h0
  ·exact h0
  ·obtain⟨_,_,h,_⟩:=h3 h0;cases h
 obtain rfl:l=[]:=List.eq_nil_of_length_eq_zero h0;obtain rfl:=hn rfl;exact .inl ⟨rfl,rfl,rfl⟩):P:=h
theorem Zce {P:Prop}(h:P:=by
 unfold Oper.wp execOp;simp only[ho,resolve,invoke,builtin,Sem.run_bind,Sem.run_pure,Result.andThen_ok,List.map_toArray,List.map_cons,List.map_nil,hs,hx,hr];exact hK _ _ (hk v' w' h2 h3 h5)):P:=h
theorem Zch {P:Prop}(h:P:=by
 simp only[vI]at he;obtain⟨rfl,rfl,rfl⟩:=he;obtain⟨g',o',he,_,h5⟩:=h3 (by omega);simp only[Option.some.injEq,Addr.mk.injEq]at he;obtain⟨rfl,rfl,_⟩:=he;exact h5 j hj):P:=h
theorem Zct {P:Prop}(h:P:=by
 obtain⟨g,o,rfl,h4,h5⟩:=h3 hl;exact⟨g,o,rfl,hm g h4,fun j hj=>(hk.cell (p:=⟨g,o+j,none⟩) h4).trans (h5 j hj)⟩):P:=h
structure We (K:Nat→Prop) (w w':World):Prop where
 os:w'.os=w.os
 tape:w'.tape=w.tape
 output:w'.output=w.output
 size:w.heap.size≤w'.heap.size
 block:∀ k,K k→w'.heap[k]?=w.heap[k]?
theorem We.refl (K:Nat→Prop) (w:World):We K w w:=⟨rfl,rfl,rfl,nR _,fun _ _=>rfl⟩
theorem We.trans {K:Nat→Prop} {a b c:World} (h:We K a b) (k:We K b c):We K a c :=
 ⟨k.os.trans h.os,k.tape.trans h.tape,k.output.trans h.output,Nat.le_trans h.size k.size,fun i hi=>(k.block i hi).trans (h.block i hi)⟩
theorem We.mono {K K':Nat→Prop} {w w':World} (h:We K w w') (hK:∀ k,K' k→K k):We K' w w':=⟨h.os,h.tape,h.output,h.size,fun k hk=>h.block k (hK k hk)⟩
theorem We.below {K:Nat→Prop} {B:Nat} {w w':World} (h:Below B w w') (hK:∀ k,K k→k<B):We K w w':=⟨h.os,h.tape,h.output,h.size,fun k hk=>h.block k (hK k hk)⟩
theorem We.to_below {K:Nat→Prop} {B:Nat} {w w':World} (h:We K w w') (hK:∀ k,k<B→K k):Below B w w':=⟨h.os,h.tape,h.output,h.size,fun k hk=>h.block k (hK k hk)⟩
theorem We.alloc {K:Nat→Prop} (w:World) (hK:∀ k,K k→k<w.heap.size) (o:Obj):We K w (w.alloc o):=.below ((bR w.heap.size w).alloc (nR _) o) hK
theorem We.setCell {K:Nat→Prop} (w:World) {p:Addr} (hp:¬ K p.block) (u:Value):We K w (w.setCell p u) :=
 ⟨rfl,rfl,rfl,by simp[World.setCell],fun k hk=>Below.heap_setCell _ _ _ _ (fun e=>hp (e ▸ hk))⟩
theorem We.grown {K:Nat→Prop} {w w':World} {row:Option Nat} (hg:w.grownBy w' row) (hK:∀ k,K k→k<w.heap.size) (hr:∀ k,row=some k→¬ K k):We K w w' :=
 ⟨hg.os,hg.tape,hg.output,hg.size,fun k hk=>hg.block k (hK k hk) (fun e=>hr k e.symm hk)⟩
theorem We.drewN {K:Nat→Prop} (w:World) (n:Nat):We K w (w.drewN n):=⟨rfl,rfl,rfl,nR _,fun _ _=>rfl⟩
theorem We.cell {K:Nat→Prop} {w w':World} (h:We K w w') {p:Addr} (hp:K p.block):w'.cell? p=w.cell? p:=World.cell?_of_block (w:=w) (h.block p.block hp)
def Wh (K:Nat→Prop) (w:World) (v:Value) (l:List Int):Prop :=
 ∃ A c,v=.slice A l.length c∧l.length≤maxLen∧(A=none→c=0)∧(0<l.length→∃ g o:Nat,A=some ⟨g,o,none⟩∧K g∧∀ j,j<l.length→w.cell? ⟨g,o+j,none⟩=some (.int .i64 (l.getD j 0)))
theorem Wh.keep {K K':Nat→Prop} {w w':World} {v:Value} {l:List Int} (h:Wh K w v l) (hk:We K w w') (hm:∀ k,K k→K' k):Wh K' w' v l:=by
 obtain⟨A,c,rfl,h1,h0,h3⟩:=h;refine⟨A,c,rfl,h1,h0,fun hl=>?_⟩;exact Zct
theorem Wh.nil (K:Nat→Prop) (w:World):Wh K w (.slice none 0 0) []:=⟨none,0,rfl,nZ _,fun _=>rfl,fun h=>by simp at h⟩
theorem Wh.at_ {K:Nat→Prop} {w:World} {g o n c:Nat} {l:List Int} (h:Wh K w (.slice (some ⟨g,o,none⟩) n c) l) (j:Nat) (hj:j<n):w.cell? ⟨g,o+j,none⟩=some (.int .i64 (l.getD j 0)):=by
 obtain⟨A,c',he,_,_,h3⟩:=h;exact Zch
theorem Wh.some_ {K:Nat→Prop} {w:World} {v:Value} {l:List Int} (h:Wh K w v l) (hl:0<l.length):∃ g o c:Nat,v=.slice (some ⟨g,o,none⟩) l.length c∧l.length≤maxLen∧True:=by
 obtain⟨A,c,rfl,h1,_,h3⟩:=h;obtain⟨g,o,rfl,_⟩:=h3 hl;exact⟨g,o,c,rfl,h1,trivial⟩
theorem Wh.form {K:Nat→Prop} {w:World} {v:Value} {l:List Int} (h:Wh K w v l):∃ A c,v=.slice A l.length c∧l.length≤maxLen∧True:=by
 obtain⟨A,c,rfl,h1,_⟩:=h;exact⟨A,c,rfl,h1,trivial⟩
theorem Tryz.infoInt:(Tryz.prog.info? 3).map (fun i=>(i.zero,i.size,i.bytes))=some (some (.int .i64 0),1,8):=by kernel_rfl
def Vm (w:World) (v:Value) (m:Nat) (news:List Value):Prop :=
 (v=.slice none 0 0∧m=0∧news=[])∨∃ a c,v=.slice (some a) m c∧(∀ j u,news[j]?=some u→w.cell? (a.add j)=some u)
theorem Wh.news {K:Nat→Prop} {w:World} {v:Value} {l:List Int} (h:Wh K w v l):Vm w v l.length (l.map (Value.int .i64)):=by
 obtain⟨A,c,rfl,h1,hn,h3⟩:=h;rcases A with _|a
 ·exact ZbT
 ·refine .inr ⟨a,c,rfl,fun j u hu=>?_⟩;obtain⟨x,hx,rfl⟩:∃ x,l[j]?=some x∧Value.int .i64 x=u:=by simpa using hu
  have hj:j<l.length:=by
   rcases Nat.lt_or_ge j l.length with h1|h1
   ·exact h1
   ·rw[List.getElem?_eq_none h1]at hx;cases hx
  obtain⟨g,o,he,_,hc⟩:=h3 (by omega);obtain rfl:a=⟨g,o,none⟩:=by simpa using he
  rw[Addr.add_lit,hc j hj,List.getD_eq_getElem?_getD,hx];rfl
theorem run_append_row (w:World) (t ty e:TypeId) (z:Value) (size bytes:Nat) (ht:Tryz.prog.underlying t=some (.slice e)) (hinfo:(Tryz.prog.info? e).map (fun i=>(i.zero,i.size,i.bytes))=some (some z,size,bytes))
 (hzs:z.cells.size=size) (hsz:0<size) (v:Value) (n:Nat) (xs:List Value) (hown:w.ownsRow 0 e size v n xs) (src:Value) (m:Nat) (news:List Value) (hl:news.length=m * size) (hsrc:Vm w src m news)
 (h1:∀ u ∈ news,u.oneCell'=true) (hnm:n+m≤1000000) (hb:bytes≤1000) :
 ∃ v' w',(Builtin.append_ #[t,t] ty #[v,src]).run Tryz.prog w=.ok v' w'∧w'.ownsRow 0 e size v' (n+m) (xs++news)∧w.grownBy w' v.ownBlock∧(v'.ownBlock=v.ownBlock∨v'.ownBlock=some w.heap.size):=by
 obtain⟨i0,hi,hz0,hz1,hz2⟩:=info_parts hinfo;rcases hsrc with ⟨rfl,rfl,rfl⟩|⟨a,c,rfl,hcell⟩
 ·exact Zbu
 ·have hb2:(n+m) * bytes≤1000000 * 1000:=Nat.mul_le_mul hnm hb;obtain⟨v',w',hr,h2,h3,_,h5⟩:=run_append_own_at (P:=Tryz.prog) w 0 t ty e i0 z size bytes ht hi hz0 hz1 hz2 hzs hsz v n xs hown a m c news hl hcell h1 (by unfold maxLen;omega) (by omega) (nZ _);exact⟨v',w',hr,h2,h3,h5⟩
theorem Wm {ops:Array Oper} {rest:List Oper} {o:Oper} {a:Act} {w:World} {Q:Exit→Act→World→Prop} (hw:Region.wanted o (yielded ops a.tmps)=true) (s x:Operand) (t e:TypeId)
 (ho:o.op=.call { callee:=.builtin .append,args:=#[s,x],argTypes:=#[t,t] }) (z:Value) (size bytes:Nat) (ht:Tryz.prog.underlying t=some (.slice e)) (hinfo:(Tryz.prog.info? e).map (fun i=>(i.zero,i.size,i.bytes))=some (some z,size,bytes))
 (hzs:z.cells.size=size) (hsz:0<size) (hb:bytes≤1000) (v:Value) (n:Nat) (xs:List Value) (hs:a.eval s=v) (hown:w.ownsRow 0 e size v n xs) (src:Value) (m:Nat) (news:List Value) (hx:a.eval x=src) (hl:news.length=m * size) (hsrc:Vm w src m news)
 (h1:∀ u ∈ news,u.oneCell'=true) (hnm:n+m≤1000000)
 (hk:∀ v' w',w'.ownsRow 0 e size v' (n+m) (xs++news)→w.grownBy w' v.ownBlock→(v'.ownBlock=v.ownBlock∨v'.ownBlock=some w.heap.size)→wpList Tryz.prog ops Q rest (a.put o.dst v') w'):wpList Tryz.prog ops Q (o :: rest) a w:=by
 refine BigFrame.wpList_want hw fun K hK=>?_;obtain⟨v',w',hr,h2,h3,h5⟩:=run_append_row w t o.type e z size bytes ht hinfo hzs hsz v n xs hown src m news hl hsrc h1 hnm hb;exact Zce
theorem wp_append_row {o:Oper} {a:Act} {w:World} {K:Act→World→Prop} {Q:Exit→Act→World→Prop} (s x:Operand) (t e:TypeId)
 (ho:o.op=.call { callee:=.builtin .append,args:=#[s,x],argTypes:=#[t,t] }) (z:Value) (size bytes:Nat) (ht:Tryz.prog.underlying t=some (.slice e)) (hinfo:(Tryz.prog.info? e).map (fun i=>(i.zero,i.size,i.bytes))=some (some z,size,bytes))
 (hzs:z.cells.size=size) (hsz:0<size) (hb:bytes≤1000) (v:Value) (n:Nat) (xs:List Value) (hs:a.eval s=v) (hown:w.ownsRow 0 e size v n xs) (src:Value) (m:Nat) (news:List Value) (hx:a.eval x=src) (hl:news.length=m * size) (hsrc:Vm w src m news)
 (h1:∀ u ∈ news,u.oneCell'=true) (hnm:n+m≤1000000)
 (hk:∀ v' w',w'.ownsRow 0 e size v' (n+m) (xs++news)→w.grownBy w' v.ownBlock→(v'.ownBlock=v.ownBlock∨v'.ownBlock=some w.heap.size)→K (a.put o.dst v') w'):o.wp Tryz.prog a w K Q:=by
 obtain⟨v',w',hr,h2,h3,h5⟩:=run_append_row w t o.type e z size bytes ht hinfo hzs hsz v n xs hown src m news hl hsrc h1 hnm hb;unfold Oper.wp execOp;simp only[ho,resolve,invoke,builtin,Sem.run_bind,Sem.run_pure,Result.andThen_ok,List.map_toArray,List.map_cons,List.map_nil,hs,hx,hr];exact hk v' w' h2 h3 h5
theorem Wc {ops:Array Oper} {o:Oper} {a:Act} {w:World} {K:Act→World→Prop} {Q:Exit→Act→World→Prop} {E:Prop} (hgd:o.guard=none) (s x:Operand) (t e:TypeId)
 (ho:o.op=.call { callee:=.builtin .append,args:=#[s,x],argTypes:=#[t,t] }) (z:Value) (size bytes:Nat) (ht:Tryz.prog.underlying t=some (.slice e)) (hinfo:(Tryz.prog.info? e).map (fun i=>(i.zero,i.size,i.bytes))=some (some z,size,bytes))
 (hzs:z.cells.size=size) (hsz:0<size) (hb:bytes≤1000) (v:Value) (n:Nat) (xs:List Value) (hs:a.eval s=v) (hown:w.ownsRow 0 e size v n xs) (src:Value) (m:Nat) (news:List Value) (hx:a.eval x=src) (hl:news.length=m * size) (hsrc:Vm w src m news)
 (h1:∀ u ∈ news,u.oneCell'=true) (hnm:n+m≤1000000)
 (hk:∀ v' w',w'.ownsRow 0 e size v' (n+m) (xs++news)→w.grownBy w' v.ownBlock→(v'.ownBlock=v.ownBlock∨v'.ownBlock=some w.heap.size)→K (a.put o.dst v') w') :
 if Region.wanted o (yielded ops a.tmps)=true then Oper.wp Tryz.prog o a w K Q else E:=by
 have hw:Region.wanted o (yielded ops a.tmps)=true:=by simp[Region.wanted,hgd]
 rw[if_pos hw];exact wp_append_row s x t e ho z size bytes ht hinfo hzs hsz hb v n xs hs hown src m news hx hl hsrc h1 hnm hk
theorem Vq (w:World) (cs:Array Value) (t:TypeId) (m c:Nat):Vm (w.alloc (.cells cs t)) (.slice (some ⟨w.heap.size,0,none⟩) m c) m cs.toList :=
 .inr ⟨_,c,rfl,fun j u hu=>by rw[add_lit0,wN];simpa using hu⟩
theorem Vm.keep {w w':World} {v:Value} {m:Nat} {news:List Value} (h:Vm w v m news) (hc:∀ a c,v=.slice (some a) m c→∀ j u,news[j]?=some u→w.cell? (a.add j)=some u→w'.cell? (a.add j)=some u):Vm w' v m news:=by
 rcases h with h|⟨a,c,rfl,h⟩
 ·exact .inl h
 ·exact .inr ⟨a,c,rfl,fun j u hu=>hc a c rfl j u hu (h j u hu)⟩
theorem owns_drew {w:World} {base:Nat} {e:TypeId} {size:Nat} {v:Value} {n:Nat} {xs:List Value} (h:w.ownsRow base e size v n xs):w.drew.ownsRow base e size v n xs:=h
theorem news_drew {w:World} {v:Value} {m:Nat} {news:List Value} (h:Vm w v m news):Vm w.drew v m news:=h
theorem grown_drew {w w':World} {row:Option Nat} (h:w.drew.grownBy w' row):w.grownBy w' row:=⟨h.os,h.tape,h.output,h.size,h.block⟩
theorem Wd {w:World} {base:Nat} {e:TypeId} {size:Nat} {v:Value} {n:Nat} {xs:List Value} (h:w.ownsRow base e size v n xs):∃ A c,v=.slice A n c:=by
 rcases h.2 with ⟨h1,h2⟩|⟨g,cap,cur,h1,_⟩
 ·exact⟨none,0,by rw[h1,h2]⟩
 ·exact⟨_,_,h1⟩
theorem owns_cut {w:World} {base:Nat} {e:TypeId} {size g n cap m:Nat} {xs:List Value} (h:w.ownsRow base e size (.slice (some ⟨g,0,none⟩) n cap) n xs) (hm:m≤n):w.ownsRow base e size (.slice (some ⟨g,0,none⟩) m cap) m (xs.take (m * size)):=by
 have hle:m * size≤n * size:=Nat.mul_le_mul_right size hm;refine⟨by rw[List.length_take,h.1];omega,?_⟩;rcases h.2 with ⟨h,_⟩|⟨g',cap',cur,he,h1,h2,h3,h4,h5,h6⟩
 ·cases h
 ·simp only[vI,Option.some.injEq,Addr.mk.injEq]at he;obtain⟨⟨rfl,_⟩,_,rfl⟩:=he;refine .inr ⟨g,cap,cur,rfl,h1,h2,by omega,h4,h5,?_⟩;rw[← h6,List.take_take,Nat.min_eq_left hle]
theorem Wu {K:Nat→Prop} {w w':World} {base:Nat} {e:TypeId} {size:Nat} {v:Value} {n:Nat} {xs:List Value} (h:w.ownsRow base e size v n xs) (hk:We K w w') (hv:∀ g,v.ownBlock=some g→K g):w'.ownsRow base e size v n xs:=by
 obtain⟨h1,h2⟩:=h;refine⟨h1,?_⟩;rcases h2 with h2|⟨g,cap,cur,rfl,r2,r3,r4⟩
 ·exact .inl h2
 ·exact .inr ⟨g,cap,cur,rfl,r2,(hk.block g (hv g rfl)).trans r3,r4⟩
end
section
def VT (op:Int) (o:List Nat):Option (List Nat) :=
 if op=2∨op=3 then (if o.length<60 then some (0 :: o) else none)
 else if op=4 then (if o.length<60 then some (1 :: o) else none)
 else if op=5 then (match o with|1 :: t=>some (0 :: t)|_=>none)
 else if op=11 then (match o with|_ :: t=>some t|[]=>none)
 else some o
def Uq:List Int→List Nat→Option (List Nat)
 | [],o=>some o
 | i :: l,o=>(VT i o).bind (Uq l)
theorem nestOf_append (a b:List Int):∀ o,Uq (a++b) o=(Uq a o).bind (Uq b):=by
 induction a with
 | nil=>intro o;rfl
 | cons i a ih =>
  intro o;show(VT i o).bind (Uq (a++b))=((VT i o).bind (Uq a)).bind (Uq b);cases VT i o with
  | none=>rfl
  | some q=>exact ih q
theorem nestOf_snoc (a:List Int) (i:Int) (o:List Nat):Uq (a++[i]) o=(Uq a o).bind (VT i):=by
 rw[nestOf_append]
 congr 1
 funext q
 show(VT i q).bind some=VT i q;cases VT i q <;> rfl
def plain (op:Int):Prop:=(op=2∨op=3)=False∧(op=4)=False∧(op=5)=False∧(op=11)=False
theorem plain_of {op:Int} (h:op≠2∧op≠3∧op≠4∧op≠5∧op≠11):plain op :=
 ⟨eq_false (by omega),eq_false (by omega),eq_false (by omega),eq_false (by omega)⟩
theorem nestStep_plain {op:Int} (h:plain op) (o:List Nat):VT op o=some o:=by
 obtain⟨h1,h2,h3,h4⟩:=h;unfold VT;simp only[h1,h2,h3,h4,if_false]
end
section
open Go.RowKit
def S (x:BitVec 64):Int:=x.toInt
end
section
open Go.RowKit
def isB (op:Int):Bool:=decide (69≤op∧op≤90∨103≤op∧op≤138∨op=167∨op=172∨op=173∨192≤op∧op≤196)
end
section
open Go.RowKit
def isF (op:Int):Bool:=decide (97≤op∧op≤102∨153≤op∧op≤166∨op=170∨op=171∨op=176∨op=177∨183≤op∧op≤186∨op=189∨op=191∨op=64514∨op=64515∨op=64518∨op=64519)
def WR (op:Int):Bool:=isB op || isF op
def VW (op:Int):Nat×Int×Int :=
 if op=69 then (1,127,127) else if 70≤op∧op≤79 then (2,127,127) else if op=80 then (1,126,127) else if 81≤op∧op≤90 then (2,126,127)
 else if 97≤op∧op≤102 then (2,124,127) else if 103≤op∧op≤105 then (1,127,127) else if 106≤op∧op≤120 then (2,127,127)
 else if 121≤op∧op≤123 then (1,126,126) else if 124≤op∧op≤138 then (2,126,126) else if 153≤op∧op≤159 then (1,124,124)
 else if 160≤op∧op≤166 then (2,124,124) else if op=167 then (1,126,127) else if 170≤op∧op≤171 then (1,124,127)
 else if 172≤op∧op≤173 then (1,127,126) else if 176≤op∧op≤177 then (1,124,126) else if 183≤op∧op≤184 then (1,127,124)
 else if 185≤op∧op≤186 then (1,126,124) else if op=189 then (1,124,126) else if op=191 then (1,126,124) else if 192≤op∧op≤193 then (1,127,127)
 else if 194≤op∧op≤196 then (1,126,126) else if 64514≤op∧op≤64515 then (1,124,127) else (1,124,126)
def paramsB (op:Int):List Int:=if WR op then List.replicate (VW op).1 (VW op).2.1 else []
def resultsB (op:Int):List Int:=if WR op then [(VW op).2.2] else []
def accL:List (Int×Int×Bool×Bool) :=
 [(4,127,false,true),(8,126,false,true),(0,0,false,false),(8,124,false,true),(1,127,true,true),(1,127,false,true),(2,127,true,true),(2,127,false,true),(1,126,true,true),(1,126,false,true),(2,126,true,true),
  (2,126,false,true),(4,126,true,true),(4,126,false,true),(4,127,false,true),(8,126,false,true),(0,0,false,false),(8,124,false,true),(1,127,false,true),(2,127,false,true),(1,126,false,true),(2,126,false,true),(4,126,false,true)]
def VV (op:Int):Int×Int×Bool×Bool:=if 40≤op∧op≤62 then accL.getD (op - 40).toNat (0,0,false,false) else (0,0,false,false)
def VS (op:Int):Int:=if op=65 then 127 else if op=66 then 126 else if op=68 then 124 else 0
def VI (op:Int):Bool:=decide (2≤op∧op≤4)
def restL:List Int:=[0,1,5,11,12,13,14,15,16,18,26,27,32,33,34,35,36,63,64,64520,64521,64522,64523]
def WY (op:Int):Bool:=WR op || VI op || VS op != 0 || (VV op).2.2.2 || restL.contains op
theorem by_cases3 (P:Int→Prop) (h1:∀ n:Fin 256,P (n.val:Int)) (h2:∀ n:Fin 256,P (64512+(n.val:Int)))
 (h3:∀ op,op<0∨255<op∧op<64512∨64767<op→P op) (op:Int):P op:=by
 by_cases a:0≤op∧op<256
 ·have:=h1 ⟨op.toNat,by omega⟩
  rwa [show((op.toNat:Nat):Int)=op by omega]at this
 ·by_cases b:64512≤op∧op<64768
  ·have:=h2 ⟨(op - 64512).toNat,by omega⟩
   rwa [show 64512+(((op - 64512).toNat:Nat):Int)=op by omega]at this
  ·exact h3 op (by omega)
theorem far_num (op:Int) (h:op<0∨255<op∧op<64512∨64767<op):WR op=false:=by
 unfold WR isB isF;rw[decide_eq_false (by omega),decide_eq_false (by omega)];rfl
theorem far_opens (op:Int) (h:op<0∨255<op∧op<64512∨64767<op):VI op=false:=decide_eq_false (by omega)
theorem far_const (op:Int) (h:op<0∨255<op∧op<64512∨64767<op):VS op=0:=by
 unfold VS;rw[if_neg (by omega),if_neg (by omega),if_neg (by omega)]
theorem far_acc (op:Int) (h:op<0∨255<op∧op<64512∨64767<op):VV op=(0,0,false,false):=by
 unfold VV;rw[if_neg (by omega)]
theorem far_list (l:List Int) (hl:l.all (fun x=>decide (0≤x∧x≤255∨64512≤x∧x≤64767))=true) (op:Int) (h:op<0∨255<op∧op<64512∨64767<op):l.contains op=false:=by
 rw[List.all_eq_true]at hl;apply Bool.eq_false_iff.mpr
 intro hc;have hm:op ∈ l:=by simpa using hc
 have:=of_decide_eq_true (hl op hm);omega
theorem far_rest (op:Int) (h:op<0∨255<op∧op<64512∨64767<op):restL.contains op=false:=far_list _ (by decide) op h
theorem far_known (op:Int) (h:op<0∨255<op∧op<64512∨64767<op):WY op=false:=by
 unfold WY;rw[far_num op h,far_opens op h,far_const op h,far_acc op h,far_rest op h];rfl
theorem sig_count (op:Int):WR op=true→(VW op).1=1∨(VW op).1=2 :=
 by_cases3 (fun op=>WR op=true→(VW op).1=1∨(VW op).1=2) (by decide +kernel) (by decide +kernel) (fun op h e=>by rw[far_num op h]at e;cases e) op
def Uh (op:Int):Bool :=
 WR op || decide (0<(VV op).1) || VS op != 0 || decide (0≤op∧op≤5∨11≤op∧op≤16∨op=18∨op=26∨op=27∨32≤op∧op≤36∨op=63∨op=64∨64520≤op∧op≤64523)
theorem rknown_eq (op:Int):Uh op=WY op :=
 by_cases3 (fun op=>Uh op=WY op) (by decide +kernel) (by decide +kernel)
  (fun op h=>by rw[far_known op h];unfold Uh;rw[far_num op h,far_acc op h,far_const op h,decide_eq_false (by omega:¬ (0≤op∧op≤5∨11≤op∧op≤16∨op=18∨op=26∨op=27∨32≤op∧op≤36∨op=63∨op=64∨64520≤op∧op≤64523))];rfl) op
theorem acc_pos (op:Int):(VV op).2.2.2=decide (0<(VV op).1) :=
 by_cases3 (fun op=>(VV op).2.2.2=decide (0<(VV op).1)) (by decide +kernel) (by decide +kernel) (fun op h=>by rw[far_acc op h];rfl) op
end
section
open Go.RowKit
def inB (n lo hi:Int):Bool:=decide (lo≤n∧n≤hi)
def Wl (op:Int):Int×Int×Int×Int×Int×Int :=
 if 2≤op∧op≤4 then (-4,63,0,0,0,0)
 else if op=12∨op=13 then (0,64,0,0,0,0)
 else if op=14 then (0,0,0,0,1,17)
 else if op=16∨op=18 then (0,255,0,0,0,0)
 else if 32≤op∧op≤34 then (0,255,0,0,0,0)
 else if op=35∨op=36 then (0,255,0,0,0,0)
 else if op=63∨op=64∨op=64523 then (0,3,0,0,0,0)
 else if op=64520 then (0,3,15,0,0,0)
 else if op=64521 then (0,15,0,0,0,0)
 else if op=64522 then (0,3,3,0,0,0)
 else if op=65 then (0,0,0,4294967295,0,0)
 else if op=66∨op=68 then (0,0,0,18446744073709551615,0,0)
 else if (VV op).2.2.2 then (0,3,0,4294967295,0,0)
 else (0,0,0,0,0,0)
def labB (n:Int):Bool:=inB n 0 64
def insB (op a b n:Int) (l:List Int):Bool :=
 WY op && inB a (Wl op).1 (Wl op).2.1 && inB b 0 (Wl op).2.2.1 && decide (n≤(Wl op).2.2.2.1) && inB (l.length:Int) (Wl op).2.2.2.2.1 (Wl op).2.2.2.2.2 && l.all labB
def okB (op a b n:Int) (l:List Int):Bool:=decide (0≤n) && insB op a b n l
theorem ok_i (lo hi mb mn:Int) {op a b n:Int} (hk:WY op=true) (hf:Wl op=(lo,hi,mb,mn,0,0)) (h1:lo≤a) (h2:a≤hi) (h3:0≤b) (h4:b≤mb) (h5:0≤n) (h6:n≤mn):okB op a b n []=true:=by
 simp only[okB,insB,hk,hf,inB,List.length_nil,List.all_nil,Bool.and_true,Bool.true_and,Bool.and_eq_true,decide_eq_true_eq];exact⟨h5,⟨⟨⟨h1,h2⟩,h3,h4⟩,h6⟩,by omega⟩
theorem ok_l {q:List Int} (h1:1≤q.length) (h2:q.length≤17) (hq:∀ z ∈ q,0≤z∧z≤64):okB 14 0 0 0 q=true:=by
 simp only[okB,insB,show WY 14=true from by decide +kernel,show Wl 14=(0,0,0,0,1,17) from by decide +kernel,inB,Bool.true_and,Bool.and_eq_true,decide_eq_true_eq,List.all_eq_true];refine⟨by omega,⟨⟨⟨by omega,by omega⟩,by omega⟩,by omega,by omega⟩,fun z hz=>?_⟩;simp only[labB,inB,decide_eq_true_eq];exact hq z hz
theorem num_ok (op:Int):WR op=true→okB op 0 0 0 []=true :=
 by_cases3 (fun op=>WR op=true→okB op 0 0 0 []=true) (by decide +kernel) (by decide +kernel) (fun op h e=>by rw[far_num op h]at e;cases e) op
end
end Go.Proofs.YtgmgcadlkebokaaGreatDoor
