/- A part of the proof. -/
import Derived.Test.YtepgopnnaeoolaaGreatDoorProg
import Derived.OrdersHeld
import Derived.Deep.RegionHeld
import Derived.WalkKit
import Derived.WalkLawsBesides
import Derived.Lib.Hide
import Derived.Below
import Derived.Deep.AppendLies
import Derived.Deep.QuietTactic
import Derived.BigQuiet
import Derived.WalkSmall
import Derived.Lib.BitFns
import Derived.Lib.Walk
import Derived.Deep.CutRange
namespace Go.Proofs.YtepgopnnaeoolaaGreatDoor
section
open Go
section
variable {P:Program} {md:Region.Mode} {ops:Array Oper} {Q:Exit→Act→World→Prop} {S:World→Prop}
theorem mR (i d:Nat) {o1:Op} {o2:TypeId} {o3:String} {o4:Array Edge} {o5:Option (Nat×Bool)} {n:Nat} {l:Array Bool} {a:Act} {w:World} (ho:ops[i]?=some ⟨some d,o1,o2,o3,o4,o5⟩)
 (h:∀ K:Act→World→Prop,Shut (∀ a w,S w→(S w→wpAnyH P md ops Q S n (l.setIfInBounds i true) a w)→K a w)→if Region.wanted ⟨some d,o1,o2,o3,o4,o5⟩ (yielded ops a.tmps)=true then Oper.wp P ⟨some d,o1,o2,o3,o4,o5⟩ a w K Q else K (a.put (some d) undef) w)
 (hr:Region.ready md ops l=[i]:=by kernel_rfl):wpAnyH P md ops Q S (n+1) l a w:=wpAnyH_ready hr (by simp) (AllReadyH.cons ho h AllReadyH.nil)
theorem mT (i d:Nat) {o1:Op} {o2:TypeId} {o3:String} {o4:Array Edge} {o5:Option (Nat×Bool)} {n:Nat} {v:Value} {l l2:Array Bool} {a a2:Act} {w:World} (hi:ops[i]?=some ⟨some d,o1,o2,o3,o4,o5⟩) (hS:S w)
 (h:wpAnyH P md ops Q S n l2 a2 w) (hw:Region.wanted ⟨some d,o1,o2,o3,o4,o5⟩ (yielded ops a.tmps)=true:=by rfl) (hy:∀ w',S w'→(execOp a.eval ⟨some d,o1,o2,o3,o4,o5⟩).run P w'=.ok (.value v) w':=by intro wS hSw;go_simp;try with_reducible rfl)
 (hl:l.setIfInBounds i true=l2:=by simp only[List.setIfInBounds_toArray,List.set] <;> rfl) (ha:a.put (some d) v=a2:=by simp only[Act.put,List.setIfInBounds_toArray,List.set] <;> rfl)
 (hs:Region.noSelect ops=true:=by kernel_rfl) (hf:Region.free md ops l i=true:=by kernel_rfl) (hr:(Region.ready md ops l).contains i=true:=by kernel_rfl)
 (hQ:∀ c a w,Q (.panic c) (a.put (some d) v) w→Q (.panic c) a w:=by exact fun _ _ _ h=>h):wpAnyH P md ops Q S (n+1) l a w:=wpAnyH_take hi hs hf hr hQ (.inl ⟨hw,hy⟩) hS (by rw[hl,ha];exact h)
theorem mN (i d:Nat) {o1:Op} {o2:TypeId} {o3:String} {o4:Array Edge} {o5:Option (Nat×Bool)} {n:Nat} {l l2:Array Bool} {a a2:Act} {w:World} (hi:ops[i]?=some ⟨some d,o1,o2,o3,o4,o5⟩) (hS:S w)
 (h:wpAnyH P md ops Q S n l2 a2 w) (hw:Region.wanted ⟨some d,o1,o2,o3,o4,o5⟩ (yielded ops a.tmps)=false:=by rfl)
 (hl:l.setIfInBounds i true=l2:=by simp only[List.setIfInBounds_toArray,List.set] <;> rfl) (ha:a.put (some d) undef=a2:=by simp only[Act.put,List.setIfInBounds_toArray,List.set] <;> rfl)
 (hs:Region.noSelect ops=true:=by kernel_rfl) (hf:Region.free md ops l i=true:=by kernel_rfl) (hr:(Region.ready md ops l).contains i=true:=by kernel_rfl)
 (hQ:∀ c a w,Q (.panic c) (a.put (some d) undef) w→Q (.panic c) a w:=by exact fun _ _ _ h=>h):wpAnyH P md ops Q S (n+1) l a w:=wpAnyH_take hi hs hf hr hQ (.inr ⟨hw,rfl⟩) hS (by rw[hl,ha];exact h)
end
theorem sA {α:Type} (l:List α) (i:Nat) (x:α):l.toArray.setIfInBounds i x=(l.set i x).toArray:=List.setIfInBounds_toArray ..
end
section
open Go.RowKit
def Wo (b:Bool) (w:World) (e:Ending) (w':World):Prop:=e=.returned (.bool b)∧Below w.heap.size w w'
def ValPost (v:Value) (w:World) (e:Ending) (w':World):Prop:=e=.returned v∧Below w.heap.size w w'
theorem Wa {a b c:World} (h:Below a.heap.size a b) (k:Below b.heap.size b c):Below a.heap.size a c:=h.trans (k.mono h.size)
theorem Wj {B:Nat} {a w:World} (h:Below B a w) (n:Nat):Below B a (w.drewN n):=⟨h.os,h.tape,h.output,h.size,h.block⟩
theorem Wi {w w1:World} (h:Below w.heap.size w w1) (o:Obj):Below w.heap.size w (w1.alloc o):=h.alloc h.size o
theorem WM {b c:Bool} (h:b=c):Ending.returned (.bool b)=.returned (.bool c):=by rw[h]
theorem ret_int {k:IntKind} {a b:Int} (h:a=b):Ending.returned (.int k a)=.returned (.int k b):=by rw[h]
theorem Vi {w w':World} {base:Nat} {e:TypeId} {size:Nat} {v:Value} {n:Nat} {xs:List Value} (h:w.ownsRow base e size v n xs) (hb:Below w.heap.size w w'):w'.ownsRow base e size v n xs:=by
 obtain⟨h1,h2⟩:=h;refine⟨h1,?_⟩;rcases h2 with h2|⟨g,cap,cur,r1,r2,r3,r4⟩
 ·exact .inl h2
 ·have hg:g<w.heap.size:=(Array.getElem?_eq_some_iff.1 r3).1;exact .inr ⟨g,cap,cur,r1,r2,(hb.block g hg).trans r3,r4⟩
theorem add_lit0 (g j:Nat):(⟨g,0,none⟩:Addr).add j=⟨g,j,none⟩:=by unfold Addr.add;split <;> simp_all
theorem info_parts {P:Program} {t:TypeId} {z:Value} {s b:Nat} (h:(P.info? t).map (fun i=>(i.zero,i.size,i.bytes))=some (some z,s,b)) :
 ∃ i,P.info? t=some i∧i.zero=some z∧i.size=s∧i.bytes=b:=by
 cases hi:P.info? t with
 | none=>rw[hi]at h;cases h
 | some i =>
  rw[hi]at h;have h1:(i.zero,i.size,i.bytes)=(some z,s,b):=by simpa using h
  exact⟨i,rfl,congrArg Prod.fst h1,congrArg (·.2.1) h1,congrArg (·.2.2) h1⟩
end
section
open Go.RowKit
theorem hD {p:Prop} (h:p):Hid p:=Lib.hid h
theorem WW {n m k:Nat}:n<m→m≤k→n<k:=Nat.lt_of_lt_of_le
theorem nR (n:Nat):n≤n:=Nat.le_refl n
theorem nZ (n:Nat):0≤n:=Nat.zero_le n
theorem bR (B:Nat) (w:World):Below B w w:=Below.refl B w
theorem wL (w:World) (a:Addr) {u:Value} (h:w.cell? a=some u):a.block<w.heap.size:=World.block_lt_of_cell? w a h
theorem vI (a:Option Addr) (len cap:Nat) (b:Option Addr) (l c:Nat):(Value.slice a len cap=Value.slice b l c)=(a=b∧len=l∧cap=c):=Value.slice.injEq ..
theorem wN (w:World) (c:Array Value) (t:TypeId) (i:Nat):(w.alloc (.cells c t)).cell? ⟨w.heap.size,i,none⟩=c[i]?:=World.cell?_alloc_new w c t i
end
section
open Go.RowKit
def Bytes (w:World) (A:Option Addr) (l:List Nat):Prop :=
 (∀ x ∈ l,x<256)∧(0<l.length→∃ g o:Nat,A=some ⟨g,o,none⟩∧g<w.heap.size∧∀ j,j<l.length→w.cell? ⟨g,o+j,none⟩=some (.int .u8 (l.getD j 0:Nat)))
theorem Bytes.nil (w:World) (A:Option Addr):Bytes w A []:=⟨by simp,fun h=>by simp at h⟩
theorem Bytes.below {w w':World} {A:Option Addr} {l:List Nat} (h:Bytes w A l) (hb:Below w.heap.size w w'):Bytes w' A l :=
 ⟨h.1,fun hl=>by
  obtain⟨g,o,r1,r2,r3⟩:=h.2 hl;exact⟨g,o,r1,WW r2 hb.size,fun j hj=>(hb.cell (p:=⟨g,o+j,none⟩) r2).trans (r3 j hj)⟩⟩
theorem getD_lt {l:List Nat} {b:Nat} (hb:0<b) (h:∀ x ∈ l,x<b) (j:Nat):l.getD j 0<b:=by
 rcases Nat.lt_or_ge j l.length with hj|hj
 ·have e:l.getD j 0=l[j]:=by simp[hj]
  rw[e];exact h _ (List.getElem_mem hj)
 ·simp[List.getD,hj,hb]
theorem Bytes.part {w:World} {A:Option Addr} {l:List Nat} (h:Bytes w A l) (k m:Nat) (hm:k+m≤l.length) (A':Option Addr) (hA:∀ g o:Nat,0<m→A=some ⟨g,o,none⟩→A'=some ⟨g,o+k,none⟩):Bytes w A' ((l.drop k).take m):=by
 refine⟨fun x hx=>h.1 x (List.mem_of_mem_drop (List.mem_of_mem_take hx)),fun hl=>?_⟩;have hm':0<m:=by simp at hl;omega
 obtain⟨g,o,rfl,r2,r3⟩:=h.2 (by omega);refine⟨g,o+k,hA g o hm' rfl,r2,fun j hj=>?_⟩;have hj':j<m:=by simp at hj;omega
 have e:((l.drop k).take m).getD j 0=l.getD (k+j) 0:=by simp[List.getD,hj']
 rw[e,Nat.add_assoc];exact r3 (k+j) (by omega)
end
section
def VC (x:Nat):Bool:=decide (128≤x) && decide (x<192)
def WF (x:Nat):Nat:=if 192≤x∧x<224 then 1 else if 224≤x∧x<240 then 2 else if 240≤x∧x<248 then 3 else 0
def maskB (k:Nat):Nat:=if k=1 then 32 else if k=2 then 16 else 8
def leastB (k:Nat):Nat:=if k=1 then 128 else if k=2 then 2048 else 65536
def VA (v:Nat):List Nat→Nat
 | []=>v
 | y :: l=>VA (v * 64+y % 64) l
def badV (k v:Nat):Bool:=decide (v<leastB k∨(55296≤v∧v<57344)∨1114112≤v)
def tvalB (x k:Nat) (t:List Nat):Nat:=VA (x % maskB k) (t.take k)
def Ub:List Nat→Nat
 | []=>0
 | x :: t=>if x<128 then 1 else if WF x=0∨t.length<WF x∨(t.take (WF x)).all VC=false∨badV (WF x) (tvalB x (WF x) t)=true then 0 else WF x+1
def charsB (l:List Nat):Option Nat :=
 if l=[] then some 0 else if h:Ub l=0 then none else (charsB (l.drop (Ub l))).map (·+1)
termination_by l.length
decreasing_by
 rename_i h0
 have:0<l.length:=List.length_pos_iff.2 h0;rw[List.length_drop];omega
def joinI (m:Nat):Option Nat→Int
 | none => -1
 | some t=>((m+t:Nat):Int)
def cntI (l:List Nat):Int:=joinI 0 (charsB l)
theorem charB_cons (x:Nat) (t:List Nat):Ub (x :: t)=if x<128 then 1 else if WF x=0∨t.length<WF x∨(t.take (WF x)).all VC=false∨badV (WF x) (tvalB x (WF x) t)=true then 0 else WF x+1:=rfl
theorem charB_more {x:Nat} {t:List Nat} (hx:¬ x<128) (hc:Ub (x :: t)≠0) :
 Ub (x :: t)=WF x+1∧WF x≠0∧WF x≤t.length∧(t.take (WF x)).all VC=true∧badV (WF x) (tvalB x (WF x) t)=false:=by
 rw[charB_cons,if_neg hx]at hc ⊢
 split at hc
 ·exact absurd rfl hc
 ·rename_i h
  rw[if_neg h];refine⟨rfl,fun h0=>h (.inl h0),?_,?_,?_⟩
  ·rcases Nat.lt_or_ge t.length (WF x) with h1|h1
   ·exact absurd (.inr (.inl h1)) h
   ·exact h1
  ·cases h1:(t.take (WF x)).all VC with
   | true=>rfl
   | false=>exact absurd (.inr (.inr (.inl h1))) h
  ·cases h1:badV (WF x) (tvalB x (WF x) t) with
   | false=>rfl
   | true=>exact absurd (.inr (.inr (.inr h1))) h
theorem charB_good {x:Nat} {t:List Nat} (hx:¬ x<128) (h1:WF x≠0) (h2:WF x≤t.length) (h3:(t.take (WF x)).all VC=true) (h4:badV (WF x) (tvalB x (WF x) t)=false) :
 Ub (x :: t)=WF x+1:=by
 rw[charB_cons,if_neg hx,if_neg];rintro(h|h|h|h)
 ·exact h1 h
 ·omega
 ·rw[h3]at h;cases h
 ·rw[h4]at h;cases h
theorem charB_one {x:Nat} {t:List Nat} (hx:x<128):Ub (x :: t)=1:=by rw[charB_cons,if_pos hx]
theorem charB_none {x:Nat} {t:List Nat} (hx:¬ x<128) (h:WF x=0∨t.length<WF x∨(t.take (WF x)).all VC=false∨badV (WF x) (tvalB x (WF x) t)=true):Ub (x :: t)=0:=by
 rw[charB_cons,if_neg hx,if_pos h]
theorem moreB_le (x:Nat):WF x≤3:=by
 unfold WF;split;· omega
 ·split;· omega
  ·split <;> omega
theorem charB_le (l:List Nat):Ub l≤l.length∧Ub l≤4:=by
 cases l with
 | nil=>exact⟨Nat.le_refl _,Nat.zero_le _⟩
 | cons x t =>
  by_cases hx:x<128
  ·rw[charB_one hx];simp
  ·by_cases h:Ub (x :: t)=0
   ·rw[h];simp
   ·obtain⟨h1,h2,h3,_⟩:=charB_more hx h;have:=moreB_le x;rw[h1];simp;omega
theorem cons_of {l:List Nat} (h:0<l.length):l=l.getD 0 0 :: l.drop 1:=by
 cases l with
 | nil=>simp at h
 | cons x t=>simp
theorem accB_snoc (l:List Nat):∀ (v y:Nat),VA v (l++[y])=VA v l * 64+y % 64:=by
 induction l with
 | nil=>intro v y;rfl
 | cons a l ih=>intro v y;exact ih _ y
theorem accB_take (t:List Nat) (j:Nat) (h:j<t.length) (v:Nat):VA v (t.take (j+1))=VA v (t.take j) * 64+t.getD j 0 % 64:=by
 have e:t.take (j+1)=t.take j++[t.getD j 0]:=by
  rw[List.take_succ_eq_append_getElem h];simp[List.getD,h]
 rw[e,accB_snoc]
theorem accB_lt (l:List Nat):∀ v,VA v l<(v+1) * 64 ^ l.length:=by
 induction l with
 | nil=>intro v;simp[VA]
 | cons y l ih =>
  intro v;have:=ih (v * 64+y % 64);have h2:v * 64+y % 64+1≤(v+1) * 64:=by omega
  have h3:(v * 64+y % 64+1) * 64 ^ l.length≤(v+1) * 64 * 64 ^ l.length:=Nat.mul_le_mul_right _ h2;simp only[VA,List.length_cons];rw[Nat.pow_succ,Nat.mul_comm (64 ^ l.length) 64,← Nat.mul_assoc];omega
theorem accB_small (x k j:Nat) (t:List Nat) (hj:j≤3):VA (x % maskB k) (t.take j)<8388608:=by
 have h:=accB_lt (t.take j) (x % maskB k);have hm:x % maskB k+1≤32:=by
  unfold maskB
  split
  ·omega
  ·split <;> omega
 have hl:(t.take j).length≤3:=by rw[List.length_take];omega
 have h2:(64:Nat) ^ (t.take j).length≤64 ^ 3:=Nat.pow_le_pow_right (by decide) hl;have h3:(x % maskB k+1) * 64 ^ (t.take j).length≤32 * 64 ^ 3:=Nat.mul_le_mul hm h2;omega
theorem all_take_succ {t:List Nat} {j:Nat} (h:j<t.length) (ha:(t.take j).all VC=true) (hc:VC (t.getD j 0)=true):(t.take (j+1)).all VC=true:=by
 have e:t.take (j+1)=t.take j++[t.getD j 0]:=by
  rw[List.take_succ_eq_append_getElem h];simp[List.getD,h]
 rw[e,List.all_append,ha];simp only[List.all_cons,List.all_nil,hc,Bool.and_self]
theorem all_take_no {t:List Nat} {j k:Nat} (h:j<t.length) (hk:j<k) (hc:VC (t.getD j 0)=false):(t.take k).all VC=false:=by
 rw[Bool.eq_false_iff];intro ha;have h1:=List.all_eq_true.1 ha (t.getD j 0) (List.mem_iff_getElem?.2 ⟨j,by rw[List.getElem?_take,if_pos hk];simp[List.getD,h]⟩);rw[hc]at h1;cases h1
theorem joinI_end (m:Nat):joinI m (charsB [])=m:=by rw[charsB];simp[joinI]
theorem joinI_bad {l:List Nat} (h:0<l.length) (hc:Ub l=0) (m:Nat):joinI m (charsB l) = -1:=by
 rw[charsB,if_neg (by rintro rfl;simp at h),dif_pos hc];rfl
theorem joinI_step {l:List Nat} (h:0<l.length) (hc:Ub l≠0) (m:Nat):joinI m (charsB l)=joinI (m+1) (charsB (l.drop (Ub l))):=by
 rw[charsB,if_neg (by rintro rfl;simp at h),dif_neg hc];cases charsB (l.drop (Ub l)) with
 | none=>rfl
 | some t=>simp only[Option.map_some,joinI];omega
end
section
open Go.RowKit
set_option maxHeartbeats 1000000
set_option maxRecDepth 100000
theorem ZP {P:Prop}(h:P:=by
 clear hV;rcases hbw with ⟨hb,w1⟩|⟨hb,w1,w2,w3⟩|⟨hb,w1,w2,w3,w4⟩|⟨hb,w1,w2,w4⟩|⟨hb,w1,w2,w3,w4⟩
 all_goals
  rw[hb]at HR;clear hb;go_wp2;go_ret;exact⟨ret_int (by rw[HR.out];rfl),Wj (bR _ _) _⟩):P:=h
theorem ZU {P:Prop}(h:P:=by
 go_enter Tryz.func116,Tryz.ntmps116;go_wp2_with (go_at_call 122;refine(HL.out _).mono ?_;rintro e w' ⟨rfl,rfl⟩)
 go_ret;exact⟨rfl,bR _ _⟩):P:=h
theorem Zbc {P:Prop}(h:P:=by
 clear hac hat hcb hno;go_wp2;go_round
 case rel=>exact⟨j+1,by omega,by go_num,by rw[HAC.out];go_num,HAT⟩
 case measure=>simp[intOf];omega):P:=h
theorem Zbn {P:Prop}(h:P:=by
 have HN:=hD (hno hcb);clear hac hat hcb hno;go_wp2;go_ret;exact⟨ret_int (by rw[HN.out];rfl),Wj (bR _ _) _⟩):P:=h
def Tab (w:World):Prop:=∀ i,i<5→w.cell? ⟨0,i,none⟩=some (.int .i64 ([0,0,128,2048,65536].getD i 0))
theorem Tab.lt {w:World} (h:Tab w):0<w.heap.size:=wL w _ (h 0 (by decide))
theorem Tab.below {w w':World} (h:Tab w) (hb:Below w.heap.size w w'):Tab w':=fun i hi=>(hb.cell (p:=⟨0,i,none⟩) h.lt).trans (h i hi)
theorem len8_byte (x:Nat) (hx:x<256) (hs:x<Lib.len8tab.size):wrap64 ((Lib.len8tab[x]'hs).toNat:Int)=(Lib.bitLen x:Int):=by
 have e:=Lib.len8_int (x:Int) (by omega) (by omega);have e2:((Lib.len8tab[x]'hs).toNat:Int)=Lib.len8 (x:Int):=by simp only[Lib.len8,Int.toNat_natCast,ByteArray.getElem?_lt' _ _ hs,Option.getD_some]
 rw[e2];rw[Int.toNat_natCast]at e;unfold wrap64;exact e
theorem len8_any (x:Nat) (hx:x<256) (w:World):Calls Tryz.prog 125 #[.int .u8 (x:Int)] w fun e w'=>e=.returned (.int .i64 (Lib.bitLen x:Int))∧w=w':=by
 have HX:=hD hx;go_enter Tryz.func125,Tryz.ntmps125;go_wp2;go_ret;exact⟨ret_int (len8_byte x HX.out _),rfl⟩
theorem lead8_any (x:Nat) (hx:x<256) (w:World):Calls Tryz.prog 122 #[.int .u8 (x:Int)] w fun e w'=>e=.returned (.int .i64 (8 - (Lib.bitLen x:Int)))∧w=w':=by
 have hl:Lib.bitLen x≤8:=(by decide +kernel:∀ k:Fin 256,Lib.bitLen k.val≤8) ⟨x,hx⟩;go_enter Tryz.func122,Tryz.ntmps122;go_wp2_with (go_at_call 125;refine(len8_any x hx _).mono ?_;rintro e w' ⟨rfl,rfl⟩)
 go_ret;exact⟨rfl,rfl⟩
theorem not_byte (x:Nat) (h:x<256):Go.bits .xor .u8 IntKind.u8.max (x:Int)=((255 - x:Nat):Int) :=
 (by decide +kernel:∀ k:Fin 256,Go.bits .xor .u8 IntKind.u8.max (k.val:Int)=((255 - k.val:Nat):Int)) ⟨x,h⟩
def onesB (x:Nat):Nat:=8 - Lib.bitLen (255 - x)
theorem ones_is (x:Nat) (h:x<256):(8:Int) - (Lib.bitLen (255 - x):Int)=(onesB x:Int) :=
 (by decide +kernel:∀ k:Fin 256,(8:Int) - (Lib.bitLen (255 - k.val):Int)=(onesB k.val:Int)) ⟨x,h⟩
theorem ones_says (x:Nat) (h:x<256):(x<128→onesB x=0)∧(128≤x∧x<192→onesB x=1)∧(WF x≠0→onesB x=WF x+1)∧(192≤x→WF x=0→5≤onesB x∧onesB x≤8) :=
 (by decide +kernel:∀ k:Fin 256,(k.val<128→onesB k.val=0)∧(128≤k.val∧k.val<192→onesB k.val=1)∧(WF k.val≠0→onesB k.val=WF k.val+1)∧(192≤k.val→WF k.val=0→5≤onesB k.val∧onesB k.val≤8)) ⟨x,h⟩
abbrev LeadSays (x o:Nat):Prop:=∀ w:World,Calls Tryz.prog 122 #[.int .u8 ((255 - x:Nat):Int)] w fun e w'=>e=.returned (.int .i64 (o:Int))∧w=w'
theorem lead_says (x:Nat) (h:x<256):LeadSays x (onesB x):=fun w=>(lead8_any (255 - x) (by omega) w).mono fun e w' ⟨he,hw⟩=>⟨by rw[he,ones_is x h],hw⟩
theorem u8_plain:IntKind.u8.signed=false:=rfl
theorem size_low (g o n cap x k:Nat) (hx:x<256) (ho:onesB x=k) (hk:k=0) (w:World) (hc:w.cell? ⟨g,o,none⟩=some (.int .u8 (x:Int))) (hn:1≤n) :
 Calls Tryz.prog 116 #[.slice (some ⟨g,o,none⟩) n cap] w (ValPost (.int .i64 1) w):=by
 have hl:=lead_says x hx;rw[ho]at hl;have HL:=hD hl;have h1:=not_byte x hx;have h2:=u8_plain;subst hk;clear hl ho;exact ZU
theorem size_off (g o n cap x k:Nat) (hx:x<256) (ho:onesB x=k) (hk:k=1∨4<k∨n<k) (hk0:1≤k) (hk8:k≤8) (w:World) (hc:w.cell? ⟨g,o,none⟩=some (.int .u8 (x:Int))) (hn:1≤n) :
 Calls Tryz.prog 116 #[.slice (some ⟨g,o,none⟩) n cap] w (ValPost (.int .i64 0) w):=by
 have hl:=lead_says x hx;rw[ho]at hl;have HL:=hD hl;have h1:=not_byte x hx;have h2:=u8_plain;have h3:((k:Int)==0)=false:=by simp;omega
 have HK:=hD hk;clear hl ho hk;by_cases k1:k=1
 ·subst k1;clear HK;exact ZU
 ·have h4:((k:Int)==1)=false:=by simp;omega
  by_cases k4:4<k
  ·have h5:decide ((4:Int)<(k:Int))=true:=by simp;omega
   exact ZU
  ·have h5:decide ((4:Int)<(k:Int))=false:=by simp;omega
   have h6:n<k:=by have:=HK.out;omega
   have h7:decide ((n:Int)<(k:Int))=true:=by simp;omega
   exact ZU
theorem and31 (x:Nat) (h:x<256):Go.bits .and .u8 (x:Int) 31=((x % 32:Nat):Int) :=
 (by decide +kernel:∀ k:Fin 256,Go.bits .and .u8 (k.val:Int) 31=((k.val % 32:Nat):Int)) ⟨x,h⟩
theorem and63 (x:Nat) (h:x<256):Go.bits .and .u8 (x:Int) 63=((x % 64:Nat):Int) :=
 (by decide +kernel:∀ k:Fin 256,Go.bits .and .u8 (k.val:Int) 63=((k.val % 64:Nat):Int)) ⟨x,h⟩
theorem and15 (x:Nat) (h:x<256):Go.bits .and .u8 (x:Int) 15=((x % 16:Nat):Int) :=
 (by decide +kernel:∀ k:Fin 256,Go.bits .and .u8 (k.val:Int) 15=((k.val % 16:Nat):Int)) ⟨x,h⟩
theorem and7 (x:Nat) (h:x<256):Go.bits .and .u8 (x:Int) 7=((x % 8:Nat):Int) :=
 (by decide +kernel:∀ k:Fin 256,Go.bits .and .u8 (k.val:Int) 7=((k.val % 8:Nat):Int)) ⟨x,h⟩
theorem or_six (V y:Nat) (h:V<8388608):Go.bits .or .i64 ((V:Int) * 64) ((y:Int) % 64)=(V:Int) * 64+(y:Int) % 64:=by
 have e1:(V:Int) * 64=((V * 64:Nat):Int):=by omega
 have e2:(y:Int) % 64=((y % 64:Nat):Int):=by omega
 have h1:(BitVec.ofInt 64 ((V * 64:Nat):Int)).toNat=V * 64:=by
  rw[BitVec.ofInt_natCast,BitVec.toNat_ofNat];exact Nat.mod_eq_of_lt (by omega)
 have h2:(BitVec.ofInt 64 ((y % 64:Nat):Int)).toNat=y % 64:=by
  rw[BitVec.ofInt_natCast,BitVec.toNat_ofNat];exact Nat.mod_eq_of_lt (by omega)
 have h3:V * 64 ||| y % 64=V * 64+y % 64:=by
  have h:=Nat.two_pow_add_eq_or_of_lt (i:=6) (b:=y % 64) (by omega) V;rw[show(2:Nat) ^ 6=64 from rfl]at h;rw[Nat.mul_comm V 64];exact h.symm
 rw[e1,e2];show IntKind.i64.wrap ((BitVec.ofInt 64 ((V * 64:Nat):Int) ||| BitVec.ofInt 64 ((y % 64:Nat):Int)).toNat:Int)=_;rw[BitVec.toNat_or,h1,h2,h3,IntKind.wrap_i64];omega
theorem cont_yes {y:Nat} (h:VC y=true):((y:Int) / 64 != 2)=false:=by
 unfold VC at h;simp only[Bool.and_eq_true,decide_eq_true_eq]at h;simp;omega
theorem cont_no {y:Nat} (h:VC y=false):((y:Int) / 64 != 2)=true:=by
 unfold VC at h;simp only[Bool.and_eq_false_iff,decide_eq_false_iff_not]at h;simp;omega
theorem bad_ways (k V:Nat) (L:Int) (hL:L=(leastB k:Int)) :
 (badV k V=true∧decide ((V:Int)<L)=true)∨(badV k V=true∧decide ((V:Int)<L)=false∧decide ((55296:Int)≤V)=true∧decide ((V:Int)<57344)=true) ∨
 (badV k V=true∧decide ((V:Int)<L)=false∧decide ((55296:Int)≤V)=true∧decide ((V:Int)<57344)=false∧decide ((1114112:Int)≤V)=true) ∨
 (badV k V=false∧decide ((V:Int)<L)=false∧decide ((55296:Int)≤V)=false∧decide ((1114112:Int)≤V)=false) ∨
 (badV k V=false∧decide ((V:Int)<L)=false∧decide ((55296:Int)≤V)=true∧decide ((V:Int)<57344)=false∧decide ((1114112:Int)≤V)=false):=by
 subst hL;unfold badV;simp only[decide_eq_true_eq,decide_eq_false_iff_not];omega
theorem size_2 (g o n cap x:Nat) (t:List Nat) (R:Nat) (hx:x<256) (ho:onesB x=2) (hn:2≤n) (hcap:n≤cap) (w:World) (htab:Tab w) (hc:w.cell? ⟨g,o,none⟩=some (.int .u8 (x:Int)))
 (ht:∀ j,j<1→w.cell? ⟨g,o+1+j,none⟩=some (.int .u8 (t.getD j 0:Nat))) (hb:∀ j,t.getD j 0<256) (htl:1≤t.length)
 (hno:∀ j,j<1→VC (t.getD j 0)=false→R=0) (hyes:(t.take 1).all VC=true→R=if badV 1 (VA (x % 32) (t.take 1))=true then 0 else 2) (hsm:∀ j,j≤3→VA (x % 32) (t.take j)<8388608) :
 Calls Tryz.prog 116 #[.slice (some ⟨g,o,none⟩) n cap] w (ValPost (.int .i64 (R:Int)) w):=by
 have hl:=lead_says x hx;rw[ho]at hl;have HL:=hD hl;have HT:=hD ht;have HB:=hD hb;have HTL:=hD htl;have HNO:=hD hno;have HYES:=hD hyes;have HSM:=hD hsm;have HTAB:=hD htab;have h1:=not_byte x hx;have h2:=u8_plain;have h3:=and31 x hx;have h4:decide ((n:Int)<2)=false:=by simp;omega
 clear hl ho ht hb htl hno hyes hsm htab;go_enter Tryz.func116,Tryz.ntmps116;go_wp2_with (go_at_call 122;refine(HL.out _).mono ?_;rintro e w' ⟨rfl,rfl⟩)
 go_quiet (fail)
 go_wp2_with fail
 clear h1 h2 h3 h4 hc;go_loop [4,37] (fun c i=>∃ j:Nat,j≤1∧i=.int .i64 (j:Int)∧c=.int .i64 ((VA (x % 32) (t.take j):Nat):Int)∧Hid ((t.take j).all VC=true)) (fun _ i=>1 - (intOf i).toNat)
 case atStart=>exact⟨0,nZ _,rfl,by simp[VA],hD rfl⟩
 case round =>
  obtain⟨j,hj,rfl,rfl,hall⟩:=hrel;have hV:=HSM.out j (by omega);by_cases hlt:j<1
  ·have c0:=HT.out j hlt;have hy:=HB.out j;have hac:=accB_take t j (by have:=HTL.out;omega) (x % 32);have hat:=all_take_succ (t:=t) (j:=j) (by have:=HTL.out;omega) hall.out;have hno:=HNO.out j hlt;generalize t.getD j 0=y at c0 hy hac hat hno;generalize VA (x % 32) (t.take j)=V at hac hV ⊢;have hor:=or_six V y (by omega);have h63:=and63 y hy;cases hcb:VC y with
   | true =>
    have hd:((y:Int) / 64 != 2)=false:=cont_yes hcb;have hat:=hat hcb;have HAC:=hD hac;have HAT:=hD hat;have hl2:decide ((j:Int)<1)=true:=by simp;omega
    exact Zbc
   | false =>
    have hd:((y:Int) / 64 != 2)=true:=cont_no hcb;have hl2:decide ((j:Int)<1)=true:=by simp;omega
    exact Zbn
  ·obtain rfl:j=1:=by omega
   have ct:w.cell? ⟨0,2,none⟩=some (.int .i64 128):=HTAB.out 2 (by decide);have HR:=hD (HYES.out hall.out);clear hall;generalize VA (x % 32) (t.take 1)=V at HR hV ⊢;have hbw:=bad_ways 1 V 128 rfl;exact ZP
theorem size_3 (g o n cap x:Nat) (t:List Nat) (R:Nat) (hx:x<256) (ho:onesB x=3) (hn:3≤n) (hcap:n≤cap) (w:World) (htab:Tab w) (hc:w.cell? ⟨g,o,none⟩=some (.int .u8 (x:Int)))
 (ht:∀ j,j<2→w.cell? ⟨g,o+1+j,none⟩=some (.int .u8 (t.getD j 0:Nat))) (hb:∀ j,t.getD j 0<256) (htl:2≤t.length)
 (hno:∀ j,j<2→VC (t.getD j 0)=false→R=0) (hyes:(t.take 2).all VC=true→R=if badV 2 (VA (x % 16) (t.take 2))=true then 0 else 3) (hsm:∀ j,j≤3→VA (x % 16) (t.take j)<8388608) :
 Calls Tryz.prog 116 #[.slice (some ⟨g,o,none⟩) n cap] w (ValPost (.int .i64 (R:Int)) w):=by
 have hl:=lead_says x hx;rw[ho]at hl;have HL:=hD hl;have HT:=hD ht;have HB:=hD hb;have HTL:=hD htl;have HNO:=hD hno;have HYES:=hD hyes;have HSM:=hD hsm;have HTAB:=hD htab;have h1:=not_byte x hx;have h2:=u8_plain;have h3:=and15 x hx;have h4:decide ((n:Int)<3)=false:=by simp;omega
 clear hl ho ht hb htl hno hyes hsm htab;go_enter Tryz.func116,Tryz.ntmps116;go_wp2_with (go_at_call 122;refine(HL.out _).mono ?_;rintro e w' ⟨rfl,rfl⟩)
 go_quiet (fail)
 go_wp2_with fail
 clear h1 h2 h3 h4 hc;go_loop [4,37] (fun c i=>∃ j:Nat,j≤2∧i=.int .i64 (j:Int)∧c=.int .i64 ((VA (x % 16) (t.take j):Nat):Int)∧Hid ((t.take j).all VC=true)) (fun _ i=>2 - (intOf i).toNat)
 case atStart=>exact⟨0,nZ _,rfl,by simp[VA],hD rfl⟩
 case round =>
  obtain⟨j,hj,rfl,rfl,hall⟩:=hrel;have hV:=HSM.out j (by omega);by_cases hlt:j<2
  ·have c0:=HT.out j hlt;have hy:=HB.out j;have hac:=accB_take t j (by have:=HTL.out;omega) (x % 16);have hat:=all_take_succ (t:=t) (j:=j) (by have:=HTL.out;omega) hall.out;have hno:=HNO.out j hlt;generalize t.getD j 0=y at c0 hy hac hat hno;generalize VA (x % 16) (t.take j)=V at hac hV ⊢;have hor:=or_six V y (by omega);have h63:=and63 y hy;cases hcb:VC y with
   | true =>
    have hd:((y:Int) / 64 != 2)=false:=cont_yes hcb;have hat:=hat hcb;have HAC:=hD hac;have HAT:=hD hat;have hl2:decide ((j:Int)<2)=true:=by simp;omega
    exact Zbc
   | false =>
    have hd:((y:Int) / 64 != 2)=true:=cont_no hcb;have hl2:decide ((j:Int)<2)=true:=by simp;omega
    exact Zbn
  ·obtain rfl:j=2:=by omega
   have ct:w.cell? ⟨0,3,none⟩=some (.int .i64 2048):=HTAB.out 3 (by decide);have HR:=hD (HYES.out hall.out);clear hall;generalize VA (x % 16) (t.take 2)=V at HR hV ⊢;have hbw:=bad_ways 2 V 2048 rfl;exact ZP
theorem size_4 (g o n cap x:Nat) (t:List Nat) (R:Nat) (hx:x<256) (ho:onesB x=4) (hn:4≤n) (hcap:n≤cap) (w:World) (htab:Tab w) (hc:w.cell? ⟨g,o,none⟩=some (.int .u8 (x:Int)))
 (ht:∀ j,j<3→w.cell? ⟨g,o+1+j,none⟩=some (.int .u8 (t.getD j 0:Nat))) (hb:∀ j,t.getD j 0<256) (htl:3≤t.length)
 (hno:∀ j,j<3→VC (t.getD j 0)=false→R=0) (hyes:(t.take 3).all VC=true→R=if badV 3 (VA (x % 8) (t.take 3))=true then 0 else 4) (hsm:∀ j,j≤3→VA (x % 8) (t.take j)<8388608) :
 Calls Tryz.prog 116 #[.slice (some ⟨g,o,none⟩) n cap] w (ValPost (.int .i64 (R:Int)) w):=by
 have hl:=lead_says x hx;rw[ho]at hl;have HL:=hD hl;have HT:=hD ht;have HB:=hD hb;have HTL:=hD htl;have HNO:=hD hno;have HYES:=hD hyes;have HSM:=hD hsm;have HTAB:=hD htab;have h1:=not_byte x hx;have h2:=u8_plain;have h3:=and7 x hx;have h4:decide ((n:Int)<4)=false:=by simp;omega
 clear hl ho ht hb htl hno hyes hsm htab;go_enter Tryz.func116,Tryz.ntmps116;go_wp2_with (go_at_call 122;refine(HL.out _).mono ?_;rintro e w' ⟨rfl,rfl⟩)
 go_quiet (fail)
 go_wp2_with fail
 clear h1 h2 h3 h4 hc;go_loop [4,37] (fun c i=>∃ j:Nat,j≤3∧i=.int .i64 (j:Int)∧c=.int .i64 ((VA (x % 8) (t.take j):Nat):Int)∧Hid ((t.take j).all VC=true)) (fun _ i=>3 - (intOf i).toNat)
 case atStart=>exact⟨0,nZ _,rfl,by simp[VA],hD rfl⟩
 case round =>
  obtain⟨j,hj,rfl,rfl,hall⟩:=hrel;have hV:=HSM.out j (by omega);by_cases hlt:j<3
  ·have c0:=HT.out j hlt;have hy:=HB.out j;have hac:=accB_take t j (by have:=HTL.out;omega) (x % 8);have hat:=all_take_succ (t:=t) (j:=j) (by have:=HTL.out;omega) hall.out;have hno:=HNO.out j hlt;generalize t.getD j 0=y at c0 hy hac hat hno;generalize VA (x % 8) (t.take j)=V at hac hV ⊢;have hor:=or_six V y (by omega);have h63:=and63 y hy;cases hcb:VC y with
   | true =>
    have hd:((y:Int) / 64 != 2)=false:=cont_yes hcb;have hat:=hat hcb;have HAC:=hD hac;have HAT:=hD hat;have hl2:decide ((j:Int)<3)=true:=by simp;omega
    exact Zbc
   | false =>
    have hd:((y:Int) / 64 != 2)=true:=cont_no hcb;have hl2:decide ((j:Int)<3)=true:=by simp;omega
    exact Zbn
  ·obtain rfl:j=3:=by omega
   have ct:w.cell? ⟨0,4,none⟩=some (.int .i64 65536):=HTAB.out 4 (by decide);have HR:=hD (HYES.out hall.out);clear hall;generalize VA (x % 8) (t.take 3)=V at HR hV ⊢;have hbw:=bad_ways 3 V 65536 rfl;exact ZP
theorem size_any (A:Option Addr) (n cap:Nat) (l:List Nat) (hl:l.length=n) (h0:0<n) (hcap:n≤cap) (w:World) (htab:Tab w) (hb:Bytes w A l) :
 Calls Tryz.prog 116 #[.slice A n cap] w (ValPost (.int .i64 (Ub l:Int)) w):=by
 obtain⟨g,o,rfl,_,hc⟩:=hb.2 (by omega);have hx:l.getD 0 0<256:=getD_lt (by decide) hb.1 0;have he:=cons_of (l:=l) (by omega);have hc0:=hc 0 (by omega);have hct:∀ j,j<(l.drop 1).length→w.cell? ⟨g,o+1+j,none⟩=some (.int .u8 ((l.drop 1).getD j 0:Nat)):=fun j hj=>by
  have h:=hc (1+j) (by rw[List.length_drop]at hj;omega);have e:(l.drop 1).getD j 0=l.getD (1+j) 0:=by rw[List.getD_eq_getElem?_getD,List.getElem?_drop,← List.getD_eq_getElem?_getD]
  rw[e,← h,Nat.add_assoc]
 have hcb:∀ j,(l.drop 1).getD j 0<256:=fun j=>getD_lt (by decide) (fun y hy=>hb.1 y (List.mem_of_mem_drop hy)) j;have htl:(l.drop 1).length=n - 1:=by rw[List.length_drop,hl]
 rw[Nat.add_zero]at hc0;generalize l.getD 0 0=x at hx he hc0;generalize l.drop 1=t at he hct hcb htl;subst he;obtain⟨s1,s2,s3,s4⟩:=ones_says x hx;by_cases hx1:x<128
 ·rw[charB_one hx1];exact size_low g o n cap x _ hx rfl (s1 hx1) w hc0 (by omega)
 ·by_cases hm:WF x=0
  ·rw[charB_none hx1 (.inl hm)];by_cases h192:x<192
   ·have:=s2 ⟨by omega,h192⟩;exact size_off g o n cap x _ hx rfl (.inl this) (by omega) (by omega) w hc0 (by omega)
   ·have:=s4 (by omega) hm;exact size_off g o n cap x _ hx rfl (.inr (.inl (by omega))) (by omega) (by omega) w hc0 (by omega)
  ·have h3:=s3 hm;have hle:=moreB_le x;by_cases hlen:t.length<WF x
   ·rw[charB_none hx1 (.inr (.inl hlen))];exact size_off g o n cap x _ hx rfl (.inr (.inr (by omega))) (by omega) (by omega) w hc0 (by omega)
   ·have hno:∀ j,j<WF x→VC (t.getD j 0)=false→Ub (x :: t)=0:=fun j hj hcj=>charB_none hx1 (.inr (.inr (.inl (all_take_no (by omega) hj hcj))));have hyes:(t.take (WF x)).all VC=true→Ub (x :: t)=if badV (WF x) (VA (x % maskB (WF x)) (t.take (WF x)))=true then 0 else WF x+1:=fun ha=>by
     cases hbd:badV (WF x) (VA (x % maskB (WF x)) (t.take (WF x))) with
     | true=>rw[charB_none hx1 (.inr (.inr (.inr hbd)))];rfl
     | false=>rw[charB_good hx1 hm (by omega) ha hbd];rfl
    have hsm:=fun j hj=>accB_small x (WF x) j t hj;generalize Ub (x :: t)=R at hno hyes ⊢;have h3w:WF x=1∨WF x=2∨WF x=3:=by omega
    rcases h3w with h|h|h
    ·rw[h]at h3 hno hyes hlen hsm;exact size_2 g o n cap x t R hx h3 (by omega) hcap w htab hc0 (fun j hj=>hct j (by omega)) hcb (by omega) hno hyes hsm
    ·rw[h]at h3 hno hyes hlen hsm;exact size_3 g o n cap x t R hx h3 (by omega) hcap w htab hc0 (fun j hj=>hct j (by omega)) hcb (by omega) hno hyes hsm
    ·rw[h]at h3 hno hyes hlen hsm;exact size_4 g o n cap x t R hx h3 (by omega) hcap w htab hc0 (fun j hj=>hct j (by omega)) hcb (by omega) hno hyes hsm
end
end Go.Proofs.YtepgopnnaeoolaaGreatDoor
