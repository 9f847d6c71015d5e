/- A part of the proof. -/
import Derived.WalkKit
import Derived.WalkLawsBesides
import Derived.Lib.Hide
import Derived.Below
import Derived.Deep.AppendLies
import Derived.Deep.QuietTactic
import Derived.BigQuiet
import Derived.WalkSmall
namespace Go.Proofs.YtmfpnfdinoofpaaGreatDoor
section
open Go.RowKit
def S (x:BitVec 64):Int:=x.toInt
end
section
open Go.RowKit
def Wh (b:Bool) (w:World) (e:Ending) (w':World):Prop:=e=.returned (.bool b)∧Below w.heap.size w w'
def ValPost (v:Value) (w:World) (e:Ending) (w':World):Prop:=e=.returned v∧Below w.heap.size w w'
theorem Wa {a b c:World} (h:Below a.heap.size a b) (k:Below b.heap.size b c):Below a.heap.size a c:=h.trans (k.mono h.size)
theorem Wt {B:Nat} {a w:World} (h:Below B a w) (n:Nat):Below B a (w.drewN n):=⟨h.os,h.tape,h.output,h.size,h.block⟩
theorem Wb {w w1:World} (h:Below w.heap.size w w1) (o:Obj):Below w.heap.size w (w1.alloc o):=h.alloc h.size o
theorem WV {b c:Bool} (h:b=c):Ending.returned (.bool b)=.returned (.bool c):=by rw[h]
theorem ret_int {k:IntKind} {a b:Int} (h:a=b):Ending.returned (.int k a)=.returned (.int k b):=by rw[h]
theorem W8 {w w':World} {base:Nat} {e:TypeId} {size:Nat} {v:Value} {n:Nat} {xs:List Value} (h:w.ownsRow base e size v n xs) (hb:Below w.heap.size w w'):w'.ownsRow base e size v n xs:=by
 obtain⟨h1,h2⟩:=h;refine⟨h1,?_⟩;rcases h2 with h2|⟨g,cap,cur,r1,r2,r3,r4⟩
 ·exact .inl h2
 ·have hg:g<w.heap.size:=(Array.getElem?_eq_some_iff.1 r3).1;exact .inr ⟨g,cap,cur,r1,r2,(hb.block g hg).trans r3,r4⟩
theorem add_lit0 (g j:Nat):(⟨g,0,none⟩:Addr).add j=⟨g,j,none⟩:=by unfold Addr.add;split <;> simp_all
theorem info_parts {P:Program} {t:TypeId} {z:Value} {s b:Nat} (h:(P.info? t).map (fun i=>(i.zero,i.size,i.bytes))=some (some z,s,b)) :
 ∃ i,P.info? t=some i∧i.zero=some z∧i.size=s∧i.bytes=b:=by
 cases hi:P.info? t with
 | none=>rw[hi]at h;cases h
 | some i =>
  rw[hi]at h;have h1:(i.zero,i.size,i.bytes)=(some z,s,b):=by simpa using h
  exact⟨i,rfl,congrArg Prod.fst h1,congrArg (·.2.1) h1,congrArg (·.2.2) h1⟩
end
section
def VQ (x:Nat):Bool:=decide (128≤x) && decide (x<192)
def WM (x:Nat):Nat:=if 192≤x∧x<224 then 1 else if 224≤x∧x<240 then 2 else if 240≤x∧x<248 then 3 else 0
def maskB (k:Nat):Nat:=if k=1 then 32 else if k=2 then 16 else 8
def leastB (k:Nat):Nat:=if k=1 then 128 else if k=2 then 2048 else 65536
def Vn (v:Nat):List Nat→Nat
 | []=>v
 | y :: l=>Vn (v * 64+y % 64) l
def badV (k v:Nat):Bool:=decide (v<leastB k∨(55296≤v∧v<57344)∨1114112≤v)
def tvalB (x k:Nat) (t:List Nat):Nat:=Vn (x % maskB k) (t.take k)
def V2:List Nat→Nat
 | []=>0
 | x :: t=>if x<128 then 1 else if WM x=0∨t.length<WM x∨(t.take (WM x)).all VQ=false∨badV (WM x) (tvalB x (WM x) t)=true then 0 else WM x+1
def charsB (l:List Nat):Option Nat :=
 if l=[] then some 0 else if h:V2 l=0 then none else (charsB (l.drop (V2 l))).map (·+1)
termination_by l.length
decreasing_by
 rename_i h0
 have:0<l.length:=List.length_pos_iff.2 h0;rw[List.length_drop];omega
def joinI (m:Nat):Option Nat→Int
 | none => -1
 | some t=>((m+t:Nat):Int)
def cntI (l:List Nat):Int:=joinI 0 (charsB l)
theorem charB_cons (x:Nat) (t:List Nat):V2 (x :: t)=if x<128 then 1 else if WM x=0∨t.length<WM x∨(t.take (WM x)).all VQ=false∨badV (WM x) (tvalB x (WM x) t)=true then 0 else WM x+1:=rfl
theorem charB_more {x:Nat} {t:List Nat} (hx:¬ x<128) (hc:V2 (x :: t)≠0) :
 V2 (x :: t)=WM x+1∧WM x≠0∧WM x≤t.length∧(t.take (WM x)).all VQ=true∧badV (WM x) (tvalB x (WM x) t)=false:=by
 rw[charB_cons,if_neg hx]at hc ⊢
 split at hc
 ·exact absurd rfl hc
 ·rename_i h
  rw[if_neg h];refine⟨rfl,fun h0=>h (.inl h0),?_,?_,?_⟩
  ·rcases Nat.lt_or_ge t.length (WM x) with h1|h1
   ·exact absurd (.inr (.inl h1)) h
   ·exact h1
  ·cases h1:(t.take (WM x)).all VQ with
   | true=>rfl
   | false=>exact absurd (.inr (.inr (.inl h1))) h
  ·cases h1:badV (WM x) (tvalB x (WM x) t) with
   | false=>rfl
   | true=>exact absurd (.inr (.inr (.inr h1))) h
theorem charB_good {x:Nat} {t:List Nat} (hx:¬ x<128) (h1:WM x≠0) (h2:WM x≤t.length) (h3:(t.take (WM x)).all VQ=true) (h4:badV (WM x) (tvalB x (WM x) t)=false) :
 V2 (x :: t)=WM x+1:=by
 rw[charB_cons,if_neg hx,if_neg];rintro(h|h|h|h)
 ·exact h1 h
 ·omega
 ·rw[h3]at h;cases h
 ·rw[h4]at h;cases h
theorem charB_one {x:Nat} {t:List Nat} (hx:x<128):V2 (x :: t)=1:=by rw[charB_cons,if_pos hx]
theorem Ul {x:Nat} {t:List Nat} (hx:¬ x<128) (h:WM x=0∨t.length<WM x∨(t.take (WM x)).all VQ=false∨badV (WM x) (tvalB x (WM x) t)=true):V2 (x :: t)=0:=by
 rw[charB_cons,if_neg hx,if_pos h]
theorem moreB_le (x:Nat):WM x≤3:=by
 unfold WM;split;· omega
 ·split;· omega
  ·split <;> omega
theorem charB_le (l:List Nat):V2 l≤l.length∧V2 l≤4:=by
 cases l with
 | nil=>exact⟨Nat.le_refl _,Nat.zero_le _⟩
 | cons x t =>
  by_cases hx:x<128
  ·rw[charB_one hx];simp
  ·by_cases h:V2 (x :: t)=0
   ·rw[h];simp
   ·obtain⟨h1,h2,h3,_⟩:=charB_more hx h;have:=moreB_le x;rw[h1];simp;omega
theorem cons_of {l:List Nat} (h:0<l.length):l=l.getD 0 0 :: l.drop 1:=by
 cases l with
 | nil=>simp at h
 | cons x t=>simp
theorem accB_snoc (l:List Nat):∀ (v y:Nat),Vn v (l++[y])=Vn v l * 64+y % 64:=by
 induction l with
 | nil=>intro v y;rfl
 | cons a l ih=>intro v y;exact ih _ y
theorem accB_take (t:List Nat) (j:Nat) (h:j<t.length) (v:Nat):Vn v (t.take (j+1))=Vn v (t.take j) * 64+t.getD j 0 % 64:=by
 have e:t.take (j+1)=t.take j++[t.getD j 0]:=by
  rw[List.take_succ_eq_append_getElem h];simp[List.getD,h]
 rw[e,accB_snoc]
theorem accB_lt (l:List Nat):∀ v,Vn v l<(v+1) * 64 ^ l.length:=by
 induction l with
 | nil=>intro v;simp[Vn]
 | cons y l ih =>
  intro v;have:=ih (v * 64+y % 64);have h2:v * 64+y % 64+1≤(v+1) * 64:=by omega
  have h3:(v * 64+y % 64+1) * 64 ^ l.length≤(v+1) * 64 * 64 ^ l.length:=Nat.mul_le_mul_right _ h2;simp only[Vn,List.length_cons];rw[Nat.pow_succ,Nat.mul_comm (64 ^ l.length) 64,← Nat.mul_assoc];omega
theorem accB_small (x k j:Nat) (t:List Nat) (hj:j≤3):Vn (x % maskB k) (t.take j)<8388608:=by
 have h:=accB_lt (t.take j) (x % maskB k);have hm:x % maskB k+1≤32:=by
  unfold maskB
  split
  ·omega
  ·split <;> omega
 have hl:(t.take j).length≤3:=by rw[List.length_take];omega
 have h2:(64:Nat) ^ (t.take j).length≤64 ^ 3:=Nat.pow_le_pow_right (by decide) hl;have h3:(x % maskB k+1) * 64 ^ (t.take j).length≤32 * 64 ^ 3:=Nat.mul_le_mul hm h2;omega
theorem Us {t:List Nat} {j:Nat} (h:j<t.length) (ha:(t.take j).all VQ=true) (hc:VQ (t.getD j 0)=true):(t.take (j+1)).all VQ=true:=by
 have e:t.take (j+1)=t.take j++[t.getD j 0]:=by
  rw[List.take_succ_eq_append_getElem h];simp[List.getD,h]
 rw[e,List.all_append,ha];simp only[List.all_cons,List.all_nil,hc,Bool.and_self]
theorem all_take_no {t:List Nat} {j k:Nat} (h:j<t.length) (hk:j<k) (hc:VQ (t.getD j 0)=false):(t.take k).all VQ=false:=by
 rw[Bool.eq_false_iff];intro ha;have h1:=List.all_eq_true.1 ha (t.getD j 0) (List.mem_iff_getElem?.2 ⟨j,by rw[List.getElem?_take,if_pos hk];simp[List.getD,h]⟩);rw[hc]at h1;cases h1
theorem charB_out {x:Nat} {t:List Nat} (h1:128≤x) (h2:x<194∨245≤x) (hx:x<256):V2 (x :: t)=0:=by
 rcases Nat.eq_zero_or_pos (V2 (x :: t)) with h|h
 ·exact h
 ·obtain⟨_,hm,hl,_,hb⟩:=charB_more (by omega) (Nat.ne_of_gt h);exfalso
  have hc:((x=192∨x=193)∧WM x=1)∨(245≤x∧x<248∧WM x=3):=by
   unfold WM at hm ⊢;by_cases a:192≤x∧x<224
   ·rw[if_pos a];left;omega
   ·rw[if_neg a]at hm ⊢;by_cases b:224≤x∧x<240
    ·omega
    ·rw[if_neg b]at hm ⊢;by_cases c:240≤x∧x<248
     ·rw[if_pos c];right;omega
     ·rw[if_neg c]at hm;exact absurd rfl hm
  rcases hc with ⟨hx1,h3⟩|⟨h4,h5,h3⟩
  ·rw[h3]at hl hb
   match t,hl with
   | y :: _,_ =>
    unfold badV tvalB at hb;simp only[List.take_succ_cons,List.take_zero,Vn,maskB,leastB,decide_eq_false_iff_not]at hb;apply hb;left;simp;omega
  ·rw[h3]at hl hb
   match t,hl with
   | y1 :: y2 :: y3 :: _,_ =>
    unfold badV tvalB at hb;simp only[List.take_succ_cons,List.take_zero,Vn,maskB,leastB,decide_eq_false_iff_not]at hb;apply hb;right;right;simp;omega
theorem joinI_end (m:Nat):joinI m (charsB [])=m:=by rw[charsB];simp[joinI]
theorem joinI_bad {l:List Nat} (h:0<l.length) (hc:V2 l=0) (m:Nat):joinI m (charsB l) = -1:=by
 rw[charsB,if_neg (by rintro rfl;simp at h),dif_pos hc];rfl
theorem joinI_step {l:List Nat} (h:0<l.length) (hc:V2 l≠0) (m:Nat):joinI m (charsB l)=joinI (m+1) (charsB (l.drop (V2 l))):=by
 rw[charsB,if_neg (by rintro rfl;simp at h),dif_neg hc];cases charsB (l.drop (V2 l)) with
 | none=>rfl
 | some t=>simp only[Option.map_some,joinI];omega
end
section
open Go.RowKit
theorem hD {p:Prop} (h:p):Hid p:=Lib.hid h
theorem Ve {n m k:Nat}:n<m→m≤k→n<k:=Nat.lt_of_lt_of_le
theorem nR (n:Nat):n≤n:=Nat.le_refl n
theorem nZ (n:Nat):0≤n:=Nat.zero_le n
theorem bR (B:Nat) (w:World):Below B w w:=Below.refl B w
theorem wL (w:World) (a:Addr) {u:Value} (h:w.cell? a=some u):a.block<w.heap.size:=World.block_lt_of_cell? w a h
theorem vI (a:Option Addr) (len cap:Nat) (b:Option Addr) (l c:Nat):(Value.slice a len cap=Value.slice b l c)=(a=b∧len=l∧cap=c):=Value.slice.injEq ..
theorem wN (w:World) (c:Array Value) (t:TypeId) (i:Nat):(w.alloc (.cells c t)).cell? ⟨w.heap.size,i,none⟩=c[i]?:=World.cell?_alloc_new w c t i
end
section
open Go.RowKit
def isB (op:Int):Bool:=decide (69≤op∧op≤90∨103≤op∧op≤138∨op=167∨op=172∨op=173∨192≤op∧op≤196)
end
section
open Go.RowKit
def isF (op:Int):Bool:=decide (97≤op∧op≤102∨153≤op∧op≤166∨op=170∨op=171∨op=176∨op=177∨183≤op∧op≤186∨op=189∨op=191∨op=64514∨op=64515∨op=64518∨op=64519)
def WS (op:Int):Bool:=isB op || isF op
def VH (op:Int):Nat×Int×Int :=
 if op=69 then (1,127,127) else if 70≤op∧op≤79 then (2,127,127) else if op=80 then (1,126,127) else if 81≤op∧op≤90 then (2,126,127)
 else if 97≤op∧op≤102 then (2,124,127) else if 103≤op∧op≤105 then (1,127,127) else if 106≤op∧op≤120 then (2,127,127)
 else if 121≤op∧op≤123 then (1,126,126) else if 124≤op∧op≤138 then (2,126,126) else if 153≤op∧op≤159 then (1,124,124)
 else if 160≤op∧op≤166 then (2,124,124) else if op=167 then (1,126,127) else if 170≤op∧op≤171 then (1,124,127)
 else if 172≤op∧op≤173 then (1,127,126) else if 176≤op∧op≤177 then (1,124,126) else if 183≤op∧op≤184 then (1,127,124)
 else if 185≤op∧op≤186 then (1,126,124) else if op=189 then (1,124,126) else if op=191 then (1,126,124) else if 192≤op∧op≤193 then (1,127,127)
 else if 194≤op∧op≤196 then (1,126,126) else if 64514≤op∧op≤64515 then (1,124,127) else (1,124,126)
def Vw (op:Int):List Int:=if WS op then List.replicate (VH op).1 (VH op).2.1 else []
def Vf (op:Int):List Int:=if WS op then [(VH op).2.2] else []
def accL:List (Int×Int×Bool×Bool) :=
 [(4,127,false,true),(8,126,false,true),(0,0,false,false),(8,124,false,true),(1,127,true,true),(1,127,false,true),(2,127,true,true),(2,127,false,true),(1,126,true,true),(1,126,false,true),(2,126,true,true),
  (2,126,false,true),(4,126,true,true),(4,126,false,true),(4,127,false,true),(8,126,false,true),(0,0,false,false),(8,124,false,true),(1,127,false,true),(2,127,false,true),(1,126,false,true),(2,126,false,true),(4,126,false,true)]
def WK (op:Int):Int×Int×Bool×Bool:=if 40≤op∧op≤62 then accL.getD (op - 40).toNat (0,0,false,false) else (0,0,false,false)
def WZ (op:Int):Int:=if op=65 then 127 else if op=66 then 126 else if op=68 then 124 else 0
def WF (op:Int):Bool:=decide (2≤op∧op≤4)
def restL:List Int:=[0,1,5,11,12,13,14,15,16,18,26,27,32,33,34,35,36,63,64,64520,64521,64522,64523]
def W9 (op:Int):Bool:=WS op || WF op || WZ op != 0 || (WK op).2.2.2 || restL.contains op
def richL:List Int:=[18,192,193,194,195,196,64514,64515,64518,64519,64520,64521,64522,64523]
def richB (op:Int):Bool:=richL.contains op
theorem VO (P:Int→Prop) (h1:∀ n:Fin 256,P (n.val:Int)) (h2:∀ n:Fin 256,P (64512+(n.val:Int)))
 (h3:∀ op,op<0∨255<op∧op<64512∨64767<op→P op) (op:Int):P op:=by
 by_cases a:0≤op∧op<256
 ·have:=h1 ⟨op.toNat,by omega⟩
  rwa [show((op.toNat:Nat):Int)=op by omega]at this
 ·by_cases b:64512≤op∧op<64768
  ·have:=h2 ⟨(op - 64512).toNat,by omega⟩
   rwa [show 64512+(((op - 64512).toNat:Nat):Int)=op by omega]at this
  ·exact h3 op (by omega)
theorem far_num (op:Int) (h:op<0∨255<op∧op<64512∨64767<op):WS op=false:=by
 unfold WS isB isF;rw[decide_eq_false (by omega),decide_eq_false (by omega)];rfl
theorem far_opens (op:Int) (h:op<0∨255<op∧op<64512∨64767<op):WF op=false:=decide_eq_false (by omega)
theorem far_const (op:Int) (h:op<0∨255<op∧op<64512∨64767<op):WZ op=0:=by
 unfold WZ;rw[if_neg (by omega),if_neg (by omega),if_neg (by omega)]
theorem far_acc (op:Int) (h:op<0∨255<op∧op<64512∨64767<op):WK op=(0,0,false,false):=by
 unfold WK;rw[if_neg (by omega)]
theorem far_list (l:List Int) (hl:l.all (fun x=>decide (0≤x∧x≤255∨64512≤x∧x≤64767))=true) (op:Int) (h:op<0∨255<op∧op<64512∨64767<op):l.contains op=false:=by
 rw[List.all_eq_true]at hl;apply Bool.eq_false_iff.mpr
 intro hc;have hm:op ∈ l:=by simpa using hc
 have:=of_decide_eq_true (hl op hm);omega
theorem far_rest (op:Int) (h:op<0∨255<op∧op<64512∨64767<op):restL.contains op=false:=far_list _ (by decide) op h
theorem far_rich (op:Int) (h:op<0∨255<op∧op<64512∨64767<op):richB op=false:=far_list _ (by decide) op h
theorem far_known (op:Int) (h:op<0∨255<op∧op<64512∨64767<op):W9 op=false:=by
 unfold W9;rw[far_num op h,far_opens op h,far_const op h,far_acc op h,far_rest op h];rfl
def shapeL:List (Int×Nat×Int×Int) :=
 [(69,1,127,127),(70,2,127,127),(80,1,126,127),(81,2,126,127),(97,2,124,127),(103,1,127,127),(106,2,127,127),(121,1,126,126),(124,2,126,126),(153,1,124,124),(160,2,124,124),
  (167,1,126,127),(170,1,124,127),(172,1,127,126),(176,1,124,126),(183,1,127,124),(185,1,126,124),(189,1,124,126),(191,1,126,124),(192,1,127,127),(194,1,126,126),(64514,1,124,127),(64518,1,124,126)]
def UX (op:Int):Nat→Nat×Int×Int
 | 0=>(0,0,0)
 | k+1=>if (shapeL.getD k (0,0,0,0)).1≤op then (shapeL.getD k (0,0,0,0)).2 else UX op k
theorem shape_yes (op:Int) (k:Nat) (h:(shapeL.getD k (0,0,0,0)).1≤op):UX op (k+1)=(shapeL.getD k (0,0,0,0)).2:=by
 show(if _ then _ else _)=_;rw[if_pos h]
theorem shape_no (op:Int) (k:Nat) (h:¬ (shapeL.getD k (0,0,0,0)).1≤op):UX op (k+1)=UX op k:=by
 show(if _ then _ else _)=_;rw[if_neg h]
theorem shape_sig (op:Int):WS op=true→UX op 23=VH op :=
 VO (fun op=>WS op=true→UX op 23=VH op) (by decide +kernel) (by decide +kernel) (fun op h e=>by rw[far_num op h]at e;cases e) op
theorem sig_count (op:Int):WS op=true→(VH op).1=1∨(VH op).1=2 :=
 VO (fun op=>WS op=true→(VH op).1=1∨(VH op).1=2) (by decide +kernel) (by decide +kernel) (fun op h e=>by rw[far_num op h]at e;cases e) op
def UK (op:Int):Bool :=
 WS op || decide (0<(WK op).1) || WZ op != 0 || decide (0≤op∧op≤5∨11≤op∧op≤16∨op=18∨op=26∨op=27∨32≤op∧op≤36∨op=63∨op=64∨64520≤op∧op≤64523)
theorem rknown_eq (op:Int):UK op=W9 op :=
 VO (fun op=>UK op=W9 op) (by decide +kernel) (by decide +kernel)
  (fun op h=>by rw[far_known op h];unfold UK;rw[far_num op h,far_acc op h,far_const op h,decide_eq_false (by omega:¬ (0≤op∧op≤5∨11≤op∧op≤16∨op=18∨op=26∨op=27∨32≤op∧op≤36∨op=63∨op=64∨64520≤op∧op≤64523))];rfl) op
def rrichB (op:Int):Bool:=decide (op=18∨192≤op∧op≤196∨op=64514∨op=64515∨64518≤op∧op≤64523)
theorem rrich_eq (op:Int):rrichB op=richB op :=
 VO (fun op=>rrichB op=richB op) (by decide +kernel) (by decide +kernel) (fun op h=>by rw[far_rich op h];exact decide_eq_false (by omega)) op
theorem acc_pos (op:Int):(WK op).2.2.2=decide (0<(WK op).1) :=
 VO (fun op=>(WK op).2.2.2=decide (0<(WK op).1)) (by decide +kernel) (by decide +kernel) (fun op h=>by rw[far_acc op h];rfl) op
end
end Go.Proofs.YtmfpnfdinoofpaaGreatDoor
