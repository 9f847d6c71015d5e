/- A part of the proof. -/
import Derived.Test.YtepgopnnaeoolaaGreatDoorJ29
import Derived.Lib.ConvBytes
import Derived.Test.YtepgopnnaeoolaaGreatDoorJ38
namespace Go.Proofs.YtepgopnnaeoolaaGreatDoor
section
open Go.RowKit
set_option maxHeartbeats 1000000
set_option maxRecDepth 10000
abbrev CntPost (l:List Nat) (w:World) (e:Ending) (w':World):Prop:=ValPost (.int .i64 (cntI l)) w e w'
theorem bytes_drop {w:World} {g o:Nat} {l:List Nat} (h:Bytes w (some ⟨g,o,none⟩) l) (c:Nat) (hc:c≤l.length):Bytes w (some ⟨g,o+c,none⟩) (l.drop c):=by
 have h2:=h.part c (l.length - c) (by omega) (some ⟨g,o+c,none⟩) (fun g' o' _ he=>by simp only[Option.some.injEq,Addr.mk.injEq]at he;obtain⟨rfl,rfl,_⟩:=he;rfl)
 rwa [List.take_of_length_le (by rw[List.length_drop];exact nR _)]at h2
theorem count_any (A:Option Addr) (n cap:Nat) (l:List Nat) (hl:l.length=n) (hcap:n≤cap) (hn:n≤1000000) (w:World) (htab:Tab w) (hb:Bytes w A l) :
 Calls Tryz.prog 104 #[.slice A n cap] w (CntPost l w):=by
 have HL:=hD hl;have HB:=hD hb;have HTAB:=hD htab;clear hl hb htab;go_enter Tryz.func104,Tryz.ntmps104;go_wp2;go_loopw [0,3] (fun s v wr=>∃ (A':Option Addr) (r:List Nat) (p cp m:Nat),s=.slice A' p cp∧v=.int .i64 (m:Int)∧Hid (r.length=p)∧p≤cp∧m+p≤n∧Hid (Bytes wr A' r)∧Below w.heap.size w wr∧Hid (joinI m (charsB r)=cntI l)) (fun s _ _=>match s with|.slice _ p _=>p|_=>0)
 case atStart=>exact⟨A,l,n,cap,0,rfl,rfl,HL,hcap,by omega,HB,bR _ _,hD rfl⟩
 case round =>
  obtain⟨wo,rfl⟩:∃ wo:World,wo=wr:=⟨_,rfl⟩;obtain⟨A',r,p,cp,m,rfl,rfl,hr,hcp,hmp,hby,hnx,hj⟩:=hrel;by_cases hp:0<p
  ·have hsz:=size_any A' p cp r hr.out hp hcp wo (HTAB.out.below hnx) hby.out;obtain⟨g,o,rfl,_,_⟩:=hby.out.2 (by rw[hr.out];exact hp);have hle:=(charB_le r).1;rw[hr.out]at hle;have hbad:=joinI_bad (l:=r) (by rw[hr.out];exact hp);have hstep:=joinI_step (l:=r) (by rw[hr.out];exact hp);have hdr:=bytes_drop hby.out (Ub r) (by rw[hr.out];exact hle);have hdl:(r.drop (Ub r)).length=p - Ub r:=by rw[List.length_drop,hr.out]
   generalize Ub r=c at hsz hle hbad hstep hdr hdl;have HSZ:=hD hsz;have HDR:=hD hdr;have HDL:=hD hdl;clear hsz hdr hdl;by_cases hc:c=0
   ·have HE:=hD (hbad hc m);clear hbad hstep;subst hc;go_wp2_with (go_at_call 116;refine HSZ.out.mono ?_;rintro e w' ⟨rfl,hb⟩;replace hnx:=Wa hnx hb;clear hb)
    go_ret;exact⟨ret_int (by rw[← hj.out,HE.out]),hnx⟩
   ·have HE:=hD (hstep hc m);clear hbad hstep;have hc0:((c:Int)==0)=false:=by simp;omega
    by_cases hcc:cp=c
    ·have hpc:p=c:=by omega
     have hnil:r.drop c=[]:=List.eq_nil_of_length_eq_zero (by rw[HDL.out];omega);have HNIL:=hD hnil;clear hnil;subst hcc hpc;go_wp2_with (go_at_call 116;refine HSZ.out.mono ?_;rintro e w' ⟨rfl,hb⟩;replace hnx:=Wa hnx hb;have HB2:=hD (HDR.out.below hb);clear hb)
     go_roundw
     case rel=>exact⟨some ⟨g,o,none⟩,[],0,0,m+1,by simp,by go_num,hD rfl,by omega,by omega,hD (Bytes.nil _ _),hnx,hD (by rw[← hj.out,HE.out,HNIL.out])⟩
     case measure=>simp;omega
    ·have hcc2:(cp:Int)≠c:=by omega
     go_wp2_with (go_at_call 116;refine HSZ.out.mono ?_;rintro e w' ⟨rfl,hb⟩;replace hnx:=Wa hnx hb;have HB2:=hD (HDR.out.below hb);clear hb)
     go_roundw
     case rel=>exact⟨some ⟨g,o+c,none⟩,r.drop c,p - c,cp - c,m+1,by simp,by go_num,HDL,by omega,by omega,HB2,hnx,hD (by rw[← hj.out,HE.out])⟩
     case measure=>simp;omega
  ·obtain rfl:p=0:=by omega
   obtain rfl:r=[]:=List.eq_nil_of_length_eq_zero hr.out;have HE:=hD (joinI_end m);go_wp2;go_ret;exact⟨ret_int (by rw[← hj.out,HE.out]),hnx⟩
theorem right_any (A:Option Addr) (n cap:Nat) (l:List Nat) (hl:l.length=n) (hcap:n≤cap) (hn:n≤1000000) (w:World) (htab:Tab w) (hb:Bytes w A l) :
 Calls Tryz.prog 80 #[.slice A n cap] w (Wo (decide (0≤cntI l)) w):=by
 have h:=count_any A n cap l hl hcap hn w htab hb;unfold CntPost at h;generalize cntI l=z at h ⊢;have H:=hD h;clear h;go_enter Tryz.func80,Tryz.ntmps80;go_wp2_with (go_at_call 104;refine H.out.mono ?_;rintro e w' ⟨rfl,hb⟩)
 go_ret;exact⟨rfl,hb⟩
end
section
open Go.RowKit
theorem below_bytes (w:World) (e:TypeId) (s:ByteArray):Below w.heap.size w (Lib.bytesWorld w e s):=by
 unfold Lib.bytesWorld;refine Lib.below_freeze ((Wj (bR _ _) 1).alloc ?_ _) (p:=⟨w.heap.size,_,none⟩) (nR _) 1;exact nR _
theorem bytes_conv (w:World) (s:ByteArray):Bytes (Lib.bytesWorld w 5 s) (some ⟨w.heap.size,0,none⟩) (V9 s):=by
 refine⟨nums_lt s,fun h=>⟨w.heap.size,0,rfl,by rw[Lib.bytesWorld_size];omega,fun j hj=>?_⟩⟩;rw[nums_length]at hj;rw[Nat.zero_add,Lib.bytesWorld_cell w _ s j hj]
 congr 2
 unfold V9;rw[Lib.size_eq,Array.length_toList]at hj;cases h2:s.data[j]? with
 | none=>rw[Array.getElem?_eq_none_iff]at h2;omega
 | some b=>simp[List.getD,h2]
theorem conv_any (w:World) (s:ByteArray):(convert 9 39 (.string s)).run Tryz.prog w=.ok (.slice (some ⟨w.heap.size,0,none⟩) s.size (grownCap w s.size 0 5)) (Lib.bytesWorld w 5 s) :=
 Lib.run_convert_string_bytes w 9 39 5 s Tryz.underlying9 Tryz.underlying39 Tryz.underlying5
end
section
open Go.RowKit
set_option maxRecDepth 10000
theorem ZO {P:Prop}(h:P:=by
 go_wp2;go_ret;exact⟨WM (by rw[HF.out]),HB.out⟩):P:=h
theorem Zbv {P:Prop}(h:P:=by
 go_enter Tryz.func60,Tryz.ntmps60;go_wp2;go_ret;exact⟨rfl,bR _ _⟩):P:=h
theorem Zbw {P:Prop}(h:P:=by
 go_enter Tryz.func61,Tryz.ntmps61;go_wp2;go_ret;exact⟨rfl,bR _ _⟩):P:=h
theorem ZbP {P:Prop}(h:P:=by
 go_enter Tryz.func62,Tryz.ntmps62;go_wp2;go_ret;exact⟨rfl,rfl⟩):P:=h
theorem ZbU {P:Prop}(h:P:=by
 go_roundw
 case rel=>exact⟨k+1,by omega,by go_num,hD (Wa HB.out hb),HY⟩
 case measure=>simp[intOf];omega):P:=h
theorem kind_any (t:Int) (w:World):Calls Tryz.prog 60 #[.int .i64 t] w (Wo (UH t) w):=by
 by_cases c0:t=127
 ·subst c0;rw[show UH 127=true from rfl];exact Zbv
 ·skip
  by_cases c1:t=126
  ·subst c1;rw[show UH 126=true from rfl];exact Zbv
  ·skip
   by_cases c2:t=124
   ·subst c2;rw[show UH 124=true from rfl];exact Zbv
   ·skip
    rw[show UH t=false from decide_eq_false (by omega)];have d0:(t==127)=false:=by simpa using c0
    have d1:(t==126)=false:=by simpa using c1
    have d2:(t==124)=false:=by simpa using c2
    clear c0 c1 c2;exact Zbv
def exKindB (t:Int):Bool:=decide (t=0∨t=2∨t=3)
theorem exkind_any (t:Int) (w:World):Calls Tryz.prog 61 #[.int .i64 t] w (Wo (exKindB t) w):=by
 by_cases c0:t=0
 ·subst c0;rw[show exKindB 0=true from rfl];exact Zbw
 ·skip
  by_cases c1:t=2
  ·subst c1;rw[show exKindB 2=true from rfl];exact Zbw
  ·skip
   by_cases c2:t=3
   ·subst c2;rw[show exKindB 3=true from rfl];exact Zbw
   ·skip
    rw[show exKindB t=false from decide_eq_false (by omega)];have d0:(t==0)=false:=by simpa using c0
    have d1:(t==2)=false:=by simpa using c1
    have d2:(t==3)=false:=by simpa using c2
    clear c0 c1 c2;exact Zbw
def PureB (b:Bool) (w:World) (e:Ending) (w':World):Prop:=e=.returned (.bool b)∧w=w'
theorem inB_pure (n lo hi:Int) (w:World):Calls Tryz.prog 62 #[.int .i64 n,.int .i64 lo,.int .i64 hi] w (PureB (inB n lo hi) w):=by
 by_cases c:lo≤n
 ·have d:decide (lo≤n)=true:=decide_eq_true c;by_cases e:n≤hi
  ·have d2:decide (n≤hi)=true:=decide_eq_true e;rw[show inB n lo hi=true from decide_eq_true ⟨c,e⟩];clear c e;exact ZbP
  ·have d2:decide (n≤hi)=false:=decide_eq_false e;rw[show inB n lo hi=false from decide_eq_false (fun h=>e h.2)];clear c e;exact ZbP
 ·have d:decide (lo≤n)=false:=decide_eq_false c;rw[show inB n lo hi=false from decide_eq_false (fun h=>c h.1)];clear c;exact ZbP
theorem inB_any (n lo hi:Int) (w:World):Calls Tryz.prog 62 #[.int .i64 n,.int .i64 lo,.int .i64 hi] w (Wo (inB n lo hi) w):=(inB_pure n lo hi w).mono fun _ _ ⟨h,hw⟩=>⟨h,hw ▸ bR _ _⟩
theorem idx_any (n:Int) (w:World):Calls Tryz.prog 58 #[.int .i64 n] w (Wo (idxB n) w):=by
 have H:=hD (inB_any n 0 2147483647 w);unfold idxB;generalize inB n 0 2147483647=b at H ⊢;go_enter Tryz.func58,Tryz.ntmps58;go_wp2_with (go_at_call 62;refine H.out.mono ?_;rintro e w' ⟨rfl,hb⟩)
 go_ret;exact⟨rfl,hb⟩
theorem str_any (s:ByteArray) (w:World) (ht:Tab w):Calls Tryz.prog 57 #[.string s] w (Wo (strB s) w):=by
 by_cases c:s.size≤64
 ·have d:decide ((s.size:Int)≤64)=true:=by simp;omega
  have hconv:=conv_any w s;have H:=hD (right_any (some ⟨w.heap.size,0,none⟩) s.size (grownCap w s.size 0 5) (V9 s) (nums_length s) (grownCap_ge w s.size 0 5) (by omega) (Lib.bytesWorld w 5 s) (ht.below (below_bytes w _ s)) (bytes_conv w s));have HB:=hD (below_bytes w 5 s);unfold strB;rw[decide_eq_true c,Bool.true_and];generalize decide (0≤cntI (V9 s))=b at H ⊢;clear c ht;go_enter Tryz.func57,Tryz.ntmps57;go_wp2_with (go_at_call 80;refine H.out.mono ?_;rintro e w' ⟨rfl,hb⟩)
  go_ret;exact⟨rfl,Wa HB.out hb⟩
 ·have d:decide ((s.size:Int)≤64)=false:=by simp;omega
  unfold strB;rw[decide_eq_false c,Bool.false_and];clear c;go_enter Tryz.func57,Tryz.ntmps57;go_wp2;go_ret;exact⟨rfl,bR _ _⟩
theorem labB_any (n:Int) (w:World):Calls Tryz.prog 62 #[.int .i64 n,.int .i64 0,.int .i64 64] w (Wo (labB n) w):=inB_any n 0 64 w
theorem labs_any (K:Nat→Prop) (w:World) (hK:∀ k,K k→k<w.heap.size) (v:Value) (l:List Int) (h:Wg K w v l):Calls Tryz.prog 106 #[v] w (Wo (l.all labB) w):=by
 obtain⟨A,c,hv,hm,_⟩:=h.form;unfold maxLen at hm;have H:=hD (h.keep (K':=fun k=>k<w.heap.size) (.refl _ _) hK);rw[hv]at H ⊢;clear h hv;obtain⟨n,hn⟩:∃ n,l.length=n:=⟨_,rfl⟩;have HN:=hD hn;rw[hn]at H hm ⊢;clear hn;go_enter Tryz.func106,Tryz.ntmps106;go_wp2_with fail
 go_loopw [7] (fun i wr=>∃ k:Nat,k≤n∧i=.int .i64 (k:Int)∧Hid (Below w.heap.size w wr)∧Hid (Va labB l 0 k)) (fun i _=>n - (intOf i).toNat)
 case atStart=>exact⟨0,nZ _,rfl,hD (bR _ _),hD (Va.zero _ _ _)⟩
 case round =>
  obtain⟨k,hk,rfl,HB,HA⟩:=hrel;by_cases hlt:k<n
  ·have hd:decide ((k:Int)<(n:Int))=true:=by simp;omega
   obtain⟨g,o,c',he,_,_⟩:=H.out.some_ (by rw[HN.out];omega);simp only[vI]at he;obtain⟨rfl,-,rfl⟩:=he;have hc0:=H.out.at_ k hlt;have hcell:=(HB.out.cell (p:=⟨g,o+k,none⟩) (wL _ _ hc0)).trans hc0;have HNO:=hD (fun (h:labB (l.getD k 0)=false)=>Uc (by rw[HN.out];exact hlt) h);have HYE:=hD (fun (h:labB (l.getD k 0)=true)=>HA.out.succ h);generalize l.getD k 0=x at hcell HNO HYE;have HX:=hD (labB_any x wr);obtain⟨b,hb⟩:∃ b,labB x=b:=⟨_,rfl⟩;rw[hb]at HX;rw[hb]at HNO HYE;clear hb hc0;cases b with
   | true =>
    have HY:=hD (HYE.out rfl);clear HNO HYE;go_wp2_with (go_at_call 62;refine HX.out.mono ?_;rintro e w' ⟨rfl,hb⟩)
    exact ZbU
   | false =>
    have HF:=hD (HNO.out rfl);clear HNO HYE;go_wp2_with (go_at_call 62;refine HX.out.mono ?_;rintro e w' ⟨rfl,hb⟩)
    go_ret;exact⟨WM (by rw[HF.out]),Wa HB.out hb⟩
  ·have hd:decide ((k:Int)<(n:Int))=false:=by simp;omega
   obtain rfl:k=n:=by omega
   have HF:=hD (show l.all labB=true by have h:=HA.out;rw[← HN.out]at h;exact h.done);exact ZO
theorem kinds_many (l:List Int) (most:Int) (h:most<(l.length:Int)):Uh l most=false:=by unfold Uh;rw[decide_eq_false (by omega),Bool.false_and]
theorem kinds_few (l:List Int) (most:Int) (h:(l.length:Int)≤most):Uh l most=l.all UH:=by unfold Uh;rw[decide_eq_true h,Bool.true_and]
theorem kindsAll_any (K:Nat→Prop) (w:World) (hK:∀ k,K k→k<w.heap.size) (v:Value) (l:List Int) (h:Wg K w v l) (most:Int) (hmost:(l.length:Int)≤most):Calls Tryz.prog 56 #[v,.int .i64 most] w (Wo (l.all UH) w):=by
 obtain⟨A,c,hv,hm,_⟩:=h.form;unfold maxLen at hm;have H:=hD (h.keep (K':=fun k=>k<w.heap.size) (.refl _ _) hK);rw[hv]at H ⊢;clear h hv;obtain⟨n,hn⟩:∃ n,l.length=n:=⟨_,rfl⟩;have HN:=hD hn;rw[hn]at H hm hmost ⊢;have hgt:decide (most<(n:Int))=false:=by simp;omega
 clear hn hmost;go_enter Tryz.func56,Tryz.ntmps56;go_wp2_with fail
 go_loopw [13] (fun i wr=>∃ k:Nat,k≤n∧i=.int .i64 (k:Int)∧Hid (Below w.heap.size w wr)∧Hid (Va UH l 0 k)) (fun i _=>n - (intOf i).toNat)
 case atStart=>exact⟨0,nZ _,rfl,hD (bR _ _),hD (Va.zero _ _ _)⟩
 case round =>
  obtain⟨k,hk,rfl,HB,HA⟩:=hrel;by_cases hlt:k<n
  ·have hd:decide ((k:Int)<(n:Int))=true:=by simp;omega
   obtain⟨g,o,c',he,_,_⟩:=H.out.some_ (by rw[HN.out];omega);simp only[vI]at he;obtain⟨rfl,-,rfl⟩:=he;have hc0:=H.out.at_ k hlt;have hcell:=(HB.out.cell (p:=⟨g,o+k,none⟩) (wL _ _ hc0)).trans hc0;have HNO:=hD (fun (h:UH (l.getD k 0)=false)=>Uc (by rw[HN.out];exact hlt) h);have HYE:=hD (fun (h:UH (l.getD k 0)=true)=>HA.out.succ h);generalize l.getD k 0=x at hcell HNO HYE;have HX:=hD (kind_any x wr);obtain⟨b,hb⟩:∃ b,UH x=b:=⟨_,rfl⟩;rw[hb]at HX;rw[hb]at HNO HYE;clear hb hc0;cases b with
   | true =>
    have HY:=hD (HYE.out rfl);clear HNO HYE;go_wp2_with (go_at_call 60;refine HX.out.mono ?_;rintro e w' ⟨rfl,hb⟩)
    exact ZbU
   | false =>
    have HF:=hD (HNO.out rfl);clear HNO HYE;go_wp2_with (go_at_call 60;refine HX.out.mono ?_;rintro e w' ⟨rfl,hb⟩)
    go_ret;exact⟨WM (by rw[HF.out]),Wa HB.out hb⟩
  ·have hd:decide ((k:Int)<(n:Int))=false:=by simp;omega
   obtain rfl:k=n:=by omega
   have HF:=hD (show l.all UH=true by have h:=HA.out;rw[← HN.out]at h;exact h.done);exact ZO
theorem kinds_any (K:Nat→Prop) (w:World) (hK:∀ k,K k→k<w.heap.size) (v:Value) (l:List Int) (h:Wg K w v l) (most:Int):Calls Tryz.prog 56 #[v,.int .i64 most] w (Wo (Uh l most) w):=by
 by_cases hc:(l.length:Int)≤most
 ·rw[kinds_few l most hc];exact kindsAll_any K w hK v l h most hc
 ·rw[kinds_many l most (by omega)];obtain⟨A,c,hv,hm,_⟩:=h.form;rw[hv];generalize l.length=n at *;have hgt:decide (most<(n:Int))=true:=by simp;omega
  clear hc h hv;go_enter Tryz.func56,Tryz.ntmps56;go_wp2;go_ret;exact⟨rfl,bR _ _⟩
end
section
open Go.RowKit
set_option maxHeartbeats 2000000
set_option maxRecDepth 100000
theorem Zt {P:Prop}(h:P:=by
 go_enter Tryz.func105,Tryz.ntmps105;go_wp2;exact bodyPost_ret (v:=.agg #[.int .i64 (0),.int .i64 255,.int .i64 0,.int .u64 0,.int .i64 0,.int .i64 0]) (by simp[results,Tryz.results105,go_sem]) rfl ⟨rfl,Wi (bR _ _) _⟩):P:=h
theorem ZQ {P:Prop}(h:P:=by
 go_enter Tryz.func105,Tryz.ntmps105;go_wp2;exact bodyPost_ret (v:=.agg #[.int .i64 (-4),.int .i64 63,.int .i64 0,.int .u64 0,.int .i64 0,.int .i64 0]) (by simp[results,Tryz.results105,go_sem]) rfl ⟨rfl,Wi (bR _ _) _⟩):P:=h
theorem ZS {P:Prop}(h:P:=by
 go_enter Tryz.func105,Tryz.ntmps105;go_wp2;exact bodyPost_ret (v:=.agg #[.int .i64 (0),.int .i64 3,.int .i64 0,.int .u64 0,.int .i64 0,.int .i64 0]) (by simp[results,Tryz.results105,go_sem]) rfl ⟨rfl,Wi (bR _ _) _⟩):P:=h
theorem Zbi {P:Prop}(h:P:=by
 go_enter Tryz.func105,Tryz.ntmps105;go_wp2;exact bodyPost_ret (v:=.agg #[.int .i64 (0),.int .i64 0,.int .i64 0,.int .u64 18446744073709551615,.int .i64 0,.int .i64 0]) (by simp[results,Tryz.results105,go_sem]) rfl ⟨rfl,Wi (bR _ _) _⟩):P:=h
theorem Zbo {P:Prop}(h:P:=by
 go_enter Tryz.func105,Tryz.ntmps105;go_wp2;exact bodyPost_ret (v:=.agg #[.int .i64 (0),.int .i64 64,.int .i64 0,.int .u64 0,.int .i64 0,.int .i64 0]) (by simp[results,Tryz.results105,go_sem]) rfl ⟨rfl,Wi (bR _ _) _⟩):P:=h
def Vc (f:Int×Int×Int×Int×Int×Int) (w:World) (e:Ending) (w':World):Prop:=e=.returned (.agg #[.int .i64 f.1,.int .i64 f.2.1,.int .i64 f.2.2.1,.int .u64 f.2.2.2.1,.int .i64 f.2.2.2.2.1,.int .i64 f.2.2.2.2.2])∧Below w.heap.size w w'
def Zero6 (B:Nat) (w:World):Prop:=w.heap[B]?=some (.cells #[.int .i64 0,.int .i64 0,.int .i64 0,.int .u64 0,.int .i64 0,.int .i64 0] 150 (0,0))
theorem Zero6.all {B:Nat} {w:World} (h:Zero6 B w):w.cell? ⟨B,0,none⟩=some (.int .i64 0)∧w.cell? ⟨B,1,none⟩=some (.int .i64 0)∧w.cell? ⟨B,2,none⟩=some (.int .i64 0)∧w.cell? ⟨B,3,none⟩=some (.int .u64 0)∧w.cell? ⟨B,4,none⟩=some (.int .i64 0)∧w.cell? ⟨B,5,none⟩=some (.int .i64 0) ∧
 w.frozen? ⟨B,0,none⟩=false∧w.frozen? ⟨B,1,none⟩=false∧w.frozen? ⟨B,2,none⟩=false∧w.frozen? ⟨B,3,none⟩=false∧w.frozen? ⟨B,4,none⟩=false∧w.frozen? ⟨B,5,none⟩=false:=by
 unfold Zero6 at h;simp[World.cell?,World.frozen?,h]
theorem Zero6.fill {B:Nat} {w:World} (h:Zero6 B w) (a b c d e f:Value):((((((w.setCell ⟨B,0,none⟩ a).setCell ⟨B,1,none⟩ b).setCell ⟨B,2,none⟩ c).setCell ⟨B,3,none⟩ d).setCell ⟨B,4,none⟩ e).setCell ⟨B,5,none⟩ f).heap[B]?=some (.cells #[a,b,c,d,e,f] 150 (0,0)):=by
 have h0:=Wh w B 0 _ _ a h;have h1:=Wh _ B 1 _ _ b h0;have h2:=Wh _ B 2 _ _ c h1;have h3:=Wh _ B 3 _ _ d h2;have h4:=Wh _ B 4 _ _ e h3;have h5:=Wh _ B 5 _ _ f h4;simpa using h5
theorem below_fill6 {w0 w:World} {B:Nat} {a b c d e f:Value} (h:Below w0.heap.size w0 w) (hB:w0.heap.size≤B):Below w0.heap.size w0 ((((((w.setCell ⟨B,0,none⟩ a).setCell ⟨B,1,none⟩ b).setCell ⟨B,2,none⟩ c).setCell ⟨B,3,none⟩ d).setCell ⟨B,4,none⟩ e).setCell ⟨B,5,none⟩ f) :=
 (((((h.setCell (by exact hB) _).setCell (by exact hB) _).setCell (by exact hB) _).setCell (by exact hB) _).setCell (by exact hB) _).setCell (by exact hB) _
theorem fields_2 (w:World):Calls Tryz.prog 105 #[.int .i64 2] w (Vc (Wp 2) w):=by
 rw[show Wp 2=(-4,63,0,0,0,0) by decide +kernel];exact ZQ
theorem fields_3 (w:World):Calls Tryz.prog 105 #[.int .i64 3] w (Vc (Wp 3) w):=by
 rw[show Wp 3=(-4,63,0,0,0,0) by decide +kernel];exact ZQ
theorem fields_4 (w:World):Calls Tryz.prog 105 #[.int .i64 4] w (Vc (Wp 4) w):=by
 rw[show Wp 4=(-4,63,0,0,0,0) by decide +kernel];exact ZQ
theorem fields_12 (w:World):Calls Tryz.prog 105 #[.int .i64 12] w (Vc (Wp 12) w):=by
 rw[show Wp 12=(0,64,0,0,0,0) by decide +kernel];exact Zbo
theorem fields_13 (w:World):Calls Tryz.prog 105 #[.int .i64 13] w (Vc (Wp 13) w):=by
 rw[show Wp 13=(0,64,0,0,0,0) by decide +kernel];exact Zbo
theorem fields_14 (w:World):Calls Tryz.prog 105 #[.int .i64 14] w (Vc (Wp 14) w):=by
 rw[show Wp 14=(0,0,0,0,1,17) by decide +kernel];go_enter Tryz.func105,Tryz.ntmps105;go_wp2;exact bodyPost_ret (v:=.agg #[.int .i64 (0),.int .i64 0,.int .i64 0,.int .u64 0,.int .i64 1,.int .i64 17]) (by simp[results,Tryz.results105,go_sem]) rfl ⟨rfl,Wi (bR _ _) _⟩
theorem fields_16 (w:World):Calls Tryz.prog 105 #[.int .i64 16] w (Vc (Wp 16) w):=by
 rw[show Wp 16=(0,255,0,0,0,0) by decide +kernel];exact Zt
theorem fields_18 (w:World):Calls Tryz.prog 105 #[.int .i64 18] w (Vc (Wp 18) w):=by
 rw[show Wp 18=(0,255,0,0,0,0) by decide +kernel];exact Zt
theorem fields_32 (w:World):Calls Tryz.prog 105 #[.int .i64 32] w (Vc (Wp 32) w):=by
 rw[show Wp 32=(0,255,0,0,0,0) by decide +kernel];exact Zt
theorem fields_33 (w:World):Calls Tryz.prog 105 #[.int .i64 33] w (Vc (Wp 33) w):=by
 rw[show Wp 33=(0,255,0,0,0,0) by decide +kernel];exact Zt
theorem fields_34 (w:World):Calls Tryz.prog 105 #[.int .i64 34] w (Vc (Wp 34) w):=by
 rw[show Wp 34=(0,255,0,0,0,0) by decide +kernel];exact Zt
theorem fields_35 (w:World):Calls Tryz.prog 105 #[.int .i64 35] w (Vc (Wp 35) w):=by
 rw[show Wp 35=(0,255,0,0,0,0) by decide +kernel];exact Zt
theorem fields_36 (w:World):Calls Tryz.prog 105 #[.int .i64 36] w (Vc (Wp 36) w):=by
 rw[show Wp 36=(0,255,0,0,0,0) by decide +kernel];exact Zt
theorem fields_63 (w:World):Calls Tryz.prog 105 #[.int .i64 63] w (Vc (Wp 63) w):=by
 rw[show Wp 63=(0,3,0,0,0,0) by decide +kernel];exact ZS
theorem fields_64 (w:World):Calls Tryz.prog 105 #[.int .i64 64] w (Vc (Wp 64) w):=by
 rw[show Wp 64=(0,3,0,0,0,0) by decide +kernel];exact ZS
theorem fields_64523 (w:World):Calls Tryz.prog 105 #[.int .i64 64523] w (Vc (Wp 64523) w):=by
 rw[show Wp 64523=(0,3,0,0,0,0) by decide +kernel];exact ZS
theorem fields_64520 (w:World):Calls Tryz.prog 105 #[.int .i64 64520] w (Vc (Wp 64520) w):=by
 rw[show Wp 64520=(0,3,15,0,0,0) by decide +kernel];go_enter Tryz.func105,Tryz.ntmps105;go_wp2;exact bodyPost_ret (v:=.agg #[.int .i64 (0),.int .i64 3,.int .i64 15,.int .u64 0,.int .i64 0,.int .i64 0]) (by simp[results,Tryz.results105,go_sem]) rfl ⟨rfl,Wi (bR _ _) _⟩
theorem fields_64521 (w:World):Calls Tryz.prog 105 #[.int .i64 64521] w (Vc (Wp 64521) w):=by
 rw[show Wp 64521=(0,15,0,0,0,0) by decide +kernel];go_enter Tryz.func105,Tryz.ntmps105;go_wp2;exact bodyPost_ret (v:=.agg #[.int .i64 (0),.int .i64 15,.int .i64 0,.int .u64 0,.int .i64 0,.int .i64 0]) (by simp[results,Tryz.results105,go_sem]) rfl ⟨rfl,Wi (bR _ _) _⟩
theorem fields_64522 (w:World):Calls Tryz.prog 105 #[.int .i64 64522] w (Vc (Wp 64522) w):=by
 rw[show Wp 64522=(0,3,3,0,0,0) by decide +kernel];go_enter Tryz.func105,Tryz.ntmps105;go_wp2;exact bodyPost_ret (v:=.agg #[.int .i64 (0),.int .i64 3,.int .i64 3,.int .u64 0,.int .i64 0,.int .i64 0]) (by simp[results,Tryz.results105,go_sem]) rfl ⟨rfl,Wi (bR _ _) _⟩
theorem fields_65 (w:World):Calls Tryz.prog 105 #[.int .i64 65] w (Vc (Wp 65) w):=by
 rw[show Wp 65=(0,0,0,4294967295,0,0) by decide +kernel];go_enter Tryz.func105,Tryz.ntmps105;go_wp2;exact bodyPost_ret (v:=.agg #[.int .i64 (0),.int .i64 0,.int .i64 0,.int .u64 4294967295,.int .i64 0,.int .i64 0]) (by simp[results,Tryz.results105,go_sem]) rfl ⟨rfl,Wi (bR _ _) _⟩
theorem fields_66 (w:World):Calls Tryz.prog 105 #[.int .i64 66] w (Vc (Wp 66) w):=by
 rw[show Wp 66=(0,0,0,18446744073709551615,0,0) by decide +kernel];exact Zbi
theorem fields_68 (w:World):Calls Tryz.prog 105 #[.int .i64 68] w (Vc (Wp 68) w):=by
 rw[show Wp 68=(0,0,0,18446744073709551615,0,0) by decide +kernel];exact Zbi
theorem fields_rest (op:Int) (h:op≠2∧op≠3∧op≠4∧op≠12∧op≠13∧op≠14∧op≠16∧op≠18∧op≠32∧op≠33∧op≠34∧op≠35∧op≠36∧op≠63∧op≠64∧op≠64523∧op≠64520∧op≠64521∧op≠64522∧op≠65∧op≠66∧op≠68):Wp op=if (Ug op).2.2.2 then (0,3,0,4294967295,0,0) else (0,0,0,0,0,0):=by
 unfold Wp
 repeat rw[if_neg (by omega)]
theorem fields_any (op:Int) (w:World):Calls Tryz.prog 105 #[.int .i64 op] w (Vc (Wp op) w):=by
 by_cases c2:op=2
 ·rw[c2];exact fields_2 w
 by_cases c3:op=3
 ·rw[c3];exact fields_3 w
 by_cases c4:op=4
 ·rw[c4];exact fields_4 w
 by_cases c12:op=12
 ·rw[c12];exact fields_12 w
 by_cases c13:op=13
 ·rw[c13];exact fields_13 w
 by_cases c14:op=14
 ·rw[c14];exact fields_14 w
 by_cases c16:op=16
 ·rw[c16];exact fields_16 w
 by_cases c18:op=18
 ·rw[c18];exact fields_18 w
 by_cases c32:op=32
 ·rw[c32];exact fields_32 w
 by_cases c33:op=33
 ·rw[c33];exact fields_33 w
 by_cases c34:op=34
 ·rw[c34];exact fields_34 w
 by_cases c35:op=35
 ·rw[c35];exact fields_35 w
 by_cases c36:op=36
 ·rw[c36];exact fields_36 w
 by_cases c63:op=63
 ·rw[c63];exact fields_63 w
 by_cases c64:op=64
 ·rw[c64];exact fields_64 w
 by_cases c64523:op=64523
 ·rw[c64523];exact fields_64523 w
 by_cases c64520:op=64520
 ·rw[c64520];exact fields_64520 w
 by_cases c64521:op=64521
 ·rw[c64521];exact fields_64521 w
 by_cases c64522:op=64522
 ·rw[c64522];exact fields_64522 w
 by_cases c65:op=65
 ·rw[c65];exact fields_65 w
 by_cases c66:op=66
 ·rw[c66];exact fields_66 w
 by_cases c68:op=68
 ·rw[c68];exact fields_68 w
 rw[fields_rest op ⟨c2,c3,c4,c12,c13,c14,c16,c18,c32,c33,c34,c35,c36,c63,c64,c64523,c64520,c64521,c64522,c65,c66,c68⟩];have HA:=hD (fun w=>access_any op w);have d2:(op==2)=false:=by simpa using c2
 have d3:(op==3)=false:=by simpa using c3
 have d4:(op==4)=false:=by simpa using c4
 have d12:(op==12)=false:=by simpa using c12
 have d13:(op==13)=false:=by simpa using c13
 have d14:(op==14)=false:=by simpa using c14
 have d16:(op==16)=false:=by simpa using c16
 have d18:(op==18)=false:=by simpa using c18
 have d32:(op==32)=false:=by simpa using c32
 have d33:(op==33)=false:=by simpa using c33
 have d34:(op==34)=false:=by simpa using c34
 have d35:(op==35)=false:=by simpa using c35
 have d36:(op==36)=false:=by simpa using c36
 have d63:(op==63)=false:=by simpa using c63
 have d64:(op==64)=false:=by simpa using c64
 have d64523:(op==64523)=false:=by simpa using c64523
 have d64520:(op==64520)=false:=by simpa using c64520
 have d64521:(op==64521)=false:=by simpa using c64521
 have d64522:(op==64522)=false:=by simpa using c64522
 have d65:(op==65)=false:=by simpa using c65
 have d66:(op==66)=false:=by simpa using c66
 have d68:(op==68)=false:=by simpa using c68
 clear c2 c3 c4 c12 c13 c14 c16 c18 c32 c33 c34 c35 c36 c63 c64 c64523 c64520 c64521 c64522 c65 c66 c68;generalize Ug op=ac at HA ⊢;obtain⟨a1,a2,a3,a4⟩:=ac;unfold AccPost at HA;simp only at HA ⊢;cases a4 with
 | true =>
  rw[if_pos (by rfl)];have hb0:∀ w',Below (w.alloc (.cells #[.int .i64 0,.int .i64 0,.int .i64 0,.int .u64 0,.int .i64 0,.int .i64 0] 150)).heap.size (w.alloc (.cells #[.int .i64 0,.int .i64 0,.int .i64 0,.int .u64 0,.int .i64 0,.int .i64 0] 150)) w'→Zero6 w.heap.size w':=fun w' hb=>(hb.block w.heap.size (by simp)).trans (by simp[World.alloc,-World.alloc_eq]);have HZ:=hD hb0;clear hb0;go_enter Tryz.func105,Tryz.ntmps105;go_wp2_with (go_at_call 92;refine(HA.out _).mono ?_;rintro e w' ⟨rfl,hb⟩;obtain⟨z0,z1,z2,z3,z4,z5,y0,y1,y2,y3,y4,y5⟩:=(HZ.out w' hb).all;have HB:=hD (Wa (Wi (bR w.heap.size w) _) hb);have HF:=hD ((HZ.out w' hb).fill (.int .i64 0) (.int .i64 3) (.int .i64 0) (.int .u64 4294967295) (.int .i64 0) (.int .i64 0));clear hb)
  have hfl:=HF.out;exact bodyPost_ret (v:=.agg #[.int .i64 0,.int .i64 3,.int .i64 0,.int .u64 4294967295,.int .i64 0,.int .i64 0]) (by simp[results,Tryz.results105,go_sem,World.cell?,hfl]) rfl ⟨rfl,below_fill6 HB.out (nR _)⟩
 | false =>
  rw[if_neg (by simp)];have hb0:∀ w',Below (w.alloc (.cells #[.int .i64 0,.int .i64 0,.int .i64 0,.int .u64 0,.int .i64 0,.int .i64 0] 150)).heap.size (w.alloc (.cells #[.int .i64 0,.int .i64 0,.int .i64 0,.int .u64 0,.int .i64 0,.int .i64 0] 150)) w'→Zero6 w.heap.size w':=fun w' hb=>(hb.block w.heap.size (by simp)).trans (by simp[World.alloc,-World.alloc_eq]);have HZ:=hD hb0;clear hb0;go_enter Tryz.func105,Tryz.ntmps105;go_wp2_with (go_at_call 92;refine(HA.out _).mono ?_;rintro e w' ⟨rfl,hb⟩;obtain⟨z0,z1,z2,z3,z4,z5,y0,y1,y2,y3,y4,y5⟩:=(HZ.out w' hb).all;have HB:=hD (Wa (Wi (bR w.heap.size w) _) hb);have HF:=hD ((HZ.out w' hb).fill (.int .i64 0) (.int .i64 0) (.int .i64 0) (.int .u64 0) (.int .i64 0) (.int .i64 0));clear hb)
  have hfl:=HF.out;exact bodyPost_ret (v:=.agg #[.int .i64 0,.int .i64 0,.int .i64 0,.int .u64 0,.int .i64 0,.int .i64 0]) (by simp[results,Tryz.results105,go_sem,World.cell?,hfl]) rfl ⟨rfl,below_fill6 HB.out (nR _)⟩
theorem inst_not (x:VV) (h:VM x.op=false):instB x=false:=by unfold instB insB;rw[h];rfl
theorem inst_is (x:VV) (h:VM x.op=true):instB x=(inB x.a (Wp x.op).1 (Wp x.op).2.1 && inB x.b 0 (Wp x.op).2.2.1 && decide (x.n≤(Wp x.op).2.2.2.1) && inB (x.l.length:Int) (Wp x.op).2.2.2.2.1 (Wp x.op).2.2.2.2.2 && x.l.all labB):=by unfold instB insB;rw[h,Bool.true_and]
theorem inst_any (K:Nat→Prop) (w:World) (hK:∀ k,K k→k<w.heap.size) (x:VV) (Lv:Value) (hL:Wg K w Lv x.l):Calls Tryz.prog 81 #[.agg #[.int .i64 x.op,.int .i64 x.a,.int .i64 x.b,.int .u64 x.n,Lv]] w (Wo (instB x) w):=by
 obtain⟨A,c,hv,hm,_⟩:=hL.form;unfold maxLen at hm;have HL:=hD (fun wz (hb:Below w.heap.size w wz)=>labs_any (fun k=>k<wz.heap.size) wz (fun k hk=>hk) Lv x.l (hL.keep (Wf.below hb hK) fun k hk=>WW (hK k hk) hb.size));rw[hv]at HL ⊢;clear hL hv;have HKN:=hD (fun wz=>known_any x.op wz);have HFD:=hD (fun wz=>fields_any x.op wz);have HIS:=hD (inst_is x);have HNT:=hD (inst_not x);obtain⟨op,a,b,n,l⟩:=x;simp only at HL HKN HFD HIS HNT hm ⊢;obtain⟨kb,hkb⟩:∃ b,VM op=b:=⟨_,rfl⟩;rw[hkb]at HKN HIS HNT;generalize instB ⟨op,a,b,n,l⟩=R at HIS HNT ⊢;generalize Wp op=f at HFD HIS;obtain⟨f1,f2,f3,f4,f5,f6⟩:=f;unfold Vc at HFD;simp only at HFD HIS;generalize l.all labB=b5 at HL HIS;generalize l.length=nl at HL HIS hm ⊢;have H1:=hD (fun wz=>inB_pure a f1 f2 wz);have H2:=hD (fun wz=>inB_pure b 0 f3 wz);have H4:=hD (fun wz=>inB_pure (nl:Int) f5 f6 wz);generalize inB a f1 f2=b1 at H1 HIS;generalize inB b 0 f3=b2 at H2 HIS;generalize inB (nl:Int) f5 f6=b4 at H4 HIS;obtain⟨b3,hb3⟩:∃ b,decide (n≤f4)=b:=⟨_,rfl⟩;rw[hb3]at HIS;clear hkb;have HB1:=hD ((bR w.heap.size w).alloc (nR _) (.cells #[.int .i64 op,.int .i64 a,.int .i64 b,.int .u64 n,.slice A nl c] 76));have HC:Hid (∀ wz,Below (w.alloc (.cells #[.int .i64 op,.int .i64 a,.int .i64 b,.int .u64 n,.slice A nl c] 76)).heap.size (w.alloc (.cells #[.int .i64 op,.int .i64 a,.int .i64 b,.int .u64 n,.slice A nl c] 76)) wz→wz.cell? ⟨w.heap.size,0,none⟩=some (.int .i64 op)∧wz.cell? ⟨w.heap.size,1,none⟩=some (.int .i64 a)∧wz.cell? ⟨w.heap.size,2,none⟩=some (.int .i64 b)∧wz.cell? ⟨w.heap.size,3,none⟩=some (.int .u64 n)∧wz.cell? ⟨w.heap.size,4,none⟩=some (.slice A nl c)):=hD fun wz hb=>by
  have h9:∀ i,wz.cell? ⟨w.heap.size,i,none⟩=(#[.int .i64 op,.int .i64 a,.int .i64 b,.int .u64 n,.slice A nl c]:Array Value)[i]?:=fun i=>(hb.cell (p:=⟨w.heap.size,i,none⟩) (by simp)).trans (wN w _ _ i);exact⟨h9 0,h9 1,h9 2,h9 3,h9 4⟩
 go_enter Tryz.func81,Tryz.ntmps81;go_wp2_with fail
 generalize w.alloc (.cells #[.int .i64 op,.int .i64 a,.int .i64 b,.int .u64 n,.slice A nl c] 76)=w1 at HB1 HC ⊢;go_at_call 88;refine(HKN.out w1).mono ?_;rintro e w2 ⟨rfl,hb2⟩;cases kb with
 | false =>
  have HR:=hD (HNT.out rfl);have HB2:=hD (Wa HB1.out hb2);clear hb2 HNT HIS;go_wp2;go_ret;exact⟨WM (by rw[HR.out]),HB2.out⟩
 | true =>
  have HR:=hD (HIS.out rfl);have HB12:=hD hb2;obtain⟨k0,k1,k2,k3,k4⟩:=HC.out w2 hb2;clear hb2 HNT HIS HKN;go_wp2_with fail
  go_at_call 105;refine(HFD.out w2).mono ?_;rintro e w3 ⟨rfl,hb3'⟩;have HB13:=hD (Wa HB12.out hb3');clear hb3' HFD k0 k1 k2 k3 k4;obtain⟨k0,k1,k2,k3,k4⟩:=HC.out _ (Wi HB13.out (.cells #[.int .i64 f1,.int .i64 f2,.int .i64 f3,.int .u64 f4,.int .i64 f5,.int .i64 f6] 150));have HB4:=hD (Wa HB1.out (Wi HB13.out (.cells #[.int .i64 f1,.int .i64 f2,.int .i64 f3,.int .u64 f4,.int .i64 f5,.int .i64 f6] 150)));have HL4:=hD (HL.out _ HB4.out);have hN:∀ i,(w3.alloc (.cells #[.int .i64 f1,.int .i64 f2,.int .i64 f3,.int .u64 f4,.int .i64 f5,.int .i64 f6] 150)).cell? ⟨w3.heap.size,i,none⟩=(#[.int .i64 f1,.int .i64 f2,.int .i64 f3,.int .u64 f4,.int .i64 f5,.int .i64 f6]:Array Value)[i]?:=fun i=>wN w3 _ _ i;have m0:=hN 0;have m1:=hN 1;have m2:=hN 2;have m3:=hN 3;have m4:=hN 4;have m5:=hN 5;simp only[List.getElem?_toArray,List.getElem?_cons_zero,List.getElem?_cons_succ]at m0 m1 m2 m3 m4 m5;clear hN HB13 HB12 HC HB1 HL
  go_upto_region 4 with (fail)
  generalize w3.heap.size=D at *;generalize w3.alloc (.cells #[.int .i64 f1,.int .i64 f2,.int .i64 f3,.int .u64 f4,.int .i64 f5,.int .i64 f6] 150)=w4 at *;cases b1 <;> cases b2 <;> cases b3 <;> cases b4
  all_goals
   go_wp2_with (first|(go_at_call 62;(with_reducible refine(H1.out _).mono ?_);rintro e w' ⟨rfl,rfl⟩)|(go_at_call 62;(with_reducible refine(H2.out _).mono ?_);rintro e w' ⟨rfl,rfl⟩)|(go_at_call 62;(with_reducible refine(H4.out _).mono ?_);rintro e w' ⟨rfl,rfl⟩)|(go_at_call 106;refine HL4.out.mono ?_;rintro e w5 ⟨rfl,hb5⟩;have HB5:=hD (Wa HB4.out hb5);clear hb5))
   go_ret;first|exact⟨WM (by rw[HR.out];rfl),HB4.out⟩|exact⟨WM (by rw[HR.out];simp),HB5.out⟩
end
end Go.Proofs.YtepgopnnaeoolaaGreatDoor
