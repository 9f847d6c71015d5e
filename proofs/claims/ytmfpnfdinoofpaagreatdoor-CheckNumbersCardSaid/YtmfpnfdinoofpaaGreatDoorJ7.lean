/- A part of the proof. -/
import Derived.Test.YtmfpnfdinoofpaaGreatDoorJ3
import Derived.Lib.BitFns
import Derived.Lib.Walk
import Derived.Deep.CutRange
namespace Go.Proofs.YtmfpnfdinoofpaaGreatDoor
section
open Go.RowKit
set_option maxHeartbeats 1000000
set_option maxRecDepth 100000
theorem Zbi {P:Prop}(h:P:=by
 clear hV;rcases hbw with ⟨hb,w1⟩|⟨hb,w1,w2,w3⟩|⟨hb,w1,w2,w3,w4⟩|⟨hb,w1,w2,w4⟩|⟨hb,w1,w2,w3,w4⟩
 all_goals
  rw[hb]at HR;clear hb;go_wp2;go_ret;exact⟨ret_int (by rw[HR.out];rfl),Wt (bR _ _) _⟩):P:=h
theorem Zbs {P:Prop}(h:P:=by
 go_enter Tryz.func189,Tryz.ntmps189;go_wp2_with (go_at_call 199;refine(HL.out _).mono ?_;rintro e w' ⟨rfl,rfl⟩)
 go_ret;exact⟨rfl,bR _ _⟩):P:=h
theorem ZbL {P:Prop}(h:P:=by
 clear hac hat hcb hno;go_wp2;go_round
 case rel=>exact⟨j+1,by omega,by go_num,by rw[HAC.out];go_num,HAT⟩
 case measure=>simp[intOf];omega):P:=h
theorem Zb9 {P:Prop}(h:P:=by
 have HN:=hD (hno hcb);clear hac hat hcb hno;go_wp2;go_ret;exact⟨ret_int (by rw[HN.out];rfl),Wt (bR _ _) _⟩):P:=h
def Tab (w:World):Prop:=∀ i,i<5→w.cell? ⟨0,i,none⟩=some (.int .i64 ([0,0,128,2048,65536].getD i 0))
theorem Tab.lt {w:World} (h:Tab w):0<w.heap.size:=wL w _ (h 0 (by decide))
theorem Tab.below {w w':World} (h:Tab w) (hb:Below w.heap.size w w'):Tab w':=fun i hi=>(hb.cell (p:=⟨0,i,none⟩) h.lt).trans (h i hi)
theorem len8_byte (x:Nat) (hx:x<256) (hs:x<Lib.len8tab.size):wrap64 ((Lib.len8tab[x]'hs).toNat:Int)=(Lib.bitLen x:Int):=by
 have e:=Lib.len8_int (x:Int) (by omega) (by omega);have e2:((Lib.len8tab[x]'hs).toNat:Int)=Lib.len8 (x:Int):=by simp only[Lib.len8,Int.toNat_natCast,ByteArray.getElem?_lt' _ _ hs,Option.getD_some]
 rw[e2];rw[Int.toNat_natCast]at e;unfold wrap64;exact e
theorem len8_any (x:Nat) (hx:x<256) (w:World):Calls Tryz.prog 220 #[.int .u8 (x:Int)] w fun e w'=>e=.returned (.int .i64 (Lib.bitLen x:Int))∧w=w':=by
 have HX:=hD hx;go_enter Tryz.func220,Tryz.ntmps220;go_wp2;go_ret;exact⟨ret_int (len8_byte x HX.out _),rfl⟩
theorem lead8_any (x:Nat) (hx:x<256) (w:World):Calls Tryz.prog 199 #[.int .u8 (x:Int)] w fun e w'=>e=.returned (.int .i64 (8 - (Lib.bitLen x:Int)))∧w=w':=by
 have hl:Lib.bitLen x≤8:=(by decide +kernel:∀ k:Fin 256,Lib.bitLen k.val≤8) ⟨x,hx⟩;go_enter Tryz.func199,Tryz.ntmps199;go_wp2_with (go_at_call 220;refine(len8_any x hx _).mono ?_;rintro e w' ⟨rfl,rfl⟩)
 go_ret;exact⟨rfl,rfl⟩
theorem not_byte (x:Nat) (h:x<256):Go.bits .xor .u8 IntKind.u8.max (x:Int)=((255 - x:Nat):Int) :=
 (by decide +kernel:∀ k:Fin 256,Go.bits .xor .u8 IntKind.u8.max (k.val:Int)=((255 - k.val:Nat):Int)) ⟨x,h⟩
def onesB (x:Nat):Nat:=8 - Lib.bitLen (255 - x)
theorem ones_is (x:Nat) (h:x<256):(8:Int) - (Lib.bitLen (255 - x):Int)=(onesB x:Int) :=
 (by decide +kernel:∀ k:Fin 256,(8:Int) - (Lib.bitLen (255 - k.val):Int)=(onesB k.val:Int)) ⟨x,h⟩
theorem ones_says (x:Nat) (h:x<256):(x<128→onesB x=0)∧(128≤x∧x<192→onesB x=1)∧(WM x≠0→onesB x=WM x+1)∧(192≤x→WM x=0→5≤onesB x∧onesB x≤8) :=
 (by decide +kernel:∀ k:Fin 256,(k.val<128→onesB k.val=0)∧(128≤k.val∧k.val<192→onesB k.val=1)∧(WM k.val≠0→onesB k.val=WM k.val+1)∧(192≤k.val→WM k.val=0→5≤onesB k.val∧onesB k.val≤8)) ⟨x,h⟩
abbrev LeadSays (x o:Nat):Prop:=∀ w:World,Calls Tryz.prog 199 #[.int .u8 ((255 - x:Nat):Int)] w fun e w'=>e=.returned (.int .i64 (o:Int))∧w=w'
theorem lead_says (x:Nat) (h:x<256):LeadSays x (onesB x):=fun w=>(lead8_any (255 - x) (by omega) w).mono fun e w' ⟨he,hw⟩=>⟨by rw[he,ones_is x h],hw⟩
theorem u8_plain:IntKind.u8.signed=false:=rfl
theorem size_low (g o n cap x k:Nat) (hx:x<256) (ho:onesB x=k) (hk:k=0) (w:World) (hc:w.cell? ⟨g,o,none⟩=some (.int .u8 (x:Int))) (hn:1≤n) :
 Calls Tryz.prog 189 #[.slice (some ⟨g,o,none⟩) n cap] w (ValPost (.int .i64 1) w):=by
 have hl:=lead_says x hx;rw[ho]at hl;have HL:=hD hl;have h1:=not_byte x hx;have h2:=u8_plain;subst hk;clear hl ho;exact Zbs
theorem size_off (g o n cap x k:Nat) (hx:x<256) (ho:onesB x=k) (hk:k=1∨4<k∨n<k) (hk0:1≤k) (hk8:k≤8) (w:World) (hc:w.cell? ⟨g,o,none⟩=some (.int .u8 (x:Int))) (hn:1≤n) :
 Calls Tryz.prog 189 #[.slice (some ⟨g,o,none⟩) n cap] w (ValPost (.int .i64 0) w):=by
 have hl:=lead_says x hx;rw[ho]at hl;have HL:=hD hl;have h1:=not_byte x hx;have h2:=u8_plain;have h3:((k:Int)==0)=false:=by simp;omega
 have HK:=hD hk;clear hl ho hk;by_cases k1:k=1
 ·subst k1;clear HK;exact Zbs
 ·have h4:((k:Int)==1)=false:=by simp;omega
  by_cases k4:4<k
  ·have h5:decide ((4:Int)<(k:Int))=true:=by simp;omega
   exact Zbs
  ·have h5:decide ((4:Int)<(k:Int))=false:=by simp;omega
   have h6:n<k:=by have:=HK.out;omega
   have h7:decide ((n:Int)<(k:Int))=true:=by simp;omega
   exact Zbs
theorem and31 (x:Nat) (h:x<256):Go.bits .and .u8 (x:Int) 31=((x % 32:Nat):Int) :=
 (by decide +kernel:∀ k:Fin 256,Go.bits .and .u8 (k.val:Int) 31=((k.val % 32:Nat):Int)) ⟨x,h⟩
theorem and63 (x:Nat) (h:x<256):Go.bits .and .u8 (x:Int) 63=((x % 64:Nat):Int) :=
 (by decide +kernel:∀ k:Fin 256,Go.bits .and .u8 (k.val:Int) 63=((k.val % 64:Nat):Int)) ⟨x,h⟩
theorem and15 (x:Nat) (h:x<256):Go.bits .and .u8 (x:Int) 15=((x % 16:Nat):Int) :=
 (by decide +kernel:∀ k:Fin 256,Go.bits .and .u8 (k.val:Int) 15=((k.val % 16:Nat):Int)) ⟨x,h⟩
theorem and7 (x:Nat) (h:x<256):Go.bits .and .u8 (x:Int) 7=((x % 8:Nat):Int) :=
 (by decide +kernel:∀ k:Fin 256,Go.bits .and .u8 (k.val:Int) 7=((k.val % 8:Nat):Int)) ⟨x,h⟩
theorem or_six (V y:Nat) (h:V<8388608):Go.bits .or .i64 ((V:Int) * 64) ((y:Int) % 64)=(V:Int) * 64+(y:Int) % 64:=by
 have e1:(V:Int) * 64=((V * 64:Nat):Int):=by omega
 have e2:(y:Int) % 64=((y % 64:Nat):Int):=by omega
 have h1:(BitVec.ofInt 64 ((V * 64:Nat):Int)).toNat=V * 64:=by
  rw[BitVec.ofInt_natCast,BitVec.toNat_ofNat];exact Nat.mod_eq_of_lt (by omega)
 have h2:(BitVec.ofInt 64 ((y % 64:Nat):Int)).toNat=y % 64:=by
  rw[BitVec.ofInt_natCast,BitVec.toNat_ofNat];exact Nat.mod_eq_of_lt (by omega)
 have h3:V * 64 ||| y % 64=V * 64+y % 64:=by
  have h:=Nat.two_pow_add_eq_or_of_lt (i:=6) (b:=y % 64) (by omega) V;rw[show(2:Nat) ^ 6=64 from rfl]at h;rw[Nat.mul_comm V 64];exact h.symm
 rw[e1,e2];show IntKind.i64.wrap ((BitVec.ofInt 64 ((V * 64:Nat):Int) ||| BitVec.ofInt 64 ((y % 64:Nat):Int)).toNat:Int)=_;rw[BitVec.toNat_or,h1,h2,h3,IntKind.wrap_i64];omega
theorem cont_yes {y:Nat} (h:VQ y=true):((y:Int) / 64 != 2)=false:=by
 unfold VQ at h;simp only[Bool.and_eq_true,decide_eq_true_eq]at h;simp;omega
theorem cont_no {y:Nat} (h:VQ y=false):((y:Int) / 64 != 2)=true:=by
 unfold VQ at h;simp only[Bool.and_eq_false_iff,decide_eq_false_iff_not]at h;simp;omega
theorem bad_ways (k V:Nat) (L:Int) (hL:L=(leastB k:Int)) :
 (badV k V=true∧decide ((V:Int)<L)=true)∨(badV k V=true∧decide ((V:Int)<L)=false∧decide ((55296:Int)≤V)=true∧decide ((V:Int)<57344)=true) ∨
 (badV k V=true∧decide ((V:Int)<L)=false∧decide ((55296:Int)≤V)=true∧decide ((V:Int)<57344)=false∧decide ((1114112:Int)≤V)=true) ∨
 (badV k V=false∧decide ((V:Int)<L)=false∧decide ((55296:Int)≤V)=false∧decide ((1114112:Int)≤V)=false) ∨
 (badV k V=false∧decide ((V:Int)<L)=false∧decide ((55296:Int)≤V)=true∧decide ((V:Int)<57344)=false∧decide ((1114112:Int)≤V)=false):=by
 subst hL;unfold badV;simp only[decide_eq_true_eq,decide_eq_false_iff_not];omega
theorem size_2 (g o n cap x:Nat) (t:List Nat) (R:Nat) (hx:x<256) (ho:onesB x=2) (hn:2≤n) (hcap:n≤cap) (w:World) (htab:Tab w) (hc:w.cell? ⟨g,o,none⟩=some (.int .u8 (x:Int)))
 (ht:∀ j,j<1→w.cell? ⟨g,o+1+j,none⟩=some (.int .u8 (t.getD j 0:Nat))) (hb:∀ j,t.getD j 0<256) (htl:1≤t.length)
 (hno:∀ j,j<1→VQ (t.getD j 0)=false→R=0) (hyes:(t.take 1).all VQ=true→R=if badV 1 (Vn (x % 32) (t.take 1))=true then 0 else 2) (hsm:∀ j,j≤3→Vn (x % 32) (t.take j)<8388608) :
 Calls Tryz.prog 189 #[.slice (some ⟨g,o,none⟩) n cap] w (ValPost (.int .i64 (R:Int)) w):=by
 have hl:=lead_says x hx;rw[ho]at hl;have HL:=hD hl;have HT:=hD ht;have HB:=hD hb;have HTL:=hD htl;have HNO:=hD hno;have HYES:=hD hyes;have HSM:=hD hsm;have HTAB:=hD htab;have h1:=not_byte x hx;have h2:=u8_plain;have h3:=and31 x hx;have h4:decide ((n:Int)<2)=false:=by simp;omega
 clear hl ho ht hb htl hno hyes hsm htab;go_enter Tryz.func189,Tryz.ntmps189;go_wp2_with (go_at_call 199;refine(HL.out _).mono ?_;rintro e w' ⟨rfl,rfl⟩)
 go_quiet (fail)
 go_wp2_with fail
 clear h1 h2 h3 h4 hc;go_loop [4,37] (fun c i=>∃ j:Nat,j≤1∧i=.int .i64 (j:Int)∧c=.int .i64 ((Vn (x % 32) (t.take j):Nat):Int)∧Hid ((t.take j).all VQ=true)) (fun _ i=>1 - (intOf i).toNat)
 case atStart=>exact⟨0,nZ _,rfl,by simp[Vn],hD rfl⟩
 case round =>
  obtain⟨j,hj,rfl,rfl,hall⟩:=hrel;have hV:=HSM.out j (by omega);by_cases hlt:j<1
  ·have c0:=HT.out j hlt;have hy:=HB.out j;have hac:=accB_take t j (by have:=HTL.out;omega) (x % 32);have hat:=Us (t:=t) (j:=j) (by have:=HTL.out;omega) hall.out;have hno:=HNO.out j hlt;generalize t.getD j 0=y at c0 hy hac hat hno;generalize Vn (x % 32) (t.take j)=V at hac hV ⊢;have hor:=or_six V y (by omega);have h63:=and63 y hy;cases hcb:VQ y with
   | true =>
    have hd:((y:Int) / 64 != 2)=false:=cont_yes hcb;have hat:=hat hcb;have HAC:=hD hac;have HAT:=hD hat;have hl2:decide ((j:Int)<1)=true:=by simp;omega
    exact ZbL
   | false =>
    have hd:((y:Int) / 64 != 2)=true:=cont_no hcb;have hl2:decide ((j:Int)<1)=true:=by simp;omega
    exact Zb9
  ·obtain rfl:j=1:=by omega
   have ct:w.cell? ⟨0,2,none⟩=some (.int .i64 128):=HTAB.out 2 (by decide);have HR:=hD (HYES.out hall.out);clear hall;generalize Vn (x % 32) (t.take 1)=V at HR hV ⊢;have hbw:=bad_ways 1 V 128 rfl;exact Zbi
theorem size_3 (g o n cap x:Nat) (t:List Nat) (R:Nat) (hx:x<256) (ho:onesB x=3) (hn:3≤n) (hcap:n≤cap) (w:World) (htab:Tab w) (hc:w.cell? ⟨g,o,none⟩=some (.int .u8 (x:Int)))
 (ht:∀ j,j<2→w.cell? ⟨g,o+1+j,none⟩=some (.int .u8 (t.getD j 0:Nat))) (hb:∀ j,t.getD j 0<256) (htl:2≤t.length)
 (hno:∀ j,j<2→VQ (t.getD j 0)=false→R=0) (hyes:(t.take 2).all VQ=true→R=if badV 2 (Vn (x % 16) (t.take 2))=true then 0 else 3) (hsm:∀ j,j≤3→Vn (x % 16) (t.take j)<8388608) :
 Calls Tryz.prog 189 #[.slice (some ⟨g,o,none⟩) n cap] w (ValPost (.int .i64 (R:Int)) w):=by
 have hl:=lead_says x hx;rw[ho]at hl;have HL:=hD hl;have HT:=hD ht;have HB:=hD hb;have HTL:=hD htl;have HNO:=hD hno;have HYES:=hD hyes;have HSM:=hD hsm;have HTAB:=hD htab;have h1:=not_byte x hx;have h2:=u8_plain;have h3:=and15 x hx;have h4:decide ((n:Int)<3)=false:=by simp;omega
 clear hl ho ht hb htl hno hyes hsm htab;go_enter Tryz.func189,Tryz.ntmps189;go_wp2_with (go_at_call 199;refine(HL.out _).mono ?_;rintro e w' ⟨rfl,rfl⟩)
 go_quiet (fail)
 go_wp2_with fail
 clear h1 h2 h3 h4 hc;go_loop [4,37] (fun c i=>∃ j:Nat,j≤2∧i=.int .i64 (j:Int)∧c=.int .i64 ((Vn (x % 16) (t.take j):Nat):Int)∧Hid ((t.take j).all VQ=true)) (fun _ i=>2 - (intOf i).toNat)
 case atStart=>exact⟨0,nZ _,rfl,by simp[Vn],hD rfl⟩
 case round =>
  obtain⟨j,hj,rfl,rfl,hall⟩:=hrel;have hV:=HSM.out j (by omega);by_cases hlt:j<2
  ·have c0:=HT.out j hlt;have hy:=HB.out j;have hac:=accB_take t j (by have:=HTL.out;omega) (x % 16);have hat:=Us (t:=t) (j:=j) (by have:=HTL.out;omega) hall.out;have hno:=HNO.out j hlt;generalize t.getD j 0=y at c0 hy hac hat hno;generalize Vn (x % 16) (t.take j)=V at hac hV ⊢;have hor:=or_six V y (by omega);have h63:=and63 y hy;cases hcb:VQ y with
   | true =>
    have hd:((y:Int) / 64 != 2)=false:=cont_yes hcb;have hat:=hat hcb;have HAC:=hD hac;have HAT:=hD hat;have hl2:decide ((j:Int)<2)=true:=by simp;omega
    exact ZbL
   | false =>
    have hd:((y:Int) / 64 != 2)=true:=cont_no hcb;have hl2:decide ((j:Int)<2)=true:=by simp;omega
    exact Zb9
  ·obtain rfl:j=2:=by omega
   have ct:w.cell? ⟨0,3,none⟩=some (.int .i64 2048):=HTAB.out 3 (by decide);have HR:=hD (HYES.out hall.out);clear hall;generalize Vn (x % 16) (t.take 2)=V at HR hV ⊢;have hbw:=bad_ways 2 V 2048 rfl;exact Zbi
theorem size_4 (g o n cap x:Nat) (t:List Nat) (R:Nat) (hx:x<256) (ho:onesB x=4) (hn:4≤n) (hcap:n≤cap) (w:World) (htab:Tab w) (hc:w.cell? ⟨g,o,none⟩=some (.int .u8 (x:Int)))
 (ht:∀ j,j<3→w.cell? ⟨g,o+1+j,none⟩=some (.int .u8 (t.getD j 0:Nat))) (hb:∀ j,t.getD j 0<256) (htl:3≤t.length)
 (hno:∀ j,j<3→VQ (t.getD j 0)=false→R=0) (hyes:(t.take 3).all VQ=true→R=if badV 3 (Vn (x % 8) (t.take 3))=true then 0 else 4) (hsm:∀ j,j≤3→Vn (x % 8) (t.take j)<8388608) :
 Calls Tryz.prog 189 #[.slice (some ⟨g,o,none⟩) n cap] w (ValPost (.int .i64 (R:Int)) w):=by
 have hl:=lead_says x hx;rw[ho]at hl;have HL:=hD hl;have HT:=hD ht;have HB:=hD hb;have HTL:=hD htl;have HNO:=hD hno;have HYES:=hD hyes;have HSM:=hD hsm;have HTAB:=hD htab;have h1:=not_byte x hx;have h2:=u8_plain;have h3:=and7 x hx;have h4:decide ((n:Int)<4)=false:=by simp;omega
 clear hl ho ht hb htl hno hyes hsm htab;go_enter Tryz.func189,Tryz.ntmps189;go_wp2_with (go_at_call 199;refine(HL.out _).mono ?_;rintro e w' ⟨rfl,rfl⟩)
 go_quiet (fail)
 go_wp2_with fail
 clear h1 h2 h3 h4 hc;go_loop [4,37] (fun c i=>∃ j:Nat,j≤3∧i=.int .i64 (j:Int)∧c=.int .i64 ((Vn (x % 8) (t.take j):Nat):Int)∧Hid ((t.take j).all VQ=true)) (fun _ i=>3 - (intOf i).toNat)
 case atStart=>exact⟨0,nZ _,rfl,by simp[Vn],hD rfl⟩
 case round =>
  obtain⟨j,hj,rfl,rfl,hall⟩:=hrel;have hV:=HSM.out j (by omega);by_cases hlt:j<3
  ·have c0:=HT.out j hlt;have hy:=HB.out j;have hac:=accB_take t j (by have:=HTL.out;omega) (x % 8);have hat:=Us (t:=t) (j:=j) (by have:=HTL.out;omega) hall.out;have hno:=HNO.out j hlt;generalize t.getD j 0=y at c0 hy hac hat hno;generalize Vn (x % 8) (t.take j)=V at hac hV ⊢;have hor:=or_six V y (by omega);have h63:=and63 y hy;cases hcb:VQ y with
   | true =>
    have hd:((y:Int) / 64 != 2)=false:=cont_yes hcb;have hat:=hat hcb;have HAC:=hD hac;have HAT:=hD hat;have hl2:decide ((j:Int)<3)=true:=by simp;omega
    exact ZbL
   | false =>
    have hd:((y:Int) / 64 != 2)=true:=cont_no hcb;have hl2:decide ((j:Int)<3)=true:=by simp;omega
    exact Zb9
  ·obtain rfl:j=3:=by omega
   have ct:w.cell? ⟨0,4,none⟩=some (.int .i64 65536):=HTAB.out 4 (by decide);have HR:=hD (HYES.out hall.out);clear hall;generalize Vn (x % 8) (t.take 3)=V at HR hV ⊢;have hbw:=bad_ways 3 V 65536 rfl;exact Zbi
theorem size_any (A:Option Addr) (n cap:Nat) (l:List Nat) (hl:l.length=n) (h0:0<n) (hcap:n≤cap) (w:World) (htab:Tab w) (hb:Bytes w A l) :
 Calls Tryz.prog 189 #[.slice A n cap] w (ValPost (.int .i64 (V2 l:Int)) w):=by
 obtain⟨g,o,rfl,_,hc⟩:=hb.2 (by omega);have hx:l.getD 0 0<256:=getD_lt (by decide) hb.1 0;have he:=cons_of (l:=l) (by omega);have hc0:=hc 0 (by omega);have hct:∀ j,j<(l.drop 1).length→w.cell? ⟨g,o+1+j,none⟩=some (.int .u8 ((l.drop 1).getD j 0:Nat)):=fun j hj=>by
  have h:=hc (1+j) (by rw[List.length_drop]at hj;omega);have e:(l.drop 1).getD j 0=l.getD (1+j) 0:=by rw[List.getD_eq_getElem?_getD,List.getElem?_drop,← List.getD_eq_getElem?_getD]
  rw[e,← h,Nat.add_assoc]
 have hcb:∀ j,(l.drop 1).getD j 0<256:=fun j=>getD_lt (by decide) (fun y hy=>hb.1 y (List.mem_of_mem_drop hy)) j;have htl:(l.drop 1).length=n - 1:=by rw[List.length_drop,hl]
 rw[Nat.add_zero]at hc0;generalize l.getD 0 0=x at hx he hc0;generalize l.drop 1=t at he hct hcb htl;subst he;obtain⟨s1,s2,s3,s4⟩:=ones_says x hx;by_cases hx1:x<128
 ·rw[charB_one hx1];exact size_low g o n cap x _ hx rfl (s1 hx1) w hc0 (by omega)
 ·by_cases hm:WM x=0
  ·rw[Ul hx1 (.inl hm)];by_cases h192:x<192
   ·have:=s2 ⟨by omega,h192⟩;exact size_off g o n cap x _ hx rfl (.inl this) (by omega) (by omega) w hc0 (by omega)
   ·have:=s4 (by omega) hm;exact size_off g o n cap x _ hx rfl (.inr (.inl (by omega))) (by omega) (by omega) w hc0 (by omega)
  ·have h3:=s3 hm;have hle:=moreB_le x;by_cases hlen:t.length<WM x
   ·rw[Ul hx1 (.inr (.inl hlen))];exact size_off g o n cap x _ hx rfl (.inr (.inr (by omega))) (by omega) (by omega) w hc0 (by omega)
   ·have hno:∀ j,j<WM x→VQ (t.getD j 0)=false→V2 (x :: t)=0:=fun j hj hcj=>Ul hx1 (.inr (.inr (.inl (all_take_no (by omega) hj hcj))));have hyes:(t.take (WM x)).all VQ=true→V2 (x :: t)=if badV (WM x) (Vn (x % maskB (WM x)) (t.take (WM x)))=true then 0 else WM x+1:=fun ha=>by
     cases hbd:badV (WM x) (Vn (x % maskB (WM x)) (t.take (WM x))) with
     | true=>rw[Ul hx1 (.inr (.inr (.inr hbd)))];rfl
     | false=>rw[charB_good hx1 hm (by omega) ha hbd];rfl
    have hsm:=fun j hj=>accB_small x (WM x) j t hj;generalize V2 (x :: t)=R at hno hyes ⊢;have h3w:WM x=1∨WM x=2∨WM x=3:=by omega
    rcases h3w with h|h|h
    ·rw[h]at h3 hno hyes hlen hsm;exact size_2 g o n cap x t R hx h3 (by omega) hcap w htab hc0 (fun j hj=>hct j (by omega)) hcb (by omega) hno hyes hsm
    ·rw[h]at h3 hno hyes hlen hsm;exact size_3 g o n cap x t R hx h3 (by omega) hcap w htab hc0 (fun j hj=>hct j (by omega)) hcb (by omega) hno hyes hsm
    ·rw[h]at h3 hno hyes hlen hsm;exact size_4 g o n cap x t R hx h3 (by omega) hcap w htab hc0 (fun j hj=>hct j (by omega)) hcb (by omega) hno hyes hsm
end
section
open Go.RowKit
theorem Zdd {P:Prop}(h:P:=by
 rcases hs.2 with ⟨_,h2⟩|⟨g,cap,cur,h1,_,_,h2,h3,_⟩
 ·omega
 ·exact⟨g,cap,h1,h2,h3⟩):P:=h
structure Fr where
 op:Int
 ps:List Int
 rs:List Int
 h:Nat
 dead:Bool
structure Fv where
 op:Int
 pv:Value
 rv:Value
 ps:List Int
 rs:List Int
 h:Nat
 dead:Bool
def Fv.fr (f:Fv):Fr:=⟨f.op,f.ps,f.rs,f.h,f.dead⟩
def Fv.cells (f:Fv):List Value:=[.int .i64 f.op,f.pv,f.rv,.int .i64 (f.h:Int),.bool f.dead]
def VV (l:List Fv):List Value:=l.flatMap Fv.cells
theorem flatF_length (c:List Fv):(VV c).length=c.length * 5:=by
 induction c with
 | nil=>rfl
 | cons x c ih=>simp only[VV,List.flatMap_cons,List.length_append,Fv.cells,List.length_cons,List.length_nil]at ih ⊢;omega
theorem flatF_snoc (c:List Fv) (i:Fv):VV (c++[i])=VV c++i.cells:=by simp[VV]
structure Wx where
 G:Nat
 doc:Bool
 bt:TypeId
 ft:TypeId
 v:Mv
 m:Vt
 prof:Int
 lov:Value
 lo:List Int
 rv:Value
 ro:List Int
 ex:Option Nat
structure Ws where
 sv:Value
 fv:Value
 s:List Int
 f:List Fv
def wpriv (F:Wx) (x:Ws) (k:Nat):Prop:=k=F.G∨x.sv.ownBlock=some k∨x.fv.ownBlock=some k∨F.ex=some k
def Wq (F:Wx) (w:World) (x:Ws) (k:Nat):Prop:=k<w.heap.size∧¬ wpriv F x k
def Wx.psv (F:Wx):Nat:=if F.doc then 11 else 0
def Wx.pfv (F:Wx):Nat:=if F.doc then 12 else 1
def WN (F:Wx) (x:Ws):Array Value :=
 if F.doc then #[F.v.m0,F.v.m1,F.v.m2,F.v.m3,F.v.m4,F.v.m5,F.v.m6,F.v.m7,.int .i64 F.prof,F.lov,F.rv,x.sv,x.fv]
 else #[x.sv,x.fv,F.v.m0,F.v.m1,F.v.m2,F.v.m3,F.v.m4,F.v.m5,F.v.m6,F.v.m7,.int .i64 F.prof,F.lov,F.rv]
theorem wcells_sv (F:Wx) (x:Ws) (v:Value) (s:List Int):(WN F x).setIfInBounds F.psv v=WN F { x with sv:=v,s:=s }:=by
 unfold WN Wx.psv;cases F.doc <;> rfl
theorem wcells_fv (F:Wx) (x:Ws) (v:Value) (f:List Fv):(WN F x).setIfInBounds F.pfv v=WN F { x with fv:=v,f:=f }:=by
 unfold WN Wx.pfv;cases F.doc <;> rfl
structure WReads (F:Wx) (K:Nat→Prop) (w:World) (fl:List Fv):Prop where
 mod:W7 K w F.v F.m
 loc:Wf K w F.lov F.lo
 own:Wf K w F.rv F.ro
 fr:∀ f ∈ fl,Wf K w f.pv f.ps∧Wf K w f.rv f.rs
theorem WReads.keep {F:Wx} {K K':Nat→Prop} {w w':World} {fl:List Fv} (h:WReads F K w fl) (hk:We K w w') (hm:∀ k,K k→K' k):WReads F K' w' fl :=
 ⟨h.mod.keep hk hm,h.loc.keep hk hm,h.own.keep hk hm,fun f hf=>⟨(h.fr f hf).1.keep hk hm,(h.fr f hf).2.keep hk hm⟩⟩
structure Wk (F:Wx) (w:World) (x:Ws):Prop where
 hg:w.heap[F.G]?=some (.cells (WN F x) F.bt (0,0))
 so:w.ownsRow 0 3 1 x.sv x.s.length (x.s.map (Value.int .i64))
 sp:∀ g,x.sv.ownBlock=some g→g≠F.G∧x.fv.ownBlock≠some g
 fo:w.ownsRow 0 F.ft 5 x.fv x.f.length (VV x.f)
 fp:∀ g,x.fv.ownBlock=some g→g≠F.G
 ep:∀ g,F.ex=some g→g<w.heap.size∧g≠F.G∧x.sv.ownBlock≠some g∧x.fv.ownBlock≠some g
 reads:WReads F (Wq F w x) w x.f
structure Wz (F:Wx) (w:World) (x:Ws) (w':World) (x':Ws):Prop where
 keepx:We (fun k=>Wq F w x k∨F.ex=some k) w w'
 mono:∀ k,Wq F w x k→Wq F w' x' k
theorem Wz.keeps {F:Wx} {w w':World} {x x':Ws} (h:Wz F w x w' x'):We (Wq F w x) w w':=h.keepx.mono fun _ h=>.inl h
theorem Wz.refl (F:Wx) (w:World) (x:Ws):Wz F w x w x:=⟨.refl _ _,fun _ h=>h⟩
theorem Wz.trans {F:Wx} {a b c:World} {x y z:Ws} (h:Wz F a x b y) (k:Wz F b y c z):Wz F a x c z :=
 ⟨h.keepx.trans (k.keepx.mono fun i hi=>hi.imp (h.mono i) id),fun i hi=>k.mono i (h.mono i hi)⟩
theorem Wz.ints {F:Wx} {w w':World} {x x':Ws} (h:Wz F w x w' x') {v:Value} {l:List Int} (hv:Wf (Wq F w x) w v l):Wf (Wq F w' x') w' v l:=hv.keep h.keeps h.mono
theorem Wk.below {F:Wx} {w w':World} {x:Ws} (h:Wk F w x) (hb:Below w.heap.size w w'):Wk F w' x∧Wz F w x w' x:=by
 have hkx:We (fun k=>Wq F w x k∨F.ex=some k) w w':=.below hb fun k hk=>hk.elim (fun h=>h.1) fun e=>(h.ep k e).1;have hk:We (Wq F w x) w w':=hkx.mono fun _ h=>.inl h;have hm:∀ k,Wq F w x k→Wq F w' x k:=fun k hk=>⟨Ve hk.1 hb.size,hk.2⟩;exact⟨⟨(hb.block _ (Array.getElem?_eq_some_iff.1 h.hg).1).trans h.hg,W8 h.so hb,h.sp,W8 h.fo hb,h.fp,fun g e=>⟨Ve (h.ep g e).1 hb.size,(h.ep g e).2⟩,h.reads.keep hk hm⟩,hkx,hm⟩
theorem Wk.store {F:Wx} {W w:World} {x x':Ws} (h:Wk F W x) (hk:We (fun k=>k<W.heap.size∧x.sv.ownBlock≠some k∧x.fv.ownBlock≠some k) W w) (o:Nat) (u:Value) (hc:(WN F x).setIfInBounds o u=WN F x')
 (hs:w.ownsRow 0 3 1 x'.sv x'.s.length (x'.s.map (Value.int .i64))) (hsp:∀ g,x'.sv.ownBlock=some g→g≠F.G∧x'.fv.ownBlock≠some g)
 (hf:w.ownsRow 0 F.ft 5 x'.fv x'.f.length (VV x'.f)) (hfp:∀ g,x'.fv.ownBlock=some g→g≠F.G)
 (hm:∀ k,wpriv F x' k→wpriv F x k∨W.heap.size≤k) (hr:WReads F (Wq F w x') w x'.f) (hep:∀ g,F.ex=some g→x'.sv.ownBlock≠some g∧x'.fv.ownBlock≠some g):Wk F (w.setCell ⟨F.G,o,none⟩ u) x'∧Wz F W x (w.setCell ⟨F.G,o,none⟩ u) x':=by
 have hsz:(w.setCell ⟨F.G,o,none⟩ u).heap.size=w.heap.size:=by simp[World.setCell]
 have hk0:We (fun b=>b≠F.G) w (w.setCell ⟨F.G,o,none⟩ u):=.setCell w (fun e=>e rfl) u;have hGW:F.G<W.heap.size:=(Array.getElem?_eq_some_iff.1 h.hg).1;have hg:w.heap[F.G]?=some (.cells (WN F x) F.bt (0,0)):=(hk.block F.G ⟨hGW,fun e=>(h.sp _ e).1 rfl,fun e=>(h.fp _ e) rfl⟩).trans h.hg;have hK:We (fun k=>Wq F W x k∨F.ex=some k) W (w.setCell ⟨F.G,o,none⟩ u):=(hk.mono fun b hb=>by
  rcases hb with hb|hb
  ·exact⟨hb.1,fun e=>hb.2 (.inr (.inl e)),fun e=>hb.2 (.inr (.inr (.inl e)))⟩
  ·exact⟨(h.ep b hb).1,(h.ep b hb).2.2⟩).trans (hk0.mono fun b hb=>hb.elim (fun hb e=>hb.2 (.inl e)) fun hb=>(h.ep b hb).2.1)
 have hM:∀ k,Wq F W x k→Wq F (w.setCell ⟨F.G,o,none⟩ u) x' k:=fun k hk'=>⟨by rw[hsz];exact Ve hk'.1 hk.size,fun hp=>by
  rcases hm k hp with h1|h1
  ·exact hk'.2 h1
  ·exact absurd hk'.1 (Nat.not_lt_of_le h1)⟩
 have hR:∀ k,Wq F w x' k→Wq F (w.setCell ⟨F.G,o,none⟩ u) x' k:=fun k hk'=>⟨by rw[hsz];exact hk'.1,hk'.2⟩;exact⟨⟨by rw[Wg w F.G o _ _ u hg,hc],VE hs hk0 fun g hg=>(hsp g hg).1,hsp,VE hf hk0 fun g hg=>(hfp g hg),hfp,fun g e=>⟨by rw[hsz];exact Ve (h.ep g e).1 hk.size,(h.ep g e).2.1,hep g e⟩,hr.keep (hk0.mono fun b hb e=>hb.2 (.inl e)) hR⟩,hK,hM⟩
theorem wreads_on {F:Wx} {W w:World} {x x':Ws} (hk:We (fun k=>k<W.heap.size∧x.sv.ownBlock≠some k∧x.fv.ownBlock≠some k) W w) (hm:∀ k,wpriv F x' k→wpriv F x k∨W.heap.size≤k) :
 We (Wq F W x) W w∧∀ k,Wq F W x k→Wq F w x' k :=
 ⟨hk.mono fun b hb=>⟨hb.1,fun e=>hb.2 (.inr (.inl e)),fun e=>hb.2 (.inr (.inr (.inl e)))⟩,fun k hk'=>⟨Ve hk'.1 hk.size,fun hp=>by
  rcases hm k hp with h1|h1
  ·exact hk'.2 h1
  ·exact absurd hk'.1 (Nat.not_lt_of_le h1)⟩⟩
theorem Wk.lts {F:Wx} {w:World} {x:Ws} (h:Wk F w x):F.G<w.heap.size∧(∀ g,x.sv.ownBlock=some g→g<w.heap.size)∧∀ g,x.fv.ownBlock=some g→g<w.heap.size :=
 ⟨(Array.getElem?_eq_some_iff.1 h.hg).1,fun g hg=>(h.so.lt g hg).2,fun g hg=>(h.fo.lt g hg).2⟩
theorem Wk.setS {F:Wx} {W w:World} {x:Ws} (h:Wk F W x) (hk:We (fun k=>k<W.heap.size∧x.sv.ownBlock≠some k) W w) (v:Value) (s:List Int) (hown:w.ownsRow 0 3 1 v s.length (s.map (Value.int .i64)))
 (hat:v.ownBlock=x.sv.ownBlock∨∀ g,v.ownBlock=some g→W.heap.size≤g) :
 Wk F (w.setCell ⟨F.G,F.psv,none⟩ v) { x with sv:=v,s:=s }∧Wz F W x (w.setCell ⟨F.G,F.psv,none⟩ v) { x with sv:=v,s:=s }:=by
 obtain⟨l1,l3,l4⟩:=h.lts;have hk2:We (fun k=>k<W.heap.size∧x.sv.ownBlock≠some k∧x.fv.ownBlock≠some k) W w:=hk.mono fun _ h=>⟨h.1,h.2.1⟩;have hm:∀ k,wpriv F { x with sv:=v,s:=s } k→wpriv F x k∨W.heap.size≤k:=by
  rintro k (e|e|e|e)
  ·exact .inl (.inl e)
  ·rcases hat with h1|h1
   ·exact .inl (.inr (.inl (h1 ▸ e)))
   ·exact .inr (h1 k e)
  ·exact .inl (.inr (.inr (.inl e)))
  ·exact .inl (.inr (.inr (.inr e)))
 obtain⟨r1,r2⟩:=wreads_on hk2 hm;refine h.store hk2 F.psv v (wcells_sv F x v s) hown (fun g hg=>?_) (VE h.fo hk fun g hg=>⟨l4 g hg,fun e=>(h.sp g e).2 hg⟩) h.fp hm (h.reads.keep r1 r2) fun g e=>⟨fun hg=>?_,(h.ep g e).2.2.2⟩;rotate_left
 ·rcases hat with h1|h1
  ·exact(h.ep g e).2.2.1 (h1 ▸ hg)
  ·have:=h1 g hg;have:=(h.ep g e).1;omega
 rcases hat with h1|h1
 ·exact h.sp g (h1 ▸ hg)
 ·have:=h1 g hg;exact⟨by omega,fun e=>by have:=l4 g e;omega⟩
theorem Wk.setF {F:Wx} {W w:World} {x:Ws} (h:Wk F W x) (hk:We (fun k=>k<W.heap.size∧x.fv.ownBlock≠some k) W w) (v:Value) (f:List Fv) (hown:w.ownsRow 0 F.ft 5 v f.length (VV f))
 (hat:v.ownBlock=x.fv.ownBlock∨∀ g,v.ownBlock=some g→W.heap.size≤g) (hfr:∀ a ∈ f,a ∈ x.f∨(Wf (Wq F W x) W a.pv a.ps∧Wf (Wq F W x) W a.rv a.rs)) :
 Wk F (w.setCell ⟨F.G,F.pfv,none⟩ v) { x with fv:=v,f:=f }∧Wz F W x (w.setCell ⟨F.G,F.pfv,none⟩ v) { x with fv:=v,f:=f }:=by
 obtain⟨l1,l3,l4⟩:=h.lts;have hk2:We (fun k=>k<W.heap.size∧x.sv.ownBlock≠some k∧x.fv.ownBlock≠some k) W w:=hk.mono fun _ h=>⟨h.1,h.2.2⟩;have hm:∀ k,wpriv F { x with fv:=v,f:=f } k→wpriv F x k∨W.heap.size≤k:=by
  rintro k (e|e|e|e)
  ·exact .inl (.inl e)
  ·exact .inl (.inr (.inl e))
  ·rcases hat with h1|h1
   ·exact .inl (.inr (.inr (.inl (h1 ▸ e))))
   ·exact .inr (h1 k e)
  ·exact .inl (.inr (.inr (.inr e)))
 obtain⟨r1,r2⟩:=wreads_on hk2 hm;refine h.store hk2 F.pfv v (wcells_fv F x v f) (VE h.so hk fun g hg=>⟨l3 g hg,(h.sp g hg).2⟩) (fun g hg=>⟨(h.sp g hg).1,fun e=>?_⟩) hown (fun g hg=>?_) hm ?_ fun g e=>⟨(h.ep g e).2.2.1,fun hg=>?_⟩
 rotate_right
 ·rcases hat with h1|h1
  ·exact(h.ep g e).2.2.2 (h1 ▸ hg)
  ·have:=h1 g hg;have:=(h.ep g e).1;omega
 ·rcases hat with h1|h1
  ·exact(h.sp g hg).2 (h1 ▸ e)
  ·have:=h1 g e;have:=l3 g hg;omega
 ·rcases hat with h1|h1
  ·exact h.fp g (h1 ▸ hg)
  ·have:=h1 g hg;omega
 ·have hr:=h.reads.keep r1 r2;exact⟨hr.mod,hr.loc,hr.own,fun a ha=>by
   rcases hfr a ha with h1|⟨h1,h2⟩
   ·exact hr.fr a h1
   ·exact⟨h1.keep r1 r2,h2.keep r1 r2⟩⟩
theorem Wk.setC {F:Wx} {w:World} {x:Ws} (h:Wk F w x) {g n c:Nat} (hv:x.fv=.slice (some ⟨g,0,none⟩) n c) (j:Nat) (u:Value) (f:List Fv) (hf:VV f=(VV x.f).set j u) (hn:f.length=x.f.length) (hfr:∀ a ∈ f,∃ b ∈ x.f,a.pv=b.pv∧a.rv=b.rv∧a.ps=b.ps∧a.rs=b.rs) :
 Wk F (w.setCell ⟨g,j,none⟩ u) { x with f:=f }∧Wz F w x (w.setCell ⟨g,j,none⟩ u) { x with f:=f }:=by
 have hown:x.fv.ownBlock=some g:=by rw[hv];rfl
 have hgG:g≠F.G:=h.fp g hown;have hsz:(w.setCell ⟨g,j,none⟩ u).heap.size=w.heap.size:=by simp[World.setCell]
 have hk0:We (fun b=>b≠g) w (w.setCell ⟨g,j,none⟩ u):=.setCell w (fun e=>e rfl) u;have hKx:We (fun k=>Wq F w x k∨F.ex=some k) w (w.setCell ⟨g,j,none⟩ u):=hk0.mono fun b hb e=>hb.elim (fun hb=>hb.2 (.inr (.inr (.inl (e ▸ hown))))) fun hb=>(h.ep b hb).2.2.2 (e ▸ hown);have hK:We (Wq F w x) w (w.setCell ⟨g,j,none⟩ u):=hKx.mono fun _ h=>.inl h;have hM:∀ k,Wq F w x k→Wq F (w.setCell ⟨g,j,none⟩ u) { x with f:=f } k:=fun k hk=>⟨by rw[hsz];exact hk.1,hk.2⟩;have hfo:=h.fo;have hn':x.f.length=n:=by
  rcases hfo.2 with ⟨h1,_⟩|⟨_,_,_,h1,_⟩
  ·rw[hv]at h1;cases h1
  ·rw[hv]at h1;simp only[vI]at h1;exact h1.2.1.symm
 rw[hv,hn']at hfo;have hst:=(hfo.stored j u).1;refine⟨⟨(hk0.block _ (fun e=>hgG e.symm)).trans h.hg,VE h.so hk0 fun a ha e=>(h.sp a ha).2 (e ▸ hown),h.sp,by rw[hn,hn',hf,hv];exact hst,h.fp,fun b e=>⟨by rw[hsz];exact(h.ep b e).1,(h.ep b e).2⟩,?_⟩,hKx,hM⟩;have hr:=h.reads.keep hK hM;exact⟨hr.mod,hr.loc,hr.own,fun a ha=>by
  obtain⟨b,hb,e1,e2,e3,e4⟩:=hfr a ha;rw[e1,e2,e3,e4];exact hr.fr b hb⟩
section
variable {F:Wx} {w:World} {x:Ws}
theorem Wk.cell (h:Wk F w x) (o:Nat):w.cell? ⟨F.G,o,none⟩=(WN F x)[o]?:=by simp[World.cell?,h.hg]
theorem Wk.frozen (h:Wk F w x) (o:Nat):w.frozen? ⟨F.G,o,none⟩=false:=by simp[World.frozen?,h.hg]
theorem Wk.sform (h:Wk F w x):∃ A c,x.sv=.slice A x.s.length c∧x.s.length≤c∧c≤maxLen:=by
 rcases h.so.2 with ⟨h1,h2⟩|⟨g,cap,cur,h1,_,_,h2,h3,_⟩
 ·exact⟨none,0,by rw[h1,h2],by omega,by unfold maxLen;omega⟩
 ·exact⟨_,cap,h1,h2,h3⟩
theorem Wk.scell (h:Wk F w x) (h0:0<x.s.length):∃ g c:Nat,x.sv=.slice (some ⟨g,0,none⟩) x.s.length c∧x.s.length≤c∧c≤maxLen∧g<w.heap.size∧∀ j,j<x.s.length→w.cell? ⟨g,j,none⟩=some (.int .i64 (x.s.getD j 0)):=by
 have hs:=h.so;obtain⟨g,c,he,h1,h2⟩:∃ g c:Nat,x.sv=.slice (some ⟨g,0,none⟩) x.s.length c∧x.s.length≤c∧c≤maxLen:=by
  exact Zdd
 rw[he]at hs;refine⟨g,c,he,h1,h2,(hs.lt g rfl).2,fun j hj=>?_⟩;rw[hs.cellAt j (by rw[Nat.mul_one];exact hj)];simp[hj]
theorem flatF_at (l:List Fv) (j i:Nat) (hj:j<l.length) (hi:i<5) (f0:Fv):(VV l)[j * 5+i]?=(l.getD j f0).cells[i]?:=by
 induction l generalizing j with
 | nil=>simp at hj
 | cons a l ih =>
  cases j with
  | zero =>
   simp only[VV,List.flatMap_cons,Nat.zero_mul,Nat.zero_add,List.getD_cons_zero];rw[List.getElem?_append_left (by simp[Fv.cells];omega)]
  | succ j =>
   simp only[VV,List.flatMap_cons,List.getD_cons_succ];rw[List.getElem?_append_right (by simp[Fv.cells];omega)];rw[show(j+1) * 5+i - a.cells.length=j * 5+i by simp[Fv.cells];omega];exact ih j (by simpa using hj)
theorem Wk.fcell (h:Wk F w x) (h0:0<x.f.length):∃ g c:Nat,x.fv=.slice (some ⟨g,0,none⟩) x.f.length c∧x.f.length≤c∧c≤maxLen∧g<w.heap.size∧(∀ o,w.frozen? ⟨g,o,none⟩=false)∧∀ j,j<x.f.length→∀ i,i<5→∀ f0,w.cell? ⟨g,j * 5+i,none⟩=(x.f.getD j f0).cells[i]?:=by
 have hs:=h.fo;obtain⟨g,c,he,h1,h2⟩:∃ g c:Nat,x.fv=.slice (some ⟨g,0,none⟩) x.f.length c∧x.f.length≤c∧c≤maxLen:=by
  exact Zdd
 rw[he]at hs;refine⟨g,c,he,h1,h2,(hs.lt g rfl).2,fun o=>hs.frozenAt o,fun j hj i hi f0=>?_⟩;rw[hs.cellAt (j * 5+i) (by omega)];exact flatF_at x.f j i hj hi f0
theorem Wk.new_free (h:Wk F w x) {k:Nat} (hk:w.heap.size≤k):¬ wpriv F x k:=by
 obtain⟨l1,l3,l4⟩:=h.lts;rintro(e|e|e|e)
 ·omega
 ·have:=l3 k e;omega
 ·have:=l4 k e;omega
 ·have:=(h.ep k e).1;omega
theorem Wk.alloc (h:Wk F w x) (o:Obj):Wk F (w.alloc o) x∧Wz F w x (w.alloc o) x:=h.below ((bR _ _).alloc (nR _) o)
theorem Wk.drew (h:Wk F w x):Wk F w.drew x∧Wz F w x w.drew x:=h.below ((bR _ _).drew)
end
def WPost (F:Wx) (w:World) (x:Ws) (v:Value) (R:Ws→Prop) (e:Ending) (w':World):Prop:=e=.returned v∧∃ x',Wk F w' x'∧Wz F w x w' x'∧R x'
end
section
open Go.RowKit
set_option maxHeartbeats 1000000
set_option maxRecDepth 10000
abbrev CntPost (l:List Nat) (w:World) (e:Ending) (w':World):Prop:=ValPost (.int .i64 (cntI l)) w e w'
theorem bytes_drop {w:World} {g o:Nat} {l:List Nat} (h:Bytes w (some ⟨g,o,none⟩) l) (c:Nat) (hc:c≤l.length):Bytes w (some ⟨g,o+c,none⟩) (l.drop c):=by
 have h2:=h.part c (l.length - c) (by omega) (some ⟨g,o+c,none⟩) (fun g' o' _ he=>by simp only[Option.some.injEq,Addr.mk.injEq]at he;obtain⟨rfl,rfl,_⟩:=he;rfl)
 rwa [List.take_of_length_le (by rw[List.length_drop];exact nR _)]at h2
theorem count_any (A:Option Addr) (n cap:Nat) (l:List Nat) (hl:l.length=n) (hcap:n≤cap) (hn:n≤1000000) (w:World) (htab:Tab w) (hb:Bytes w A l) :
 Calls Tryz.prog 177 #[.slice A n cap] w (CntPost l w):=by
 have HL:=hD hl;have HB:=hD hb;have HTAB:=hD htab;clear hl hb htab;go_enter Tryz.func177,Tryz.ntmps177;go_wp2;go_loopw [0,3] (fun s v wr=>∃ (A':Option Addr) (r:List Nat) (p cp m:Nat),s=.slice A' p cp∧v=.int .i64 (m:Int)∧Hid (r.length=p)∧p≤cp∧m+p≤n∧Hid (Bytes wr A' r)∧Below w.heap.size w wr∧Hid (joinI m (charsB r)=cntI l)) (fun s _ _=>match s with|.slice _ p _=>p|_=>0)
 case atStart=>exact⟨A,l,n,cap,0,rfl,rfl,HL,hcap,by omega,HB,bR _ _,hD rfl⟩
 case round =>
  obtain⟨wo,rfl⟩:∃ wo:World,wo=wr:=⟨_,rfl⟩;obtain⟨A',r,p,cp,m,rfl,rfl,hr,hcp,hmp,hby,hnx,hj⟩:=hrel;by_cases hp:0<p
  ·have hsz:=size_any A' p cp r hr.out hp hcp wo (HTAB.out.below hnx) hby.out;obtain⟨g,o,rfl,_,_⟩:=hby.out.2 (by rw[hr.out];exact hp);have hle:=(charB_le r).1;rw[hr.out]at hle;have hbad:=joinI_bad (l:=r) (by rw[hr.out];exact hp);have hstep:=joinI_step (l:=r) (by rw[hr.out];exact hp);have hdr:=bytes_drop hby.out (V2 r) (by rw[hr.out];exact hle);have hdl:(r.drop (V2 r)).length=p - V2 r:=by rw[List.length_drop,hr.out]
   generalize V2 r=c at hsz hle hbad hstep hdr hdl;have HSZ:=hD hsz;have HDR:=hD hdr;have HDL:=hD hdl;clear hsz hdr hdl;by_cases hc:c=0
   ·have HE:=hD (hbad hc m);clear hbad hstep;subst hc;go_wp2_with (go_at_call 189;refine HSZ.out.mono ?_;rintro e w' ⟨rfl,hb⟩;replace hnx:=Wa hnx hb;clear hb)
    go_ret;exact⟨ret_int (by rw[← hj.out,HE.out]),hnx⟩
   ·have HE:=hD (hstep hc m);clear hbad hstep;have hc0:((c:Int)==0)=false:=by simp;omega
    by_cases hcc:cp=c
    ·have hpc:p=c:=by omega
     have hnil:r.drop c=[]:=List.eq_nil_of_length_eq_zero (by rw[HDL.out];omega);have HNIL:=hD hnil;clear hnil;subst hcc hpc;go_wp2_with (go_at_call 189;refine HSZ.out.mono ?_;rintro e w' ⟨rfl,hb⟩;replace hnx:=Wa hnx hb;have HB2:=hD (HDR.out.below hb);clear hb)
     go_roundw
     case rel=>exact⟨some ⟨g,o,none⟩,[],0,0,m+1,by simp,by go_num,hD rfl,by omega,by omega,hD (Bytes.nil _ _),hnx,hD (by rw[← hj.out,HE.out,HNIL.out])⟩
     case measure=>simp;omega
    ·have hcc2:(cp:Int)≠c:=by omega
     go_wp2_with (go_at_call 189;refine HSZ.out.mono ?_;rintro e w' ⟨rfl,hb⟩;replace hnx:=Wa hnx hb;have HB2:=hD (HDR.out.below hb);clear hb)
     go_roundw
     case rel=>exact⟨some ⟨g,o+c,none⟩,r.drop c,p - c,cp - c,m+1,by simp,by go_num,HDL,by omega,by omega,HB2,hnx,hD (by rw[← hj.out,HE.out])⟩
     case measure=>simp;omega
  ·obtain rfl:p=0:=by omega
   obtain rfl:r=[]:=List.eq_nil_of_length_eq_zero hr.out;have HE:=hD (joinI_end m);go_wp2;go_ret;exact⟨ret_int (by rw[← hj.out,HE.out]),hnx⟩
theorem right_any (A:Option Addr) (n cap:Nat) (l:List Nat) (hl:l.length=n) (hcap:n≤cap) (hn:n≤1000000) (w:World) (htab:Tab w) (hb:Bytes w A l) :
 Calls Tryz.prog 148 #[.slice A n cap] w (Wh (decide (0≤cntI l)) w):=by
 have h:=count_any A n cap l hl hcap hn w htab hb;unfold CntPost at h;generalize cntI l=z at h ⊢;have H:=hD h;clear h;go_enter Tryz.func148,Tryz.ntmps148;go_wp2_with (go_at_call 177;refine H.out.mono ?_;rintro e w' ⟨rfl,hb⟩)
 go_ret;exact⟨rfl,hb⟩
end
end Go.Proofs.YtmfpnfdinoofpaaGreatDoor
