/- A part of the proof. -/
import Derived.Test.YtmfpnfdinoofpaaGreatDoorJ8
namespace Go.Proofs.YtmfpnfdinoofpaaGreatDoor
section
open Go.RowKit
set_option maxHeartbeats 8000000
set_option maxRecDepth 100000
theorem ZJ {P:Prop}(h:P:=by
 have hij:(i:Int)+((j:Int)+1)<(n:Int):=by omega
 have hin2:i+(j+1)<n:=by omega
 cases hcb:VQ y with
 | true =>
  have hd:((y:Int) / 64 != 2)=false:=cont_yes hcb;have hat:=hat hcb;have HAC:=hD hac;have HAT:=hD hat;clear hac hat hcb hno;go_wp2;go_round
  case rel=>exact⟨j+1,by omega,by go_num,by rw[HAC.out];go_num,HAT⟩
  case measure=>simp[intOf];omega
 | false =>
  have hd:((y:Int) / 64 != 2)=true:=cont_no hcb;have HN:=hD (HBAD.out (hno hcb) m);clear hac hat hcb hno;go_wp2;go_ret;exact⟨ret_int (by rw[← hj.out,HDR.out,HN.out]),Wt (bR _ _) _⟩):P:=h
theorem ZY {P:Prop}(h:P:=by
 go_ret;exact⟨ret_int (by rw[← hj.out,HDR.out,HBAD.out (by rw[HR.out];rfl)]),Wt (bR _ _) _⟩):P:=h
theorem Zbe {P:Prop}(h:P:=by
 go_wp2_with fail
 go_quiet (fail)
 go_wp2_with fail
 go_ret;exact⟨ret_int (by rw[← hj.out,HDR.out,HR.out]),Wt (bR _ _) _⟩):P:=h
theorem and31i (x:Nat) (h:x<256):Go.bits .and .i64 (x:Int) 31=(x:Int) % 32 :=
 (by decide +kernel:∀ k:Fin 256,Go.bits .and .i64 (k.val:Int) 31=(k.val:Int) % 32) ⟨x,h⟩
theorem and15i (x:Nat) (h:x<256):Go.bits .and .i64 (x:Int) 15=(x:Int) % 16 :=
 (by decide +kernel:∀ k:Fin 256,Go.bits .and .i64 (k.val:Int) 15=(k.val:Int) % 16) ⟨x,h⟩
theorem and7i (x:Nat) (h:x<256):Go.bits .and .i64 (x:Int) 7=(x:Int) % 8 :=
 (by decide +kernel:∀ k:Fin 256,Go.bits .and .i64 (k.val:Int) 7=(k.val:Int) % 8) ⟨x,h⟩
theorem over_is (V:Nat) (b:Bool) (h:decide ((1114112:Int)≤V)=b):decide ((1114111:Int)<V)=b:=by
 rw[← h];simp only[decide_eq_decide];omega
theorem at_drop {l:List Nat} {i n:Nat} (hl:l.length=n) (h:i<n):l.drop i=l.getD i 0 :: l.drop (i+1):=by
 have e:l.getD i 0=l[i]:=by simp[hl,h]
 rw[e,List.drop_eq_getElem_cons]
theorem hi_class (x:Nat) (hx:x<256) (k:Nat) (hk:WM x=k) (k0:k≠0) (t:List Nat) (hl:k≤t.length) :
 (∀ j,j<k→VQ (t.getD j 0)=false→V2 (x :: t)=0)∧((t.take k).all VQ=true→V2 (x :: t)=if badV k (Vn (x % maskB k) (t.take k))=true then 0 else k+1):=by
 subst hk;have hx1:¬ x<128:=by
  intro h;apply k0
  unfold WM;rw[if_neg (by omega),if_neg (by omega),if_neg (by omega)]
 refine⟨fun j hj hcj=>Ul hx1 (.inr (.inr (.inl (all_take_no (by omega) hj hcj)))),fun ha=>?_⟩;cases hbd:badV (WM x) (Vn (x % maskB (WM x)) (t.take (WM x))) with
 | true=>rw[Ul hx1 (.inr (.inr (.inr hbd)))];rfl
 | false=>rw[charB_good hx1 k0 (by omega) ha hbd];rfl
theorem signs_any (A:Option Addr) (n cap:Nat) (l:List Nat) (hl:l.length=n) (hcap:n≤cap) (hn:n≤1000000) (w:World) (hb:Bytes w A l) :
 Calls Tryz.prog 151 #[.slice A n cap] w (CntPost l w):=by
 have HL:=hD hl;have HB:=hD hb;clear hl hb;go_enter Tryz.func151,Tryz.ntmps151;go_wp2;go_loopw [3,4] (fun v s wr=>∃ m i nq:Nat,v=.int .i64 (m:Int)∧s=.int .i64 (i:Int)∧i≤n∧m≤i∧wr=w.drewN nq∧Hid (joinI m (charsB (l.drop i))=cntI l)) (fun _ s _=>n - (intOf s).toNat)
 case atStart=>exact⟨0,0,0,rfl,rfl,nZ _,nR _,rfl,hD rfl⟩
 case round =>
  obtain⟨m,i,nq,rfl,rfl,hi,hmi,rfl,hj⟩:=hrel;by_cases hlt:i<n
  ·obtain⟨g,o,rfl,_,hc⟩:=HB.out.2 (by rw[HL.out];omega);have c0:=hc i (by rw[HL.out];exact hlt);have hx:=getD_lt (by decide) HB.out.1 i;have hdr:=at_drop HL.out hlt;have hct:∀ j,j<n - i - 1→w.cell? ⟨g,o+(i+(j+1)),none⟩=some (.int .u8 ((l.drop (i+1)).getD j 0:Nat)):=fun j hj=>by
    have h:=hc (i+(j+1)) (by rw[HL.out];omega);have e:(l.drop (i+1)).getD j 0=l.getD (i+(j+1)) 0:=by rw[List.getD_eq_getElem?_getD,List.getElem?_drop,← List.getD_eq_getElem?_getD];congr 1;omega
    rw[e,← h]
   have hcb:∀ j,(l.drop (i+1)).getD j 0<256:=fun j=>getD_lt (by decide) (fun y hy=>HB.out.1 y (List.mem_of_mem_drop hy)) j;have htl:(l.drop (i+1)).length=n - i - 1:=by rw[List.length_drop,HL.out];omega
   have hpos:0<(l.drop i).length:=by rw[List.length_drop,HL.out];omega
   have hbad:=joinI_bad hpos;have hstep:=joinI_step hpos;have hdd:∀ c,(l.drop i).drop c=l.drop (i+c):=fun c=>List.drop_drop;rw[hdr]at hbad hstep;have HDR:=hD hdr;generalize l.getD i 0=x at c0 hx hbad hstep HDR;generalize l.drop (i+1)=t at hct hcb htl hbad hstep HDR;have HBAD:=hD hbad;have HSTEP:=hD hstep;have HDD:=hD hdd;have HCT:=hD hct;have HCB:=hD hcb;have HTL:=hD htl;have HX:=hD hx;have hin:decide ((i:Int)<(n:Int))=true:=by simp;omega
   clear hc hdr hbad hstep hdd hct hcb htl hpos;by_cases x1:x<128
   ·have d1:decide ((x:Int)<128)=true:=by simp;omega
    have HR:=hD (charB_one (t:=t) x1);have q1:decide ((n:Int)≤(i:Int))=false:=by simp;omega
    have q2:decide ((x:Int)<0)=false:=by simp
    have q3:decide ((55296:Int)≤(x:Int))=false:=by simp;omega
    have q4:decide ((1114111:Int)<(x:Int))=false:=by simp;omega
    clear x1;go_wp2_with fail
    go_quiet (fail)
    go_wp2_with fail
    go_loop [7,8] (fun v k=>v=.int .i64 (x:Int)∧k=.int .i64 1) (fun _ k=>(intOf k).toNat)
    case atStart=>exact⟨rfl,rfl⟩
    case round =>
     obtain⟨rfl,rfl⟩:=hrel;go_wp2;go_roundw
     case rel=>exact⟨m+1,i+1,_,by go_num,by go_num,by omega,by omega,rfl,hD (by rw[← hj.out,HDR.out,HSTEP.out (by rw[HR.out];decide) m,HR.out,← HDR.out,HDD.out])⟩
     case measure=>simp[intOf];omega
   ·have d1:decide ((x:Int)<128)=false:=by simp;omega
    by_cases hout:x<194∨245≤x
    ·have HR:=hD (HBAD.out (charB_out (t:=t) (by omega) hout hx) m);clear x1;rcases hout with h1|h1
     ·have d2:decide ((194:Int)≤(x:Int))=false:=by simp;omega
      have d3:decide ((224:Int)≤(x:Int))=false:=by simp;omega
      have d4:decide ((240:Int)≤(x:Int))=false:=by simp;omega
      clear h1;exact Zbe
     ·have d2:decide ((194:Int)≤(x:Int))=true:=by simp;omega
      have d3:decide ((x:Int)<224)=false:=by simp;omega
      have d4:decide ((224:Int)≤(x:Int))=true:=by simp;omega
      have d5:decide ((x:Int)<240)=false:=by simp;omega
      have d6:decide ((240:Int)≤(x:Int))=true:=by simp;omega
      have d7:decide ((x:Int)<245)=false:=by simp;omega
      clear h1;exact Zbe
    ·by_cases x2:x<224
     ·have d2:decide ((194:Int)≤(x:Int))=true:=by simp;omega
      have d3:decide ((x:Int)<224)=true:=by simp;omega
      have hmo:WM x=1:=by unfold WM;rw[if_pos (by omega)]
      have han:=and31i x hx;by_cases hlen:n - i - 1<1
      ·have HR:=hD (HBAD.out (Ul (x:=x) (t:=t) x1 (.inr (.inl (by rw[hmo,HTL.out];exact hlen)))) m);have q1:decide ((n:Int)≤(i:Int)+1)=true:=by simp;omega
       clear x1 hout hmo;exact Zbe
      ·have q1:decide ((n:Int)≤(i:Int)+1)=false:=by simp;omega
       obtain⟨hno,hyes⟩:=hi_class x hx 1 hmo (by decide) t (by rw[HTL.out];omega);have hsm:=fun j hj=>accB_small x 1 j t hj;rw[show maskB 1=32 from rfl]at hyes hsm;have HNO:=hD hno;have HYES:=hD hyes;have HSM:=hD hsm;clear hno hyes hsm x1 hout hmo;go_wp2_with fail
       go_quiet (fail)
       go_wp2_with fail
       go_loop [7,8] (fun v k=>∃ j:Nat,j≤1∧k=.int .i64 ((j:Int)+1)∧v=.int .i64 ((Vn (x % 32) (t.take j):Nat):Int)∧Hid ((t.take j).all VQ=true)) (fun _ k=>1+1 - (intOf k).toNat)
       case atStart=>exact⟨0,nZ _,rfl,by simp[Vn],hD rfl⟩
       case round =>
        obtain⟨j,hj2,rfl,rfl,hall⟩:=hrel;have hV:=HSM.out j (by omega);by_cases hlt2:j<1
        ·have c1:=HCT.out j (by omega);have hy:=HCB.out j;have hac:=accB_take t j (by have:=HTL.out;omega) (x % 32);have hat:=Us (t:=t) (j:=j) (by have:=HTL.out;omega) hall.out;have hno:=HNO.out j hlt2;generalize t.getD j 0=y at c1 hy hac hat hno;generalize Vn (x % 32) (t.take j)=V at hac hV ⊢;have hor:=or_six V y (by omega);have h63:=and63 y hy;have hl2:decide ((j:Int)+1≤1)=true:=by simp;omega
         exact ZJ
        ·obtain rfl:j=1:=by omega
         have hl2:decide (((1:Nat):Int)+1≤1)=false:=by simp
         have HR:=hD (HYES.out hall.out);clear hall;generalize Vn (x % 32) (t.take 1)=V at HR hV ⊢;have hbw:=bad_ways 1 V 128 rfl;clear hV;rcases hbw with ⟨hb,w1⟩|⟨hb,w1,w2,w3⟩|⟨hb,w1,w2,w3,w4⟩|⟨hb,w1,w2,w4⟩|⟨hb,w1,w2,w3,w4⟩
         all_goals
          rw[hb]at HR;clear hb;try have w5:=over_is V _ w4
          go_wp2
         ·exact ZY
         ·exact ZY
         ·exact ZY
         all_goals
          have HR2:Hid (V2 (x :: t)=2):=hD HR.out;go_roundw
          case rel=>exact⟨m+1,i+2,_,by go_num,by go_num,by omega,by omega,rfl,hD (by rw[← hj.out,HDR.out,HSTEP.out (by rw[HR2.out];decide) m,HR2.out,← HDR.out,HDD.out])⟩
          case measure=>simp[intOf];omega
     ·have d2:decide ((194:Int)≤(x:Int))=true:=by simp;omega
      have d3:decide ((x:Int)<224)=false:=by simp;omega
      have d4:decide ((224:Int)≤(x:Int))=true:=by simp;omega
      by_cases x3:x<240
      ·have d5:decide ((x:Int)<240)=true:=by simp;omega
       have hmo:WM x=2:=by unfold WM;rw[if_neg (by omega),if_pos (by omega)]
       have han:=and15i x hx;by_cases hlen:n - i - 1<2
       ·have HR:=hD (HBAD.out (Ul (x:=x) (t:=t) x1 (.inr (.inl (by rw[hmo,HTL.out];exact hlen)))) m);have q1:decide ((n:Int)≤(i:Int)+2)=true:=by simp;omega
        clear x1 hout hmo;exact Zbe
       ·have q1:decide ((n:Int)≤(i:Int)+2)=false:=by simp;omega
        obtain⟨hno,hyes⟩:=hi_class x hx 2 hmo (by decide) t (by rw[HTL.out];omega);have hsm:=fun j hj=>accB_small x 2 j t hj;rw[show maskB 2=16 from rfl]at hyes hsm;have HNO:=hD hno;have HYES:=hD hyes;have HSM:=hD hsm;clear hno hyes hsm x1 hout hmo;go_wp2_with fail
        go_quiet (fail)
        go_wp2_with fail
        go_loop [7,8] (fun v k=>∃ j:Nat,j≤2∧k=.int .i64 ((j:Int)+1)∧v=.int .i64 ((Vn (x % 16) (t.take j):Nat):Int)∧Hid ((t.take j).all VQ=true)) (fun _ k=>2+1 - (intOf k).toNat)
        case atStart=>exact⟨0,nZ _,rfl,by simp[Vn],hD rfl⟩
        case round =>
         obtain⟨j,hj2,rfl,rfl,hall⟩:=hrel;have hV:=HSM.out j (by omega);by_cases hlt2:j<2
         ·have c1:=HCT.out j (by omega);have hy:=HCB.out j;have hac:=accB_take t j (by have:=HTL.out;omega) (x % 16);have hat:=Us (t:=t) (j:=j) (by have:=HTL.out;omega) hall.out;have hno:=HNO.out j hlt2;generalize t.getD j 0=y at c1 hy hac hat hno;generalize Vn (x % 16) (t.take j)=V at hac hV ⊢;have hor:=or_six V y (by omega);have h63:=and63 y hy;have hl2:decide ((j:Int)+1≤2)=true:=by simp;omega
          exact ZJ
         ·obtain rfl:j=2:=by omega
          have hl2:decide (((2:Nat):Int)+1≤2)=false:=by simp
          have HR:=hD (HYES.out hall.out);clear hall;generalize Vn (x % 16) (t.take 2)=V at HR hV ⊢;have hbw:=bad_ways 2 V 2048 rfl;clear hV;rcases hbw with ⟨hb,w1⟩|⟨hb,w1,w2,w3⟩|⟨hb,w1,w2,w3,w4⟩|⟨hb,w1,w2,w4⟩|⟨hb,w1,w2,w3,w4⟩
          all_goals
           rw[hb]at HR;clear hb;try have w5:=over_is V _ w4
           go_wp2
          ·exact ZY
          ·exact ZY
          ·exact ZY
          all_goals
           have HR2:Hid (V2 (x :: t)=3):=hD HR.out;go_roundw
           case rel=>exact⟨m+1,i+3,_,by go_num,by go_num,by omega,by omega,rfl,hD (by rw[← hj.out,HDR.out,HSTEP.out (by rw[HR2.out];decide) m,HR2.out,← HDR.out,HDD.out])⟩
           case measure=>simp[intOf];omega
      ·have d5:decide ((x:Int)<240)=false:=by simp;omega
       have d6:decide ((240:Int)≤(x:Int))=true:=by simp;omega
       have d7:decide ((x:Int)<245)=true:=by simp;omega
       have hmo:WM x=3:=by unfold WM;rw[if_neg (by omega),if_neg (by omega),if_pos (by omega)]
       have han:=and7i x hx;by_cases hlen:n - i - 1<3
       ·have HR:=hD (HBAD.out (Ul (x:=x) (t:=t) x1 (.inr (.inl (by rw[hmo,HTL.out];exact hlen)))) m);have q1:decide ((n:Int)≤(i:Int)+3)=true:=by simp;omega
        clear x1 hout hmo;exact Zbe
       ·have q1:decide ((n:Int)≤(i:Int)+3)=false:=by simp;omega
        obtain⟨hno,hyes⟩:=hi_class x hx 3 hmo (by decide) t (by rw[HTL.out];omega);have hsm:=fun j hj=>accB_small x 3 j t hj;rw[show maskB 3=8 from rfl]at hyes hsm;have HNO:=hD hno;have HYES:=hD hyes;have HSM:=hD hsm;clear hno hyes hsm x1 hout hmo;go_wp2_with fail
        go_quiet (fail)
        go_wp2_with fail
        go_loop [7,8] (fun v k=>∃ j:Nat,j≤3∧k=.int .i64 ((j:Int)+1)∧v=.int .i64 ((Vn (x % 8) (t.take j):Nat):Int)∧Hid ((t.take j).all VQ=true)) (fun _ k=>3+1 - (intOf k).toNat)
        case atStart=>exact⟨0,nZ _,rfl,by simp[Vn],hD rfl⟩
        case round =>
         obtain⟨j,hj2,rfl,rfl,hall⟩:=hrel;have hV:=HSM.out j (by omega);by_cases hlt2:j<3
         ·have c1:=HCT.out j (by omega);have hy:=HCB.out j;have hac:=accB_take t j (by have:=HTL.out;omega) (x % 8);have hat:=Us (t:=t) (j:=j) (by have:=HTL.out;omega) hall.out;have hno:=HNO.out j hlt2;generalize t.getD j 0=y at c1 hy hac hat hno;generalize Vn (x % 8) (t.take j)=V at hac hV ⊢;have hor:=or_six V y (by omega);have h63:=and63 y hy;have hl2:decide ((j:Int)+1≤3)=true:=by simp;omega
          exact ZJ
         ·obtain rfl:j=3:=by omega
          have hl2:decide (((3:Nat):Int)+1≤3)=false:=by simp
          have HR:=hD (HYES.out hall.out);clear hall;generalize Vn (x % 8) (t.take 3)=V at HR hV ⊢;have hbw:=bad_ways 3 V 65536 rfl;clear hV;rcases hbw with ⟨hb,w1⟩|⟨hb,w1,w2,w3⟩|⟨hb,w1,w2,w3,w4⟩|⟨hb,w1,w2,w4⟩|⟨hb,w1,w2,w3,w4⟩
          all_goals
           rw[hb]at HR;clear hb;try have w5:=over_is V _ w4
           go_wp2
          ·exact ZY
          ·exact ZY
          ·exact ZY
          all_goals
           have HR2:Hid (V2 (x :: t)=4):=hD HR.out;go_roundw
           case rel=>exact⟨m+1,i+4,_,by go_num,by go_num,by omega,by omega,rfl,hD (by rw[← hj.out,HDR.out,HSTEP.out (by rw[HR2.out];decide) m,HR2.out,← HDR.out,HDD.out])⟩
           case measure=>simp[intOf];omega
  ·obtain rfl:i=n:=by omega
   have hin:decide ((i:Int)<(i:Int))=false:=by simp
   have HE:Hid (joinI m (charsB (l.drop i))=m):=hD (by rw[List.drop_of_length_le (by rw[HL.out];exact nR _)];exact joinI_end m);go_wp2;go_ret;exact⟨ret_int (by rw[← hj.out,HE.out]),Wt (bR _ _) _⟩
end
section
open Go.RowKit
set_option maxRecDepth 10000
theorem Zbg {P:Prop}(h:P:=by
 go_wp2;go_ret;exact⟨WV (by rw[HF.out]),HB.out⟩):P:=h
theorem Zcu {P:Prop}(h:P:=by
 go_enter Tryz.func103,Tryz.ntmps103;go_wp2;go_ret;exact⟨rfl,bR _ _⟩):P:=h
theorem Zcv {P:Prop}(h:P:=by
 go_enter Tryz.func104,Tryz.ntmps104;go_wp2;go_ret;exact⟨rfl,bR _ _⟩):P:=h
theorem ZcZ {P:Prop}(h:P:=by
 go_enter Tryz.func105,Tryz.ntmps105;go_wp2;go_ret;exact⟨rfl,rfl⟩):P:=h
theorem Zc6 {P:Prop}(h:P:=by
 go_roundw
 case rel=>exact⟨k+1,by omega,by go_num,hD (Wa HB.out hb),HY⟩
 case measure=>simp[intOf];omega):P:=h
theorem kind_any (t:Int) (w:World):Calls Tryz.prog 103 #[.int .i64 t] w (Wh (VF t) w):=by
 by_cases c0:t=127
 ·subst c0;rw[show VF 127=true from rfl];exact Zcu
 ·skip
  by_cases c1:t=126
  ·subst c1;rw[show VF 126=true from rfl];exact Zcu
  ·skip
   by_cases c2:t=124
   ·subst c2;rw[show VF 124=true from rfl];exact Zcu
   ·skip
    rw[show VF t=false from decide_eq_false (by omega)];have d0:(t==127)=false:=by simpa using c0
    have d1:(t==126)=false:=by simpa using c1
    have d2:(t==124)=false:=by simpa using c2
    clear c0 c1 c2;exact Zcu
def exKindB (t:Int):Bool:=decide (t=0∨t=2∨t=3)
theorem exkind_any (t:Int) (w:World):Calls Tryz.prog 104 #[.int .i64 t] w (Wh (exKindB t) w):=by
 by_cases c0:t=0
 ·subst c0;rw[show exKindB 0=true from rfl];exact Zcv
 ·skip
  by_cases c1:t=2
  ·subst c1;rw[show exKindB 2=true from rfl];exact Zcv
  ·skip
   by_cases c2:t=3
   ·subst c2;rw[show exKindB 3=true from rfl];exact Zcv
   ·skip
    rw[show exKindB t=false from decide_eq_false (by omega)];have d0:(t==0)=false:=by simpa using c0
    have d1:(t==2)=false:=by simpa using c1
    have d2:(t==3)=false:=by simpa using c2
    clear c0 c1 c2;exact Zcv
def PureB (b:Bool) (w:World) (e:Ending) (w':World):Prop:=e=.returned (.bool b)∧w=w'
theorem inB_pure (n lo hi:Int) (w:World):Calls Tryz.prog 105 #[.int .i64 n,.int .i64 lo,.int .i64 hi] w (PureB (inB n lo hi) w):=by
 by_cases c:lo≤n
 ·have d:decide (lo≤n)=true:=decide_eq_true c;by_cases e:n≤hi
  ·have d2:decide (n≤hi)=true:=decide_eq_true e;rw[show inB n lo hi=true from decide_eq_true ⟨c,e⟩];clear c e;exact ZcZ
  ·have d2:decide (n≤hi)=false:=decide_eq_false e;rw[show inB n lo hi=false from decide_eq_false (fun h=>e h.2)];clear c e;exact ZcZ
 ·have d:decide (lo≤n)=false:=decide_eq_false c;rw[show inB n lo hi=false from decide_eq_false (fun h=>c h.1)];clear c;exact ZcZ
theorem inB_any (n lo hi:Int) (w:World):Calls Tryz.prog 105 #[.int .i64 n,.int .i64 lo,.int .i64 hi] w (Wh (inB n lo hi) w):=(inB_pure n lo hi w).mono fun _ _ ⟨h,hw⟩=>⟨h,hw ▸ bR _ _⟩
theorem idx_any (n:Int) (w:World):Calls Tryz.prog 101 #[.int .i64 n] w (Wh (idxB n) w):=by
 have H:=hD (inB_any n 0 2147483647 w);unfold idxB;generalize inB n 0 2147483647=b at H ⊢;go_enter Tryz.func101,Tryz.ntmps101;go_wp2_with (go_at_call 105;refine H.out.mono ?_;rintro e w' ⟨rfl,hb⟩)
 go_ret;exact⟨rfl,hb⟩
theorem str_any (s:ByteArray) (w:World) (ht:Tab w):Calls Tryz.prog 100 #[.string s] w (Wh (strB s) w):=by
 by_cases c:s.size≤64
 ·have d:decide ((s.size:Int)≤64)=true:=by simp;omega
  have hconv:=conv_any w s;have H:=hD (right_any (some ⟨w.heap.size,0,none⟩) s.size (grownCap w s.size 0 5) (VR s) (nums_length s) (grownCap_ge w s.size 0 5) (by omega) (Lib.bytesWorld w 5 s) (ht.below (below_bytes w _ s)) (bytes_conv w s));have HB:=hD (below_bytes w 5 s);unfold strB;rw[decide_eq_true c,Bool.true_and];generalize decide (0≤cntI (VR s))=b at H ⊢;clear c ht;go_enter Tryz.func100,Tryz.ntmps100;go_wp2_with (go_at_call 148;refine H.out.mono ?_;rintro e w' ⟨rfl,hb⟩)
  go_ret;exact⟨rfl,Wa HB.out hb⟩
 ·have d:decide ((s.size:Int)≤64)=false:=by simp;omega
  unfold strB;rw[decide_eq_false c,Bool.false_and];clear c;go_enter Tryz.func100,Tryz.ntmps100;go_wp2;go_ret;exact⟨rfl,bR _ _⟩
theorem labB_any (n:Int) (w:World):Calls Tryz.prog 105 #[.int .i64 n,.int .i64 0,.int .i64 64] w (Wh (labB n) w):=inB_any n 0 64 w
theorem labs_any (K:Nat→Prop) (w:World) (hK:∀ k,K k→k<w.heap.size) (v:Value) (l:List Int) (h:Wf K w v l):Calls Tryz.prog 179 #[v] w (Wh (l.all labB) w):=by
 obtain⟨A,c,hv,hm,_⟩:=h.form;unfold maxLen at hm;have H:=hD (h.keep (K':=fun k=>k<w.heap.size) (.refl _ _) hK);rw[hv]at H ⊢;clear h hv;obtain⟨n,hn⟩:∃ n,l.length=n:=⟨_,rfl⟩;have HN:=hD hn;rw[hn]at H hm ⊢;clear hn;go_enter Tryz.func179,Tryz.ntmps179;go_wp2_with fail
 go_loopw [7] (fun i wr=>∃ k:Nat,k≤n∧i=.int .i64 (k:Int)∧Hid (Below w.heap.size w wr)∧Hid (W0 labB l 0 k)) (fun i _=>n - (intOf i).toNat)
 case atStart=>exact⟨0,nZ _,rfl,hD (bR _ _),hD (W0.zero _ _ _)⟩
 case round =>
  obtain⟨k,hk,rfl,HB,HA⟩:=hrel;by_cases hlt:k<n
  ·have hd:decide ((k:Int)<(n:Int))=true:=by simp;omega
   obtain⟨g,o,c',he,_,_⟩:=H.out.some_ (by rw[HN.out];omega);simp only[vI]at he;obtain⟨rfl,-,rfl⟩:=he;have hc0:=H.out.at_ k hlt;have hcell:=(HB.out.cell (p:=⟨g,o+k,none⟩) (wL _ _ hc0)).trans hc0;have HNO:=hD (fun (h:labB (l.getD k 0)=false)=>VM (by rw[HN.out];exact hlt) h);have HYE:=hD (fun (h:labB (l.getD k 0)=true)=>HA.out.succ h);generalize l.getD k 0=x at hcell HNO HYE;have HX:=hD (labB_any x wr);obtain⟨b,hb⟩:∃ b,labB x=b:=⟨_,rfl⟩;rw[hb]at HX;rw[hb]at HNO HYE;clear hb hc0;cases b with
   | true =>
    have HY:=hD (HYE.out rfl);clear HNO HYE;go_wp2_with (go_at_call 105;refine HX.out.mono ?_;rintro e w' ⟨rfl,hb⟩)
    exact Zc6
   | false =>
    have HF:=hD (HNO.out rfl);clear HNO HYE;go_wp2_with (go_at_call 105;refine HX.out.mono ?_;rintro e w' ⟨rfl,hb⟩)
    go_ret;exact⟨WV (by rw[HF.out]),Wa HB.out hb⟩
  ·have hd:decide ((k:Int)<(n:Int))=false:=by simp;omega
   obtain rfl:k=n:=by omega
   have HF:=hD (show l.all labB=true by have h:=HA.out;rw[← HN.out]at h;exact h.done);exact Zbg
theorem kinds_many (l:List Int) (most:Int) (h:most<(l.length:Int)):Vs l most=false:=by unfold Vs;rw[decide_eq_false (by omega),Bool.false_and]
theorem kinds_few (l:List Int) (most:Int) (h:(l.length:Int)≤most):Vs l most=l.all VF:=by unfold Vs;rw[decide_eq_true h,Bool.true_and]
theorem kindsAll_any (K:Nat→Prop) (w:World) (hK:∀ k,K k→k<w.heap.size) (v:Value) (l:List Int) (h:Wf K w v l) (most:Int) (hmost:(l.length:Int)≤most):Calls Tryz.prog 99 #[v,.int .i64 most] w (Wh (l.all VF) w):=by
 obtain⟨A,c,hv,hm,_⟩:=h.form;unfold maxLen at hm;have H:=hD (h.keep (K':=fun k=>k<w.heap.size) (.refl _ _) hK);rw[hv]at H ⊢;clear h hv;obtain⟨n,hn⟩:∃ n,l.length=n:=⟨_,rfl⟩;have HN:=hD hn;rw[hn]at H hm hmost ⊢;have hgt:decide (most<(n:Int))=false:=by simp;omega
 clear hn hmost;go_enter Tryz.func99,Tryz.ntmps99;go_wp2_with fail
 go_loopw [13] (fun i wr=>∃ k:Nat,k≤n∧i=.int .i64 (k:Int)∧Hid (Below w.heap.size w wr)∧Hid (W0 VF l 0 k)) (fun i _=>n - (intOf i).toNat)
 case atStart=>exact⟨0,nZ _,rfl,hD (bR _ _),hD (W0.zero _ _ _)⟩
 case round =>
  obtain⟨k,hk,rfl,HB,HA⟩:=hrel;by_cases hlt:k<n
  ·have hd:decide ((k:Int)<(n:Int))=true:=by simp;omega
   obtain⟨g,o,c',he,_,_⟩:=H.out.some_ (by rw[HN.out];omega);simp only[vI]at he;obtain⟨rfl,-,rfl⟩:=he;have hc0:=H.out.at_ k hlt;have hcell:=(HB.out.cell (p:=⟨g,o+k,none⟩) (wL _ _ hc0)).trans hc0;have HNO:=hD (fun (h:VF (l.getD k 0)=false)=>VM (by rw[HN.out];exact hlt) h);have HYE:=hD (fun (h:VF (l.getD k 0)=true)=>HA.out.succ h);generalize l.getD k 0=x at hcell HNO HYE;have HX:=hD (kind_any x wr);obtain⟨b,hb⟩:∃ b,VF x=b:=⟨_,rfl⟩;rw[hb]at HX;rw[hb]at HNO HYE;clear hb hc0;cases b with
   | true =>
    have HY:=hD (HYE.out rfl);clear HNO HYE;go_wp2_with (go_at_call 103;refine HX.out.mono ?_;rintro e w' ⟨rfl,hb⟩)
    exact Zc6
   | false =>
    have HF:=hD (HNO.out rfl);clear HNO HYE;go_wp2_with (go_at_call 103;refine HX.out.mono ?_;rintro e w' ⟨rfl,hb⟩)
    go_ret;exact⟨WV (by rw[HF.out]),Wa HB.out hb⟩
  ·have hd:decide ((k:Int)<(n:Int))=false:=by simp;omega
   obtain rfl:k=n:=by omega
   have HF:=hD (show l.all VF=true by have h:=HA.out;rw[← HN.out]at h;exact h.done);exact Zbg
theorem kinds_any (K:Nat→Prop) (w:World) (hK:∀ k,K k→k<w.heap.size) (v:Value) (l:List Int) (h:Wf K w v l) (most:Int):Calls Tryz.prog 99 #[v,.int .i64 most] w (Wh (Vs l most) w):=by
 by_cases hc:(l.length:Int)≤most
 ·rw[kinds_few l most hc];exact kindsAll_any K w hK v l h most hc
 ·rw[kinds_many l most (by omega)];obtain⟨A,c,hv,hm,_⟩:=h.form;rw[hv];generalize l.length=n at *;have hgt:decide (most<(n:Int))=true:=by simp;omega
  clear hc h hv;go_enter Tryz.func99,Tryz.ntmps99;go_wp2;go_ret;exact⟨rfl,bR _ _⟩
end
section
open Go.RowKit
theorem ZcA {P:Prop}(h:P:=by
 go_enter Tryz.func86,Tryz.ntmps86;go_wp2;go_ret;exact⟨rfl,rfl⟩):P:=h
theorem rich_any (op:Int) (w:World):Calls Tryz.prog 115 #[.int .i64 op] w (Wh (richB op) w):=by
 have C:=fun (w1:World) hg=>contains_any w.heap.size 14 14 richL op rfl (by omega) w1 hg;unfold richB;generalize richL.contains op=b at C;have HC:=hD C;clear C;go_enter Tryz.func115,Tryz.ntmps115;go_wp2_with fail
 go_at_call 156;refine(HC.out _ ?_).mono ?_
 ·intro j hj;exact new_cells w 3 richL j hj
 rintro e w' ⟨rfl,rfl⟩;go_wp2;go_ret;exact⟨rfl,(bR _ _).alloc (nR _) _⟩
theorem rrich_any (op:Int) (w:World) :
 Calls Tryz.prog 86 #[.int .i64 op] w fun e w'=>e=.returned (.bool (richB op))∧w=w':=by
 rw[← rrich_eq];by_cases c:op=18∨192≤op∧op≤196∨op=64514∨op=64515∨64518≤op∧op≤64523
 ·rw[show rrichB op=true from decide_eq_true c];rcases c with rfl|⟨h,g⟩|rfl|rfl|⟨h,g⟩
  case inr.inr.inr.inr =>
   have d1:(op==18)=false:=by simp;omega
   have d2:decide (op≤196)=false:=by simp;omega
   exact ZcA
  all_goals
   go_enter Tryz.func86,Tryz.ntmps86;go_wp2;go_ret;exact⟨rfl,rfl⟩
 ·rw[show rrichB op=false from decide_eq_false c];have c':op<192∨196<op∧op<64518∨64523<op:=by omega
  have e1:(op==18)=false:=by simp;omega
  have e2:(op==64514)=false:=by simp;omega
  have e3:(op==64515)=false:=by simp;omega
  clear c;rcases c' with h|⟨h,g⟩|h
  ·exact ZcA
  ·have d2:decide (op≤196)=false:=by simp;omega
   exact ZcA
  ·have d2:decide (op≤196)=false:=by simp;omega
   have d3:decide (op≤64523)=false:=by simp;omega
   exact ZcA
end
end Go.Proofs.YtmfpnfdinoofpaaGreatDoor
