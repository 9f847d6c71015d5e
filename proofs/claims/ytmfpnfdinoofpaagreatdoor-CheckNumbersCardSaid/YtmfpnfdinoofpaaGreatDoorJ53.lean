/- A part of the proof. -/
import Derived.Test.YtmfpnfdinoofpaaGreatDoorJ52
import Derived.Test.YtmfpnfdinoofpaaGreatDoorRows
import Derived.ProofKit
import Derived.LaidMore
import Derived.Stop.Joined
import Derived.Stop.LaidErr
import Derived.Lib.LaidTab
namespace Go.Proofs.YtmfpnfdinoofpaaGreatDoor
section
open Go.RowKit
set_option maxHeartbeats 40000000
set_option maxRecDepth 100000
theorem ZbO {P:Prop}(h:P:=by
 clear hm3 hk3 ho3;go_wp2_with fail
 go_at_call 8;refine(funcs10_any w26 vm3 _ HM3.out (typed_one HC26.out.z) (few_one _ _) (by unfold oneM;simp) 2).mono ?_;rintro e w27 ⟨rfl,hb27⟩;have HC27:=hD (HC26.out.below hb27);clear hb27;go_wp2_with fail
 go_meet
 exact⟨rfl,hD HC27.out.bl⟩):P:=h
theorem numbers10_any (w:World) (ht:Tab w):Calls Tryz.prog 3 #[] w (Wh true w):=by
 have HT:=hD (fun wz (hb:Below w.heap.size w wz)=>ht.below hb);obtain⟨W,hW⟩:∃ W,W=w.alloc (.cells #[.int .i64 65,.int .i64 0,.int .i64 0,.int .u64 0,.slice none 0 0,.int .i64 66,.int .i64 0,.int .i64 0,.int .u64 0,.slice none 0 0,.int .i64 68,.int .i64 0,.int .i64 0,.int .u64 0,.slice none 0 0,.int .i64 0,.int .i64 0,.int .i64 0,.int .u64 0,.slice none 0 0] 25):=⟨_,rfl⟩;have HBW:Hid (Below w.heap.size w W):=hD (hW ▸ Wb (bR _ _) _);have HPU:Hid (∀ wz,Below W.heap.size W wz→∀ r:Nat,r<4→∃ p:Int,wz.cell? ⟨w.heap.size,r * 5,none⟩=some (.int .i64 p)∧wz.cell? ⟨w.heap.size,r * 5+1,none⟩=some (.int .i64 0)∧wz.cell? ⟨w.heap.size,r * 5+2,none⟩=some (.int .i64 0)∧wz.cell? ⟨w.heap.size,r * 5+3,none⟩=some (.int .u64 0)∧wz.cell? ⟨w.heap.size,r * 5+4,none⟩=some (.slice none 0 0)):=hD fun wz hb r hr=>by
  have hc:∀ o:Nat,wz.cell? ⟨w.heap.size,o,none⟩=(#[.int .i64 65,.int .i64 0,.int .i64 0,.int .u64 0,.slice none 0 0,.int .i64 66,.int .i64 0,.int .i64 0,.int .u64 0,.slice none 0 0,.int .i64 68,.int .i64 0,.int .i64 0,.int .u64 0,.slice none 0 0,.int .i64 0,.int .i64 0,.int .i64 0,.int .u64 0,.slice none 0 0]:Array Value)[o]?:=fun o=>(hb.cell (p:=⟨w.heap.size,o,none⟩) (by show w.heap.size<W.heap.size;rw[hW,Wj];omega)).trans (by rw[hW,wN]);rcases(show r=0∨r=1∨r=2∨r=3 by omega) with rfl|rfl|rfl|rfl
  ·exact⟨65,by rw[hc];rfl,by rw[hc];rfl,by rw[hc];rfl,by rw[hc];rfl,by rw[hc];rfl⟩
  ·exact⟨66,by rw[hc];rfl,by rw[hc];rfl,by rw[hc];rfl,by rw[hc];rfl,by rw[hc];rfl⟩
  ·exact⟨68,by rw[hc];rfl,by rw[hc];rfl,by rw[hc];rfl,by rw[hc];rfl,by rw[hc];rfl⟩
  ·exact⟨0,by rw[hc];rfl,by rw[hc];rfl,by rw[hc];rfl,by rw[hc];rfl,by rw[hc];rfl⟩
 have HW:=hD hW;clear hW ht;go_enter Tryz.func3,Tryz.ntmps3;go_wp2_with fail
 rw[← HW.out];go_loopw [2] (fun i wr=>∃ k:Nat,k≤272∧i=.int .i64 (k:Int)∧Hid (Below W.heap.size W wr)) (fun i _=>272 - (intOf i).toNat)
 case atStart=>exact⟨0,nZ _,rfl,hD (bR _ _)⟩
 case round =>
  obtain⟨wa,rfl⟩:∃ wa,wa=wr:=⟨_,rfl⟩;obtain⟨k,hk,rfl,HBA⟩:=hrel;rcases Nat.lt_or_ge k 272 with hlt|hlt;rotate_left
  ·skip
   have hd:decide ((k:Int)<272)=false:=by simp;omega
   have hd2:decide (k<272)=false:=by simp;omega
   go_wp2_with (go_at_call 9;refine(known10_any _ (HT.out _ (Wa HBW.out HBA.out))).mono ?_;rintro e w2 ⟨rfl,hb2⟩;have HB2:=hD hb2;clear hb2)
   go_ret;exact⟨rfl,Wa HBW.out (Wa HBA.out HB2.out)⟩
  have hd:decide ((k:Int)<272)=true:=by simp;omega
  have hd2:decide (k<272)=true:=by simp;omega
  have e1:IntKind.i64.wrap ((k:Int)+1)=(k:Int)+1:=IntWalk.i64_in _ (by omega);obtain⟨k2,hk2⟩:∃ k2:Int,k2=64512+(k:Int):=⟨_,rfl⟩;have e2:IntKind.i64.wrap (64512+(k:Int))=k2:=by rw[hk2];exact IntWalk.i64_in _ (by omega)
  obtain⟨W1,hW1⟩:∃ W1,W1=wa.alloc (.cells #[.int .i64 (k:Int),.int .i64 k2] 3):=⟨_,rfl⟩;have HB1:Hid (Below W.heap.size W W1):=hD (hW1 ▸ Wb HBA.out _);have HR:Hid (∀ wz,Below W1.heap.size W1 wz→∀ j:Nat,j<2→∃ z:Int,0≤z∧z≤64800∧wz.cell? ⟨wa.heap.size,j,none⟩=some (.int .i64 z)):=hD fun wz hb j hj=>by
   have hc:∀ o:Nat,wz.cell? ⟨wa.heap.size,o,none⟩=(#[.int .i64 (k:Int),.int .i64 k2]:Array Value)[o]?:=fun o=>(hb.cell (p:=⟨wa.heap.size,o,none⟩) (by show wa.heap.size<W1.heap.size;rw[hW1,Wj];omega)).trans (by rw[hW1,wN]);rcases(show j=0∨j=1 by omega) with rfl|rfl
   ·exact⟨(k:Int),by omega,by omega,by rw[hc];rfl⟩
   ·exact⟨k2,by omega,by omega,by rw[hc];rfl⟩
  have HW1:=hD hW1;have hkl:=hlt;clear hW1 hk2 hlt;go_wp2_with fail
  rw[← HW1.out];go_loopw [23] (fun i wr=>∃ j:Nat,j≤2∧i=.int .i64 (j:Int)∧Hid (Below W1.heap.size W1 wr)) (fun i _=>2 - (intOf i).toNat)
  case atStart=>exact⟨0,nZ _,rfl,hD (bR _ _)⟩
  case round =>
   obtain⟨wb,rfl⟩:∃ wb,wb=wr:=⟨_,rfl⟩;obtain⟨j,hj,rfl,HBB⟩:=hrel;rcases Nat.lt_or_ge j 2 with hlt|hlt;rotate_left
   ·skip
    have hd:decide ((j:Int)<2)=false:=by simp;omega
    have hd2:decide (j<2)=false:=by simp;omega
    go_wp2_with fail
    go_roundw
    case rel=>exact⟨k+1,by omega,by go_num,hD (Wa HB1.out HBB.out)⟩
    case measure=>simp[intOf];omega
   have hd3:decide ((j:Int)<2)=true:=by simp;omega
   have hd4:decide (j<2)=true:=by simp;omega
   have e3:IntKind.i64.wrap ((j:Int)+1)=(j:Int)+1:=IntWalk.i64_in _ (by omega);obtain⟨z,hz0,hz1,hzc⟩:=HR.out wb HBB.out j hlt;have hjl:=hlt;obtain⟨bA,hbA⟩:∃ bA,decide ((64524:Int)≤z)=bA:=⟨_,rfl⟩;obtain⟨bg,hbg⟩:∃ bg,decide ((256:Int)≤z)=bg:=⟨_,rfl⟩;obtain⟨bh,hbh⟩:∃ bh,decide (z<(64512:Int))=bh:=⟨_,rfl⟩;have HB0:=hD (Wa HBW.out (Wa HB1.out HBB.out))
   go_upto_region 8 with fail
   go_cut [36] from 24 to 122 (fun v wx=>(∃ b:Bool,v=.bool b)∧wx=wb)
   case first =>
    cases bA <;> cases bg <;> cases bh
    all_goals
     go_wp2_with fail
     go_meet
     exact⟨⟨_,rfl⟩,rfl⟩
   case rest =>
    obtain⟨⟨bq,rfl⟩,hwx⟩:=hcut;have hwx:=hwx.symm;subst hwx;clear hbA hbg hbh;cases bq with
    | true =>
     go_wp2_with fail
     go_roundw
     case rel=>exact⟨j+1,by omega,by go_num,HBB⟩
     case measure=>simp[intOf];omega
    | false =>
     go_wp2_with fail
     go_loopw [5] (fun i wr=>∃ n:Nat,n≤85∧i=.int .i64 (n:Int)∧Hid (Below wb.heap.size wb wr)) (fun i _=>85 - (intOf i).toNat)
     case atStart=>exact⟨0,nZ _,rfl,hD (bR _ _)⟩
     case round =>
      obtain⟨wn,rfl⟩:∃ wn,wn=wr:=⟨_,rfl⟩;obtain⟨n,hn,rfl,HBN⟩:=hrel;rcases Nat.lt_or_ge n 85 with hln|hln;rotate_left
      ·skip
       have hd8:decide ((n:Int)<85)=false:=by simp;omega
       have hd9:decide (n<85)=false:=by simp;omega
       go_wp2_with fail
       go_roundw
       case rel=>exact⟨j+1,by omega,by go_num,hD (Wa HBB.out HBN.out)⟩
       case measure=>simp[intOf];omega
      have hd8:decide ((n:Int)<85)=true:=by simp;omega
      have hd9:decide (n<85)=true:=by simp;omega
      have e4:IntKind.i64.wrap ((n:Int)+1)=(n:Int)+1:=IntWalk.i64_in _ (by omega);go_wp2_with fail
      go_loopw [6,7] (fun l i wr=>∃ (c:List Vl) (xs:List Value) (A:Option Addr) (cp kv m:Nat),l=.slice A m cp∧i=.int .i64 (kv:Int)∧Hid (U0 wn wr (.slice A m cp) c xs)∧Hid (c.length=m)∧m+kv≤85) (fun _ i _=>(intOf i).toNat)
      case atStart=>exact⟨[],[],none,0,n,0,rfl,rfl,hD (.nil (bR _ _)),hD rfl,by omega⟩
      case round =>
       obtain⟨wd,rfl⟩:∃ wd,wd=wr:=⟨_,rfl⟩;obtain⟨c,xs,A,cp,kv,m,rfl,rfl,HO,HM,hmk⟩:=hrel;rcases Nat.lt_or_ge 0 kv with h0|h0
       ·skip
        have hd1:decide ((0:Int)<(kv:Int))=true:=by simp;omega
        obtain⟨qt,hqt⟩:∃ q:Nat,kv / 4=q:=⟨_,rfl⟩;have hr4:kv % 4<4:=by omega
        have g2:(kv:Int) / 4=(qt:Int):=by omega
        have hqk:qt<kv:=by omega
        have HBC:=hD (Wa HB0.out (Wa HBN.out HO.out.bl));obtain⟨p,y0,y1,y2,y3,y4⟩:=HPU.out wd (Wa (Wa HB1.out HBB.out) (Wa HBN.out HO.out.bl)) (kv % 4) hr4;have hO2:=HO.out.below (Wb (bR wd.heap.size wd) (.cells #[.int .i64 p,.int .i64 0,.int .i64 0,.int .u64 0,.slice none 0 0] 25));have how:=hO2.own;rw[HM.out]at how;have HO2:=hD hO2;clear hqt hO2;go_wp2_with (at_builtin;refine WE rfl (.tmp 46) (.tmp 52) 26 25 rfl _ 5 56 Tryz.underlying26 Tryz.infoInsE rfl (by decide) (by decide) (.slice A m cp) m xs (by rfl) how _ 1 [.int .i64 p,.int .i64 0,.int .i64 0,.int .u64 0,.slice none 0 0] (by rfl) (by rfl) (Ua wd #[.int .i64 p,.int .i64 0,.int .i64 0,.int .u64 0,.slice none 0 0] 25 1 1) (by simp[Value.oneCell']) (by omega) ?_;intro v1 w1 ho1 hg1 hat1;obtain⟨B1,c1,rfl⟩:=Wy ho1)
        have HO3:=hD (HO2.out.push ⟨p,0,0,0,[]⟩ (.slice none 0 0) (Wf.nil _ _) (nZ _) rfl (by rw[HM.out];exact ho1) hg1 hat1);have HM3:Hid ((c++[(⟨p,0,0,0,[]⟩:Vl)]).length=m+1):=hD (by rw[List.length_append,HM.out];rfl);go_roundw
        case rel=>exact⟨_,_,B1,c1,qt,m+1,rfl,rfl,HO3,HM3,by omega⟩
        case measure=>simp[intOf];omega
       have hd1:decide ((0:Int)<(kv:Int))=false:=by simp;omega
       obtain⟨a3,ha3⟩:∃ a3:Int,(n:Int) % 3=a3:=⟨_,rfl⟩;obtain⟨a4,ha4⟩:∃ a4:Int,(n:Int) % 4=a4:=⟨_,rfl⟩;obtain⟨a5,ha5⟩:∃ a5:Int,(n:Int) % 5=a5:=⟨_,rfl⟩;obtain⟨b4,hb4⟩:∃ b4,(a4==0)=b4:=⟨_,rfl⟩;obtain⟨b5,hb5⟩:∃ b5,(a5==0)=b5:=⟨_,rfl⟩;obtain⟨q14,hq14⟩:∃ q14,(z==14)=q14:=⟨_,rfl⟩;obtain⟨bu,hbu⟩:∃ bu,decide ((2:Int)≤z)=bu:=⟨_,rfl⟩;obtain⟨bv,hbv⟩:∃ bv,decide (z≤(4:Int))=bv:=⟨_,rfl⟩;have e5:IntKind.i64.wrap (a5 - 4)=a5 - 4:=IntWalk.i64_in _ (by omega);have h00:¬ 0<kv:=by omega
       have hmb:m≤85:=by omega
       obtain⟨w5,hw5⟩:∃ w5,w5=wd.alloc (.cells #[.int .i64 z,.int .i64 a3,.int .i64 0,.int .u64 0,.slice none 0 0] 25):=⟨_,rfl⟩;have HX5:Hid (BoxAt wd w5 z a3 (.slice none 0 0) []):=hD (hw5 ▸ BoxAt.first wd z a3);have HW5:=hD hw5;clear h0 hw5
       go_upto_region 18 with fail
       rw[← HW5.out]
       go_upto_if 59 with fail
       go_cut [] from 37 to 121 (fun wx=>∃ (ai:Int) (lab:Value) (ll:List Int),Hid (BoxAt wd wx z ai lab ll))
       case first =>
        cases q14 with
        | false =>
         go_wp2_with fail
         go_meet
         exact⟨_,_,_,HX5⟩
        | true =>
         have hcl:∀ (u:Int) (o:Nat),(w5.alloc (.cells #[.int .i64 0,.int .i64 u] 3)).heap[wd.heap.size]?=some (.cells #[.int .i64 z,.int .i64 a3,.int .i64 0,.int .u64 0,.slice none 0 0] 25 (0,0)):=fun u o=>((Wb (bR w5.heap.size w5) _).block _ (Array.getElem?_eq_some_iff.1 HX5.out.hb).1).trans HX5.out.hb;have z0:∀ u:Int,(w5.alloc (.cells #[.int .i64 0,.int .i64 u] 3)).cell? ⟨wd.heap.size,0,none⟩=some (.int .i64 z):=fun u=>by simp only[World.cell?,hcl u 0];rfl
         have z1:∀ u:Int,(w5.alloc (.cells #[.int .i64 0,.int .i64 u] 3)).cell? ⟨wd.heap.size,1,none⟩=some (.int .i64 a3):=fun u=>by simp only[World.cell?,hcl u 0];rfl
         have z2:∀ u:Int,(w5.alloc (.cells #[.int .i64 0,.int .i64 u] 3)).cell? ⟨wd.heap.size,2,none⟩=some (.int .i64 0):=fun u=>by simp only[World.cell?,hcl u 0];rfl
         have z3:∀ u:Int,(w5.alloc (.cells #[.int .i64 0,.int .i64 u] 3)).cell? ⟨wd.heap.size,3,none⟩=some (.int .u64 0):=fun u=>by simp only[World.cell?,hcl u 0];rfl
         have z4:∀ u:Int,(w5.alloc (.cells #[.int .i64 0,.int .i64 u] 3)).cell? ⟨wd.heap.size,4,none⟩=some (.slice none 0 0):=fun u=>by simp only[World.cell?,hcl u 0];rfl
         have y0:∀ u:Int,(w5.alloc (.cells #[.int .i64 0,.int .i64 u] 3)).frozen? ⟨wd.heap.size,0,none⟩=false:=fun u=>by simp[World.frozen?,hcl u 0]
         have y1:∀ u:Int,(w5.alloc (.cells #[.int .i64 0,.int .i64 u] 3)).frozen? ⟨wd.heap.size,1,none⟩=false:=fun u=>by simp[World.frozen?,hcl u 0]
         have y2:∀ u:Int,(w5.alloc (.cells #[.int .i64 0,.int .i64 u] 3)).frozen? ⟨wd.heap.size,2,none⟩=false:=fun u=>by simp[World.frozen?,hcl u 0]
         have y3:∀ u:Int,(w5.alloc (.cells #[.int .i64 0,.int .i64 u] 3)).frozen? ⟨wd.heap.size,3,none⟩=false:=fun u=>by simp[World.frozen?,hcl u 0]
         have y4:∀ u:Int,(w5.alloc (.cells #[.int .i64 0,.int .i64 u] 3)).frozen? ⟨wd.heap.size,4,none⟩=false:=fun u=>by simp[World.frozen?,hcl u 0]
         clear hcl;go_wp2_with fail
         go_meet
         exact⟨_,_,_,hD (HX5.out.setL z _)⟩
       case rest =>
        obtain⟨w6,rfl⟩:∃ w6,w6=wc:=⟨_,rfl⟩;obtain⟨ai,lab,ll,HX6⟩:=hcut;clear HX5 HW5 hq14
        go_upto_region 20 with fail
        go_cut [70] from 37 to 121 (fun v wx=>(∃ b:Bool,v=.bool b)∧wx=w6)
        case first =>
         cases bu <;> cases bv
         all_goals
          go_wp2_with fail
          go_meet
          exact⟨⟨_,rfl⟩,rfl⟩
        case rest =>
         obtain⟨⟨b20,rfl⟩,hwx⟩:=hcut;subst hwx;clear hbu hbv
         go_upto_if 70 with fail
         go_cut [] from 37 to 121 (fun wx=>∃ (ai:Int),Hid (BoxAt wd wx z ai lab ll))
         case first =>
          cases b20 with
          | false =>
           go_wp2_with fail
           go_meet
           exact⟨_,HX6⟩
          | true =>
           have x1:wc.cell? ⟨wd.heap.size,1,none⟩=some (.int .i64 ai):=by simp[World.cell?,HX6.out.hb]
           have x2:wc.frozen? ⟨wd.heap.size,1,none⟩=false:=by simp[World.frozen?,HX6.out.hb]
           go_wp2_with fail
           go_meet
           exact⟨_,hD (HX6.out.setA _)⟩
         case rest =>
          obtain⟨w7,rfl⟩:∃ w7,w7=wc:=⟨_,rfl⟩;clear HX6;obtain⟨ai,HX7⟩:=hcut;obtain⟨Al,nl,cl,rfl,hll⟩:∃ (Al:Option Addr) (nl cl:Nat),lab=.slice Al nl cl∧nl=ll.length:=by
           obtain⟨A,c,h⟩:=HX7.out.lk.at0;exact⟨A,_,c,h,rfl⟩
          have p0:w7.cell? ⟨wd.heap.size,0,none⟩=some (.int .i64 z):=by simp[World.cell?,HX7.out.hb]
          have p1:w7.cell? ⟨wd.heap.size,1,none⟩=some (.int .i64 ai):=by simp[World.cell?,HX7.out.hb]
          have p2:w7.cell? ⟨wd.heap.size,2,none⟩=some (.int .i64 0):=by simp[World.cell?,HX7.out.hb]
          have p3:w7.cell? ⟨wd.heap.size,3,none⟩=some (.int .u64 0):=by simp[World.cell?,HX7.out.hb]
          have p4:w7.cell? ⟨wd.heap.size,4,none⟩=some (.slice Al nl cl):=by simp[World.cell?,HX7.out.hb]
          obtain⟨w8,hw8⟩:∃ w8,w8=w7.alloc (.cells #[.int .i64 z,.int .i64 ai,.int .i64 0,.int .u64 0,.slice Al nl cl] 25):=⟨_,rfl⟩;have hb8:Below w7.heap.size w7 w8:=hw8 ▸ Wb (bR _ _) _;have hc8:=HO.out.below (HX7.out.bl.trans (hb8.mono HX7.out.bl.size));have HC8:=hD hc8;have HL8:Hid (Wf (fun k=>k<w8.heap.size∧(Value.slice A m cp).ownBlock≠some k) w8 (.slice Al nl cl) ll):=hD (HX7.out.lk.keep (We.below hb8 fun _ hk=>hk.2) fun k hk=>⟨Ve hk.2 hb8.size,fun e=>by have:=(HO.out.own.lt _ e).2;omega⟩);have hnews8:UZ w8 (.slice (some ⟨w7.heap.size,0,none⟩) 1 1) 1 [.int .i64 z,.int .i64 ai,.int .i64 0,.int .u64 0,.slice Al nl cl]:=hw8 ▸ Ua w7 #[.int .i64 z,.int .i64 ai,.int .i64 0,.int .u64 0,.slice Al nl cl] 25 1 1;have how8:=hc8.own;rw[HM.out]at how8;have HW8:=hD hw8;have HL2:=hD HX7.out.l2;clear hw8 hb8 hc8 hll HX7
          go_upto_region 23 with (at_builtin;rw[← HW8.out];refine WE rfl (.tmp 75) (.tmp 77) 26 25 rfl _ 5 56 Tryz.underlying26 Tryz.infoInsE rfl (by decide) (by decide) (.slice A m cp) m xs (by rfl) how8 _ 1 [.int .i64 z,.int .i64 ai,.int .i64 0,.int .u64 0,.slice Al nl cl] (by rfl) (by rfl) hnews8 (by simp[Value.oneCell']) (by omega) ?_;intro v9 w9 ho9 hg9 hat9;obtain⟨A9,c9,rfl⟩:=Wy ho9)
          have HC9:=hD (HC8.out.push ⟨z,ai,0,0,ll⟩ (.slice Al nl cl) HL8.out (by have:=HL2.out;show ll.length≤1000;omega) rfl (by rw[HM.out];exact ho9) hg9 hat9);have HM9:Hid ((c++[(⟨z,ai,0,0,ll⟩:Vl)]).length=m+1):=hD (by rw[List.length_append,HM.out];rfl);generalize c++[(⟨z,ai,0,0,ll⟩:Vl)]=c1 at HC9 HM9;generalize xs++[.int .i64 z,.int .i64 ai,.int .i64 0,.int .u64 0,.slice Al nl cl]=xs1 at HC9;clear ho9 hg9 hat9 hnews8 how8 p0 p1 p2 p3 p4 HC8 HL8 HW8 HO HM;obtain⟨bu,hbu⟩:∃ bu,decide ((2:Int)≤z)=bu:=⟨_,rfl⟩;obtain⟨bv,hbv⟩:∃ bv,decide (z≤(4:Int))=bv:=⟨_,rfl⟩
          go_cut [84] from 37 to 121 (fun v wx=>(∃ b:Bool,v=.bool b)∧wx=w9)
          case first =>
           cases bu <;> cases bv
           all_goals
            go_wp2_with fail
            go_meet
            exact⟨⟨_,rfl⟩,rfl⟩
          case rest =>
           obtain⟨⟨b23,rfl⟩,hwx⟩:=hcut;subst hwx;clear hbu hbv
           go_upto_if 84 with fail
           go_cut [6] from 37 to 121 (fun v wx=>∃ (AF:Option Addr) (nF cF:Nat) (cc:List Vl) (xx:List Value),v=.slice AF nF cF∧Hid (U0 wn wx (.slice AF nF cF) cc xx)∧Hid (cc.length=nF)∧nF≤100)
           case first =>
            cases b23 with
            | false =>
             go_wp2_with fail
             go_meet
             exact⟨_,_,_,_,_,rfl,HC9,HM9,by omega⟩
            | true =>
             obtain⟨wE,hwE⟩:∃ wE,wE=wc.alloc (.cells #[.int .i64 11,.int .i64 0,.int .i64 0,.int .u64 0,.slice none 0 0] 25):=⟨_,rfl⟩;have hcE:=HC9.out.below (hwE ▸ Wb (bR _ _) _:Below wc.heap.size wc wE);have HCE:=hD hcE;have hnewsE:UZ wE (.slice (some ⟨wc.heap.size,0,none⟩) 1 1) 1 [.int .i64 11,.int .i64 0,.int .i64 0,.int .u64 0,.slice none 0 0]:=hwE ▸ Ua wc #[.int .i64 11,.int .i64 0,.int .i64 0,.int .u64 0,.slice none 0 0] 25 1 1;have howE:=hcE.own;rw[HM9.out]at howE;have HWE:=hD hwE;clear hwE hcE;go_wp2_with (at_builtin;rw[← HWE.out];refine WE rfl (.tmp 85) (.tmp 87) 26 25 rfl _ 5 56 Tryz.underlying26 Tryz.infoInsE rfl (by decide) (by decide) (.slice A9 (m+1) c9) (m+1) xs1 (by rfl) howE _ 1 [.int .i64 11,.int .i64 0,.int .i64 0,.int .u64 0,.slice none 0 0] (by rfl) (by rfl) hnewsE (by simp[Value.oneCell']) (by omega) ?_;intro vF wF hoF hgF hatF;obtain⟨AF,cF,rfl⟩:=Wy hoF)
             have HCF:=hD (HCE.out.push ⟨11,0,0,0,[]⟩ (.slice none 0 0) (Wf.nil _ _) (nZ _) rfl (by rw[HM9.out];exact hoF) hgF hatF)
             go_meet
             exact⟨_,_,_,_,_,rfl,HCF,hD (by rw[List.length_append,HM9.out];rfl),by omega⟩
           case rest =>
            obtain⟨wF,rfl⟩:∃ wF,wF=wc:=⟨_,rfl⟩;clear HC9 HM9;obtain⟨AF,nF,cF,cc,xx,rfl,HCF,HMF,hnF⟩:=hcut
            go_upto_region 25 with fail
            go_cut [121] from 37 to 121 (fun v wx=>v=.bool false∧Hid (Below wn.heap.size wn wx))
            case first =>
             obtain⟨wG,hwG⟩:∃ wG,wG=wF.alloc (.cells #[.int .i64 127] 3):=⟨_,rfl⟩;have hcG:=HCF.out.below (hwG ▸ Wb (bR _ _) _:Below wF.heap.size wF wG);have HCG:=hD hcG;have hrG:Wf (fun k=>k<wG.heap.size∧(Value.slice AF nF cF).ownBlock≠some k) wG (.slice (some ⟨wF.heap.size,0,none⟩) 1 1) [127]:=⟨_,1,rfl,by unfold maxLen;decide,fun h=>(by cases h),fun _=>⟨wF.heap.size,0,rfl,⟨by rw[hwG,Wj];omega,fun e=>by have:=(HCF.out.own.lt _ e).2;omega⟩,fun j hj=>by
              obtain rfl:j=0:=by have:j<1:=hj;omega
              rw[hwG,Nat.zero_add,wN];rfl⟩⟩
             have h1:=one10_any wG ([],[127]) (.slice none 0 0) (.slice (some ⟨wF.heap.size,0,none⟩) 1 1) (Value.slice AF nF cF) nF xx cc (by omega) (by have h:=hcG.own;rw[HMF.out]at h;exact h) (Wf.nil _ _) hrG (by have h:=hcG.ins;rw[HMF.out]at h;exact h);have H1:=hD h1;have HWG:=hD hwG;clear h1 hrG hcG hwG;go_wp2_with fail
             go_at_call 7;rw[← HWG.out];refine(H1.out).mono ?_;rintro e w20 ⟨vm1,rfl,hm1,hk1,ho1⟩;have HM1:=hD hm1;have HC20:Hid (U0 wn w20 (Value.slice AF nF cF) cc xx):=hD (HCG.out.other hk1 (by rw[HMF.out];exact ho1));clear hm1 hk1 ho1;go_wp2_with fail
             go_at_call 6;refine(same10_any w20 (HT.out _ (Wa HB0.out (Wa HBN.out HC20.out.bl))) vm1 _ HM1.out (typed_one HC20.out.z) (few_one _ _)).mono ?_;rintro e w21 ⟨rfl,hb21⟩;have HC21:=hD (HC20.out.below hb21);clear hb21;cases b4 with
             | false =>
              cases b5 with
              | false =>
               go_wp2_with fail
               go_meet
               exact⟨rfl,hD HC21.out.bl⟩
              | true =>
               go_wp2_with fail
               go_at_call 7;refine(one10_any w21 ([],[]) (.slice none 0 0) (.slice none 0 0) (Value.slice AF nF cF) nF xx cc (by omega) (by have h:=HC21.out.own;rw[HMF.out]at h;exact h) (Wf.nil _ _) (Wf.nil _ _) (by have h:=HC21.out.ins;rw[HMF.out]at h;exact h)).mono ?_;rintro e w26 ⟨vm3,rfl,hm3,hk3,ho3⟩;have HM3:=hD hm3;have HC26:Hid (U0 wn w26 (Value.slice AF nF cF) cc xx):=hD (HC21.out.other hk3 (by rw[HMF.out];exact ho3));exact ZbO
             | true =>
              go_wp2_with (at_builtin;refine wpList_append_both rfl (.tmp 101) (.tmp 103) 26 25 rfl _ 5 56 Tryz.underlying26 Tryz.infoInsE rfl (by decide) (by decide) (Value.slice AF nF cF) nF xx (by rfl) (by have h:=(HC21.out.below (Wb (bR _ _) (.cells #[.int .i64 26,.int .i64 0,.int .i64 0,.int .u64 0,.slice none 0 0] 25))).own;rw[HMF.out]at h;exact h) _ 1 [.int .i64 26,.int .i64 0,.int .i64 0,.int .u64 0,.slice none 0 0] (by rfl) (by rfl) (Ua w21 #[.int .i64 26,.int .i64 0,.int .i64 0,.int .u64 0,.slice none 0 0] 25 1 1) (by simp[Value.oneCell']) (by omega) ?_;intro v23 w23 ho23 hg23 hat23 hold23;obtain⟨A23,c23,rfl⟩:=Wy ho23;have HC22:=hD (HC21.out.below (Wb (bR w21.heap.size w21) (.cells #[.int .i64 26,.int .i64 0,.int .i64 0,.int .u64 0,.slice none 0 0] 25)));have HO23:=hD ho23;have HG23:=hD hg23;have HA23:=hD hat23;have HL23:=hD hold23;have HC23:=hD (HC22.out.push ⟨26,0,0,0,[]⟩ (.slice none 0 0) (Wf.nil _ _) (nZ _) rfl (by rw[HMF.out];exact ho23) hg23 hat23);clear ho23 hg23 hat23 hold23)
              go_wp2_with fail
              go_at_call 7;refine(one10_any w23 ([],[]) (.slice none 0 0) (.slice none 0 0) (.slice A23 (nF+1) c23) (nF+1) _ (cc++[(⟨26,0,0,0,[]⟩:Vl)]) (by omega) HO23.out (Wf.nil _ _) (Wf.nil _ _) (by have h:=HC23.out.ins;rw[List.length_append,HMF.out]at h;exact h)).mono ?_;rintro e w24 ⟨vm2,rfl,hm2,hk2,ho2⟩;have HM2:=hD hm2;have HC24:Hid (U0 wn w24 (Value.slice AF nF cF) cc xx):=hD (HC22.out.aside HG23.out HA23.out (by rw[HMF.out];exact HL23.out) HO23.out (by rw[HMF.out];omega) hk2 ho2);clear hm2 hk2 ho2;go_wp2_with fail
              go_at_call 6;refine(same10_any w24 (HT.out _ (Wa HB0.out (Wa HBN.out HC24.out.bl))) vm2 _ HM2.out (typed_one HC23.out.z) (few_one _ _)).mono ?_;rintro e w25 ⟨rfl,hb25⟩;have HC25:=hD (HC24.out.below hb25);clear hb25;cases b5 with
              | false =>
               go_wp2_with fail
               go_meet
               exact⟨rfl,hD HC25.out.bl⟩
              | true =>
               go_wp2_with fail
               go_at_call 7;refine(one10_any w25 ([],[]) (.slice none 0 0) (.slice none 0 0) (Value.slice AF nF cF) nF xx cc (by omega) (by have h:=HC25.out.own;rw[HMF.out]at h;exact h) (Wf.nil _ _) (Wf.nil _ _) (by have h:=HC25.out.ins;rw[HMF.out]at h;exact h)).mono ?_;rintro e w26 ⟨vm3,rfl,hm3,hk3,ho3⟩;have HM3:=hD hm3;have HC26:Hid (U0 wn w26 (Value.slice AF nF cF) cc xx):=hD (HC25.out.other hk3 (by rw[HMF.out];exact ho3));exact ZbO
            case rest =>
             obtain⟨rfl,HBF⟩:=hcut;go_wp2_with fail
             go_roundw
             case rel=>exact⟨n+1,by omega,by go_num,hD (Wa HBN.out HBF.out)⟩
             case measure=>simp[intOf];omega
end
section
open Go.ChangeShapes Go.WideShapes Go.ChangeAt Go.RowKit
def laidL:List (String×DataW Unit):=[("plainsong/text.least",Rows.laid_plainsong_text_least)]
theorem ownL:ownKnob Tryz.prog.godebug=none:=by kernel_rfl
theorem gLeast:Tryz.prog.globalNamed "plainsong/text.least"=some 0:=by kernel_rfl
theorem tLeast:(Tryz.prog.globals[0]?).map (·.type)=some 267:=by kernel_rfl
theorem cInt:Tryz.prog.cellsOf 3=1:=by kernel_rfl
theorem cLeast:Tryz.prog.cellsOf 267=5:=by kernel_rfl
theorem door_met (os:Os) (args:Array Value):laidMetH Tryz.prog laidL ((World.doorLaid Tryz.prog 14 os).forCall (fun _ _=>0) ⟨#[],args,[]⟩).memory :=
 laidMetH_of_parts3 (fuel:=8) (laidMet_of_run' 8 (by kernel_rfl) (by kernel_rfl)) (by kernel_rfl) (by kernel_rfl)
theorem tab_of_laid {W:World} (h:laidMetH Tryz.prog laidL W):Tab W:=by
 rw[MakeChecks.laidMetH_plain _ _ _ (by kernel_rfl)]at h;have h4:laidMet Tryz.prog [("plainsong/text.least",Lib.tabData .i64 [0,0,128,2048,65536])] W:=h;have hT:=Lib.tabIs_of_head gLeast tLeast Tryz.underlying267 Tryz.underlying3 cInt cLeast h4;exact fun i hi=>hT.cell gLeast i hi
end
end Go.Proofs.YtmfpnfdinoofpaaGreatDoor
