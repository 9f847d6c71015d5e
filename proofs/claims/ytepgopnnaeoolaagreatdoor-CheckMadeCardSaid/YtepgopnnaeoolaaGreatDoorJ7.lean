/- A part of the proof. -/
import Derived.Test.YtepgopnnaeoolaaGreatDoorJ6
namespace Go.Proofs.YtepgopnnaeoolaaGreatDoor
section
open Go.RowKit
set_option maxHeartbeats 1000000
set_option maxRecDepth 100000
theorem Zbp {P:Prop}(h:P:=by
 go_wp2_with (go_at_call 55;refine(constant_any H1.out t (hm1.le (by omega))).mono ?_;rintro e w2 ⟨rfl,x2,hg2,hs2,hn2⟩)
 refine bodyPost_end (results_none rfl _ _ _) rfl ⟨rfl,_,hg2,HS1.out.trans hs2,HN1.out.trans hn2⟩):P:=h
theorem Zbu {P:Prop}(h:P:=by
 have hgs:=H4.out.pushS _ hgr t _ hown hat;clear hgr hown hat e12 f12 c12 c12b;have HGS:=hD hgs;clear hgs;refine bodyPost_ret (results_none rfl _ _ _) rfl (push_end HS4.out HN4.out HGS.out _ fun _ h=>h)):P:=h
theorem near_any {F:Fx} {w:World} {x:St} (h:WD F w x) (hm:Vs x 890000) :
 Calls Tryz.prog 76 #[.pointer (some ⟨F.G,0,none⟩)] w (GPost F w x (.tuple #[]) (fun x'=>Num x x' 1 1)):=by
 have c0:=h.c0;have H:=hD h;clear h;go_enter Tryz.func76,Tryz.ntmps76;go_wp2_with fail
 go_at_call 9;refine(WA H.out 1100 (by omega) (by omega)).mono ?_;rintro e w1 ⟨r1,hr1,rfl,x1,hg1,hs1,hn1⟩;have hm1:=hm.num hn1;go_wp2_with fail
 go_at_call 14;refine(WU hg1 _ _ _ _ (hm1.le (by omega))).mono ?_;rintro e w4 ⟨rfl,x4,hg4,hs4,hn4⟩;have hm4:=(hm1.num hn4).s;have H4:=hD hg4;have HS4:=hD (hs1.trans hs4);have HN4:=hD (hn1.trans hn4);clear hg4 hs4 hn4 hg1 hs1 hn1 c0 hm1;have c12:=H4.out.c12;have c12b:=(H4.out.pushf (.cells #[.int .i64 127] 3)).1;go_wp2_with (at_builtin;refine Wl rfl (.tmp 15) (.tmp 16) 22 3 rfl _ 1 8 Tryz.underlying22 Tryz.infoInt rfl (by decide) (by decide) x4.sv x4.s.length (x4.s.map (Value.int .i64)) (by rfl) (H4.out.so.alloc _) _ 1 [.int .i64 127] (by rfl) (by rfl) (WS w4 _ _ 1 1) (WP [127]) (by omega) ?_;intro v' w' hown hgr hat;obtain⟨e12,f12⟩:=(H4.out.pushf _).2 w' hgr;obtain⟨A',c',rfl⟩:=Wc hown)
 have hgs:=H4.out.pushS _ hgr 127 _ hown hat;clear hgr hown hat e12 f12 c12 c12b;have HGS:=hD hgs;clear hgs;refine bodyPost_end (results_none rfl _ _ _) rfl ⟨rfl,_,HGS.out.1,HS4.out.trans HGS.out.2,?_⟩;obtain⟨n1,n2,n3,n4⟩:=HN4.out;exact⟨by show(x4.s++[_]).length=_;rw[List.length_append,n1];rfl,n2,n3,n4⟩
theorem push_end {F:Fx} {w w1 w2:World} {x x1:St} {t:Int} {v:Value} {ds dc:Nat} (hs:Wv F w x w1 x1) (hn:Num x x1 ds dc) (hgs:WD F w2 { x1 with sv:=v,s:=x1.s++[t] }∧Wv F w1 x1 w2 { x1 with sv:=v,s:=x1.s++[t] }) (R:St→Prop)
 (hR:∀ y,Num x y (ds+1) dc→R y):GPost F w x (.tuple #[]) R (.returned (.tuple #[])) w2:=by
 obtain⟨n1,n2,n3,n4⟩:=hn;exact⟨rfl,_,hgs.1,hs.trans hgs.2,hR _ ⟨by show(x1.s++[_]).length=_;rw[List.length_append,n1];rfl,n2,n3,n4⟩⟩
theorem value_any {F:Fx} {w:World} {x:St} (h:WD F w x) (t:Int) (hm:Vs x 880000) :
 Calls Tryz.prog 27 #[.pointer (some ⟨F.G,0,none⟩),.int .i64 t] w (GPost F w x (.tuple #[]) (fun x'=>Num x x' 1 1)):=by
 have c0:=h.c0;have H:=hD h;clear h;go_enter Tryz.func27,Tryz.ntmps27;go_wp2_with fail
 go_at_call 9;refine(WA H.out 3 (by omega) (by omega)).mono ?_;rintro e w1 ⟨r1,hr1,rfl,x1,hg1,hs1,hn1⟩;have hm1:=hm.num hn1;have H1:=hD hg1;have HS1:=hD hs1;have HN1:=hD hn1;clear hg1 hs1 hn1 H;by_cases h0:r1=0
 ·subst h0;obtain⟨A,c,hlov,_,_⟩:=H1.out.reads.loc.1.form;have hl0:=H1.out.reads.loc.2;have HLOC:=fun (wy:World) (y:St) (hy:WD F wy y)=>hy.reads.loc.1;rw[hlov]at HLOC;have HLV:=hD hlov;have HL:=hD HLOC;clear HLOC hlov;generalize hln:F.lo.length=n at *;have HLN:=hD hln;clear hln;replace c0:=H1.out.c0;go_wp2_with fail
  go_loopw [4,5] (fun i _ wr=>∃ (k:Nat) (y:St),k≤n∧i=.int .i64 (k:Int)∧Hid (WD F wr y)∧Hid (Wv F w x wr y)∧Hid (Num x y 0 0)) (fun i _ _=>n - (intOf i).toNat)
  case atStart=>exact⟨0,x1,nZ _,rfl,H1,HS1,HN1⟩
  case round =>
   clear c0 hm1 H1 HS1 HN1;obtain⟨k,y,hk,rfl,HY,HSY,HNY⟩:=hrel;have hmy:=hm.num HNY.out;have c0:=HY.out.c0;have c9:=HY.out.c9;rw[HLV.out]at c9;by_cases hlt:k<n
   ·have hkn:(0:Int)≤k:=Int.natCast_nonneg _;have hn0:((n:Int)==0)=false:=by simp;omega
    have hn1:¬ (n:Int)=0:=by omega
    have hn2:¬ n=0:=by omega
    have hn3:(0:Int)≤(n:Int):=by omega
    have hd:decide ((k:Int)<(n:Int))=true:=by simp;omega
    obtain⟨g,o,c2,he,_,_⟩:=(HL.out _ _ HY.out).some_ (by rw[HLN.out];omega);simp only[vI]at he;obtain⟨rfl,-,-⟩:=he;have HAT:Hid (∀ (wy:World) (y:St),WD F wy y→∀ j,j<n→wy.cell? ⟨g,o+j,none⟩=some (.int .i64 (F.lo.getD j 0))):=fun wy y hy j hj=>(HL.out wy y hy).at_ j hj;have HC9:Hid (∀ (wy:World) (y:St),WD F wy y→wy.cell? ⟨F.G,9,none⟩=some (.slice (some ⟨g,o,none⟩) n c)):=fun wy y hy=>by rw[hy.c9,HLV.out]
    go_wp2_with fail
    go_region_held3 (fun w'=>w'.cell? ⟨F.G,0,none⟩=some (.pointer (some ⟨F.T,0,none⟩))∧w'.cell? ⟨F.G,9,none⟩=some (.slice (some ⟨g,o,none⟩) n c))
     (first|go_keep|exact⟨hg2.c0,HC9.out _ _ hg2⟩)
     ((go_at_call 9;refine(WA HY.out.drew.1 3 (by omega) (by omega)).mono ?_;rintro e w2 ⟨r2,hr2,rfl,y2,hg2,hs2,hn2⟩;have e2:((k:Int)+(r2:Int)).tmod (n:Int)=((k:Int)+(r2:Int)) % (n:Int):=Int.tmod_eq_emod_of_nonneg (by omega);have e1:IntKind.i64.wrap ((k:Int)+(r2:Int))=(k:Int)+(r2:Int):=IntWalk.i64_in _ (by omega)))
    have hj:(k+r2) % n<n:=Nat.mod_lt _ (by omega);have hcell:=HAT.out _ _ hg2 ((k+r2) % n) hj;generalize F.lo.getD ((k+r2) % n) 0=z at hcell;have b1:(0:Int)≤((k:Int)+(r2:Int)) % (n:Int):=Int.emod_nonneg _ (by omega);have b2:((k:Int)+(r2:Int)) % (n:Int)<(n:Int):=Int.emod_lt_of_pos _ (by omega);have hm2:=hmy.num hn2;have H2:=hD hg2;have HS2:=hD (HSY.out.trans (HY.out.drew.2.trans hs2));have HN2:=hD (HNY.out.trans hn2);have c0':=hg2.c0;have c9':=hg2.c9;rw[HLV.out]at c9';clear hg2 hs2 hn2 HY HSY HNY c0 c9;by_cases hz:z=t
    ·have hd2:(z==t)=true:=by simpa using hz
     go_wp2_with fail
     go_at_call 14;refine(WU H2.out _ _ _ _ (hm2.le (by omega))).mono ?_;rintro e w4 ⟨rfl,x4,hg4,hs4,hn4⟩;have hm4:=(hm2.num hn4).s;have H4:=hD hg4;have HS4:=hD (HS2.out.trans hs4);have HN4:=hD (HN2.out.trans hn4);clear hg4 hs4 hn4 H2 HS2 HN2 c0' c9' hm2 hmy hcell;have c12:=H4.out.c12;have c12b:=(H4.out.pushf (.cells #[.int .i64 t] 3)).1;go_wp2_with (at_builtin;refine Wl rfl (.tmp 53) (.tmp 55) 22 3 rfl _ 1 8 Tryz.underlying22 Tryz.infoInt rfl (by decide) (by decide) x4.sv x4.s.length (x4.s.map (Value.int .i64)) (by rfl) (H4.out.so.alloc _) _ 1 [.int .i64 t] (by rfl) (by rfl) (WS w4 _ _ 1 1) (WP [t]) (by omega) ?_;intro v' w' hown hgr hat;obtain⟨e12,f12⟩:=(H4.out.pushf _).2 w' hgr;obtain⟨A',c',rfl⟩:=Wc hown)
     exact Zbu
    ·have hd2:(z==t)=false:=by simpa using hz
     go_wp2;go_roundw
     case rel=>exact⟨k+1,_,by omega,by go_num,H2,HS2,HN2⟩
     case measure=>simp[intOf];omega
   ·go_wp2_with (go_at_call 55;refine(constant_any HY.out t (hmy.le (by omega))).mono ?_;rintro e w2 ⟨rfl,x2,hg2,hs2,hn2⟩)
    refine bodyPost_end (results_none rfl _ _ _) rfl ⟨rfl,_,hg2,HSY.out.trans hs2,HNY.out.trans hn2⟩
 ·have hd0:((r1:Int)==0)=false:=by simp;omega
  by_cases h1:r1=1
  ·subst h1;obtain⟨g,o,c,hm4,hlc,hcm⟩:=H1.out.reads.globs.1.some_ (by rw[H1.out.reads.globs.2];omega);unfold maxLen at hcm;have HAT:Hid (∀ (wy:World) (y:St),WD F wy y→∀ j,j<4→wy.cell? ⟨g,o+j * 3,none⟩=some (.int .i64 (F.gs.getD j 0))):=fun wy y hy j hj=>by
    have h2:=hy.reads.globs.1;rw[hm4]at h2;exact h2.at_ j (by rw[hy.reads.globs.2];exact hj) (by omega)
   rw[H1.out.reads.globs.2]at hm4 hlc;have HC5:Hid (∀ (wy:World) (y:St),WD F wy y→wy.cell? ⟨F.G,5,none⟩=some (.slice (some ⟨g,o,none⟩) 4 c)):=fun wy y hy=>by rw[hy.c5,hm4]
   clear hm4;go_wp2_with fail
   go_loopw [6] (fun i wr=>∃ (k:Nat),k≤4∧i=.int .i64 (k:Int)∧wr=w1) (fun i _=>4 - (intOf i).toNat)
   case atStart=>exact⟨0,nZ _,rfl,rfl⟩
   case round =>
    obtain⟨k,hk,rfl,rfl⟩:=hrel;have c0:=H1.out.c0;have c5:=HC5.out _ _ H1.out;by_cases hlt:k<4
    ·have hkn:(0:Int)≤k:=Int.natCast_nonneg _;have hcell:=HAT.out _ _ H1.out k hlt;generalize F.gs.getD k 0=z at hcell;have hd:decide ((k:Int)<4)=true:=by simp;omega
     by_cases hz:z=t
     ·have hd2:(z==t)=true:=by simpa using hz
      go_wp2_with fail
      go_at_call 14;refine(WU H1.out _ _ _ _ (hm1.le (by omega))).mono ?_;rintro e w4 ⟨rfl,x4,hg4,hs4,hn4⟩;have hm4:=(hm1.num hn4).s;have H4:=hD hg4;have HS4:=hD (HS1.out.trans hs4);have HN4:=hD (HN1.out.trans hn4);clear hg4 hs4 hn4 H1 HS1 HN1 c0 c5 hm1 hcell;have c12:=H4.out.c12;have c12b:=(H4.out.pushf (.cells #[.int .i64 t] 3)).1;go_wp2_with (at_builtin;refine Wl rfl (.tmp 90) (.tmp 92) 22 3 rfl _ 1 8 Tryz.underlying22 Tryz.infoInt rfl (by decide) (by decide) x4.sv x4.s.length (x4.s.map (Value.int .i64)) (by rfl) (H4.out.so.alloc _) _ 1 [.int .i64 t] (by rfl) (by rfl) (WS w4 _ _ 1 1) (WP [t]) (by omega) ?_;intro v' w' hown hgr hat;obtain⟨e12,f12⟩:=(H4.out.pushf _).2 w' hgr;obtain⟨A',c',rfl⟩:=Wc hown)
      exact Zbu
     ·have hd2:(z==t)=false:=by simpa using hz
      go_wp2;go_roundw
      case rel=>exact⟨k+1,by omega,by go_num,trivial⟩
      case measure=>simp[intOf];omega
    ·have hd:decide ((k:Int)<4)=false:=by simp;omega
     exact Zbp
  ·have hd1:((r1:Int)==1)=false:=by simp;omega
   exact Zbp
end
section
open Go.RowKit
set_option maxHeartbeats 1000000
set_option maxRecDepth 100000
theorem ZW {P:Prop}(h:P:=by
 have hs:=h.so;obtain⟨g,c,he,h1,h2⟩:∃ g c:Nat,x.sv=.slice (some ⟨g,0,none⟩) x.s.length c∧x.s.length≤c∧c≤maxLen:=by
  rcases hs.2 with ⟨_,h2⟩|⟨g,cap,cur,h1,_,_,h2,h3,_⟩
  ·omega
  ·exact⟨g,cap,h1,h2,h3⟩
 rw[he]at hs;refine⟨g,c,he,h1,h2,(hs.lt g rfl).2,fun j hj=>?_⟩;rw[hs.cellAt j (by rw[Nat.mul_one];exact hj)];simp[hj]):P:=h
theorem Zb1 {P:Prop}(h:P:=by
 go_roundw
 case rel=>exact⟨k+1,x2,by omega,by go_num,H2,HS2,HN2⟩
 case measure=>simp[intOf];omega):P:=h
def TopPost (m ht S:Nat) (w:World) (e:Ending) (w':World):Prop:=∃ b:Bool,e=.returned (.bool b)∧(b=true→ht+m≤S)∧Below w.heap.size w w'
theorem WD.scell {F:Fx} {w:World} {x:St} (h:WD F w x) (h0:0<x.s.length):∃ g c:Nat,x.sv=.slice (some ⟨g,0,none⟩) x.s.length c∧x.s.length≤c∧c≤maxLen∧g<w.heap.size∧∀ j,j<x.s.length→w.cell? ⟨g,j,none⟩=some (.int .i64 (x.s.getD j 0)):=by
 exact ZW
theorem top_any {F:Fx} {w:World} {x:St} (h:WD F w x) (v:Value) (q:List Int) (hv:Wg (Ud F w x) w v q) (hq:q.length≤3) (ht:Nat) (hh:ht≤1000000) (hm:Vs x 900000) :
 Calls Tryz.prog 26 #[.pointer (some ⟨F.G,0,none⟩),v,.int .i64 (ht:Int)] w (TopPost q.length ht x.s.length w):=by
 have c12:=h.c12;have hms:=hm.s;obtain⟨As,cs,hsv,hsc,_⟩:=h.sform;obtain⟨A,c,hlv,_,_⟩:=hv.form;have HS:=fun h0=>h.scell h0;have HV:=hv;rw[hlv]at HV ⊢;have HVS:=hD hsv;rw[hsv]at c12 HS;have HHS:=hD HS;have HHV:=hD HV;clear hlv hv HV h hm HS hsv;generalize hQ:q.length=m at *;generalize hX:x.s.length=S at *;have HQ:=hD hQ;have HX:=hD hX;clear hQ hX;have e0:IntKind.i64.wrap ((S:Int) - (ht:Int))=(S:Int) - (ht:Int):=IntWalk.i64_in _ (by omega);by_cases hlt:S<ht+m
 ·have hd:decide ((S:Int) - (ht:Int)<(m:Int))=true:=by simp;omega
  go_enter Tryz.func26,Tryz.ntmps26;go_wp2;go_ret;exact⟨false,rfl,(fun h=>by cases h),bR _ _⟩
 ·have hd:decide ((S:Int) - (ht:Int)<(m:Int))=false:=by simp;omega
  obtain⟨d,hdS⟩:∃ d:Nat,S=d+m:=⟨S - m,by omega⟩;have e1:IntKind.i64.wrap ((S:Int) - (m:Int))=(d:Int):=by rw[show(S:Int) - (m:Int)=(d:Int) by omega];exact IntWalk.i64_in _ (by omega)
  have HD:=hD hdS;clear hdS;go_enter Tryz.func26,Tryz.ntmps26;go_wp2_with fail
  go_loopw [7] (fun i wr=>∃ k a:Nat,k≤m∧i=.int .i64 (k:Int)∧wr=w.drewN a) (fun i _=>m - (intOf i).toNat)
  case atStart=>exact⟨0,0,nZ _,rfl,rfl⟩
  case round =>
   obtain⟨k,a,hk,rfl,rfl⟩:=hrel;by_cases hkm:k<m
   ·have hDS:=HD.out;have hkn:(0:Int)≤k:=Int.natCast_nonneg _;have hd2:decide ((k:Int)<(m:Int))=true:=by simp;omega
    obtain⟨g,c',he,_,_,_,hcs⟩:=HHS.out (by omega);simp only[vI]at he;obtain⟨rfl,-,-⟩:=he;obtain⟨gl,ol,c2,he,_,_⟩:=HHV.out.some_ (by rw[HQ.out];omega);simp only[vI]at he;obtain⟨rfl,-,-⟩:=he;have k1:=hcs (d+k) (by omega);have k2:=HHV.out.at_ k (by omega);generalize x.s.getD (d+k) 0=z at k1;generalize q.getD k 0=y at k2;have e2:IntKind.i64.wrap ((d:Int)+(k:Int))=(d:Int)+(k:Int):=IntWalk.i64_in _ (by omega);have e3:(0:Int)≤(d:Int)+(k:Int):=by omega
    have e4:(d:Int)+(k:Int)<(S:Int):=by omega
    have e5:((d:Int)+(k:Int)).toNat=d+k:=by omega
    clear hDS hcs;go_wp2_with fail
    go_quiet (fail)
    by_cases hzy:z=y
    ·have hd3:(z != y)=false:=by simpa using hzy
     go_wp2;go_roundw
     case rel=>exact⟨k+1,_,by omega,by go_num,rfl⟩
     case measure=>simp[intOf];omega
    ·have hd3:(z != y)=true:=by simpa using hzy
     go_wp2;go_ret;exact⟨false,rfl,(fun h=>by cases h),Wj (Wj (bR _ _) _) _⟩
   ·have hd2:decide ((k:Int)<(m:Int))=false:=by simp;omega
    go_wp2;go_ret;exact⟨true,rfl,fun _=>by omega,Wj (bR _ _) _⟩
theorem Uo {F:Fx} {w:World} {x:St} (h:WD F w x) (v:Value) (q:List Int) (hv:Wg (Ud F w x) w v q) (hq:q.length≤3) (ht:Nat) (hh:ht≤x.s.length) (hm:Vs x 870000) :
 Calls Tryz.prog 47 #[.pointer (some ⟨F.G,0,none⟩),v,.int .i64 (ht:Int)] w (GPost F w x (.tuple #[]) (fun x'=>Up x x' 6∧ht+q.length≤x'.s.length)):=by
 have T:=top_any h v q hv hq ht (by have:=hm.s;omega) (hm.le (by omega));have H:=hD h;have HT:=hD T;obtain⟨A,c,hlv,_,_⟩:=hv.form;have HV:=hv;rw[hlv]at HV;have HHV:=hD HV;have HLV:=hD hlv;have HH:=hD hh;rw[hlv]at HT ⊢;clear h T hv HV hh hlv;generalize hQ:q.length=m at *;have HQ:=hD hQ;clear hQ;go_enter Tryz.func47,Tryz.ntmps47;go_wp2_with fail
 go_at_call 26;refine HT.out.mono ?_;rintro e w1 ⟨b,rfl,hb,hbel⟩;obtain⟨hg1,hs1⟩:=H.out.below hbel;have HB:=hD hb;have H1:=hD hg1;have HS1:=hD hs1;clear hb hg1 hs1 hbel HT;cases b with
 | true =>
  go_wp2;refine bodyPost_ret (results_none rfl _ _ _) rfl ⟨rfl,_,H1.out,HS1.out,(Up.refl x).le (by omega),HB.out trivial⟩
 | false =>
  go_wp2_with fail
  go_loopw [6] (fun i wr=>∃ (k:Nat) (y:St),k≤m∧i=.int .i64 (k:Int)∧Hid (WD F wr y)∧Hid (Wv F w x wr y)∧Hid (Num x y k k)) (fun i _=>m - (intOf i).toNat)
  case atStart=>exact⟨0,x,nZ _,rfl,H1,HS1,hD ⟨rfl,rfl,rfl,rfl⟩⟩
  case round =>
   clear H1 HS1;obtain⟨k,y,hk,rfl,HY,HSY,HNY⟩:=hrel;have hmy:=hm.num HNY.out;by_cases hlt:k<m
   ·have hkn:(0:Int)≤k:=Int.natCast_nonneg _;have hd:decide ((k:Int)<(m:Int))=true:=by simp;omega
    obtain⟨gl,ol,c2,he,_,_⟩:=HHV.out.some_ (by rw[HQ.out];omega);simp only[vI]at he;obtain⟨rfl,-,-⟩:=he;have k2:=(HSY.out.ints HHV.out).at_ k (by omega);generalize q.getD k 0=z at k2;go_wp2_with (go_at_call 27;refine(value_any HY.out z (hmy.le (by omega))).mono ?_;rintro e w2 ⟨rfl,x2,hg2,hs2,hn2⟩;have H2:=hD hg2;have HS2:=hD (HSY.out.trans hs2);have HN2:=hD (HNY.out.trans hn2);clear hg2 hs2 hn2)
    exact Zb1
   ·have hd:decide ((k:Int)<(m:Int))=false:=by simp;omega
    obtain rfl:k=m:=by omega
    go_wp2;refine bodyPost_end (results_none rfl _ _ _) rfl ⟨rfl,_,HY.out,HSY.out,HNY.out.up.le (by omega),?_⟩;have h1:=HNY.out.1;have h2:=HH.out;rw[h1];omega
end
section
open Go.RowKit
set_option maxHeartbeats 2000000
set_option maxRecDepth 100000
theorem swap_any {F:Fx} {w:World} {x:St} (h:WD F w x) (v1 v2:Value) (q1 q2:List Int) (hv1:Wg (Ud F w x) w v1 q1) (hv2:Wg (Ud F w x) w v2 q2) (hq:q1.length≤x.s.length) (hq2:q2.length≤3) (hm:Vs x 900000) :
 Calls Tryz.prog 48 #[.pointer (some ⟨F.G,0,none⟩),v1,v2] w (GPost F w x (.tuple #[]) (fun x'=>x'.s.length+q1.length=x.s.length+q2.length∧x'.c.length=x.c.length∧x'.nl=x.nl∧x'.left=x.left)):=by
 have hms:=hm.s;obtain⟨As,cs,hsv,hsc,_⟩:=h.sform;obtain⟨A1,c1,hl1,_,_⟩:=hv1.form;obtain⟨A2,c2,hl2,_,_⟩:=hv2.form;obtain⟨d,hdS⟩:∃ d:Nat,x.s.length=d+q1.length:=⟨x.s.length - q1.length,by omega⟩;have c12:=h.c12;have c12b:=(h.pushf (.cells #[] 3)).1;have HN1:Hid (VG (w.alloc (.cells #[] 3)) (.slice As d cs) d ((x.s.take d).map (Value.int .i64))):=h.snews (.alloc w (fun _ h=>h) _) hsv (by omega);have HN2:Hid (∀ w1,Wf (fun k=>k<w.heap.size) w w1→VG w1 (.slice A2 q2.length c2) q2.length (q2.map (Value.int .i64))):=fun w1 hk=>by rw[← hl2];exact hv2.news_at (fun k hk=>hk.1) hk
 have HLT:Hid ((x.s.take d).length=d):=by rw[Hid,List.length_take];omega
 rw[hl1,hl2];rw[hsv]at c12 c12b;have H:=hD h;have HSV:=hD hsv;clear h hv1 hv2 hl1 hl2 hm hsv;generalize hX:x.s.length=S at *;generalize hQ1:q1.length=m1 at *;generalize hQ2:q2.length=m2 at *;have HX:=hD hX;have HQ1:=hD hQ1;have HQ2:=hD hQ2;clear hX hQ1 hQ2;have e1:IntKind.i64.wrap ((S:Int) - (m1:Int))=(d:Int):=by rw[show(S:Int) - (m1:Int)=(d:Int) by omega];exact IntWalk.i64_in _ (by omega)
 have HD:=hD hdS;have hdl:d≤S:=by omega
 have hdc:d≤cs:=by omega
 have hdc2:(d:Int)≤(cs:Int):=by omega
 clear hdS;go_enter Tryz.func48,Tryz.ntmps48;go_wp2_with fail
 go_region_law (first
  | (refine Wb rfl (.tmp 7) (.tmp 20) 22 3 rfl _ 1 8 Tryz.underlying22 Tryz.infoInt rfl (by decide) (by decide) (.slice (some ⟨w.heap.size,0,none⟩) 0 0) 0 [] (by rfl) (owns_drew (Ue w _)) _ d ((x.s.take d).map (Value.int .i64)) (by rfl) (by rw[List.length_map,HLT.out,Nat.mul_one]) (news_drew HN1.out) (WP _) (by omega) ?_;intro u1 w1 ho1 hg1 ha1;simp only[Nat.zero_add,List.nil_append]at ho1;have hk1:=keeps_made (grown_drew hg1);obtain⟨B1,k1,rfl⟩:=Wc ho1)
  | (refine Wb rfl (.tmp 21) (.tmp 22) 22 3 rfl _ 1 8 Tryz.underlying22 Tryz.infoInt rfl (by decide) (by decide) _ _ _ (by rfl) ho1 _ m2 (q2.map (Value.int .i64)) (by rfl) (by rw[List.length_map,HQ2.out,Nat.mul_one]) (HN2.out _ hk1) (WP _) (by omega) ?_;intro u2 w2 ho2 hg2 ha2;have hk2:=keeps_made2 (o:=.cells #[] 3) hk1 ha1 hg2;obtain⟨e12,f12⟩:=H.out.store12 hk2;obtain⟨B2,k2,rfl⟩:=Wc ho2))
 all_goals
  have hsl:(x.s.take d++q2).length=d+m2:=by rw[List.length_append,HLT.out,HQ2.out]
  have ho:w2.ownsRow 0 3 1 (.slice B2 (d+m2) k2) (x.s.take d++q2).length ((x.s.take d++q2).map (Value.int .i64)):=by rw[hsl,List.map_append];exact ho2
  have hgs:=H.out.setS (hk2.mono fun _ h=>h.1) _ _ ho (.inr (made_at hk1 ha1 ha2));have HGS:=hD hgs;have HSL:=hD hsl;clear hgs hsl ho;go_wp2;refine bodyPost_end (results_none rfl _ _ _) rfl ⟨rfl,_,HGS.out.1,HGS.out.2,?_,rfl,rfl,rfl⟩;show(x.s.take d++q2).length+_=_;rw[HSL.out];have:=HD.out;omega
end
section
open Go.RowKit
set_option maxHeartbeats 2000000
set_option maxRecDepth 100000
theorem WD.pop {F:Fx} {w:World} {x:St} (h:WD F w x) {A:Option Addr} {c d:Nat} (hs:x.sv=.slice A x.s.length c) (hd:d≤x.s.length) :
 WD F (w.setCell ⟨F.G,12,none⟩ (.slice A d c)) { x with sv:=.slice A d c,s:=x.s.take d }∧Wv F w x (w.setCell ⟨F.G,12,none⟩ (.slice A d c)) { x with sv:=.slice A d c,s:=x.s.take d }:=by
 have hl:(x.s.take d).length=d:=by rw[List.length_take];omega
 refine h.setS (.refl _ _) _ _ ?_ (.inl (by rw[hs];cases A <;> rfl))
 rw[hl];rcases h.so.2 with ⟨h1,h2⟩|⟨g,cap,cur,h1,_⟩
 ·rw[hs]at h1;simp only[vI]at h1;obtain⟨rfl,h3,rfl⟩:=h1;obtain rfl:d=0:=by omega
  simpa using World.ownsRow_nil w 0 _ 1
 ·rw[hs]at h1;simp only[vI]at h1;obtain⟨rfl,_,rfl⟩:=h1;have h0:=h.so;rw[hs]at h0;have h4:=owns_cut h0 hd
  rwa [Nat.mul_one,← List.map_take]at h4
def Just (x x':St) (n d:Nat):Prop:=x'.s.length=n∧x'.s.length+x'.c.length≤x.s.length+x.c.length+d∧x'.nl=x.nl∧x'.left=x.left
theorem Just.most {x x':St} {B n d:Nat} (hn:Just x x' n d) (h:Vs x B):Vs x' (B+d):=by
 exact Zb6
def slenW (G:Nat) (w:World):Nat:=match w.cell? ⟨G,12,none⟩ with|some (.slice _ n _)=>n|_=>0
theorem shape_any {F:Fx} {w:World} {x:St} (h:WD F w x) (v:Value) (q:List Int) (hv:Wg (Ud F w x) w v q) (hq:q.length≤3) (ht:Nat) (hh:ht≤x.s.length) (hm:Vs x 870000) :
 Calls Tryz.prog 13 #[.pointer (some ⟨F.G,0,none⟩),v,.int .i64 (ht:Int)] w (GPost F w x (.tuple #[]) (fun x'=>Just x x' (ht+q.length) 6)):=by
 have T:=top_any h v q hv hq ht (by have:=hm.s;omega) (hm.le (by omega));have hms:=hm.s;obtain⟨As,cs,hsv,hsc,_⟩:=h.sform;have c12:=h.c12;rw[hsv]at c12;have H:=hD h;have HT:=hD T;obtain⟨A,c,hlv,_,_⟩:=hv.form;have HV:=hv;rw[hlv]at HV;have HHV:=hD HV;rw[hlv]at HT ⊢;have HSV:=hD hsv;clear h T hv HV hlv hsv;generalize hQ:q.length=m at *;generalize hX:x.s.length=S at *;have HQ:=hD hQ;have HX:=hD hX;clear hQ hX;have e1:IntKind.i64.wrap ((S:Int) - (ht:Int))=(S:Int) - (ht:Int):=IntWalk.i64_in _ (by omega);go_enter Tryz.func13,Tryz.ntmps13;by_cases hne:S=ht+m
 case' pos =>
  have hd:(((S:Int) - (ht:Int))==(m:Int))=true:=by simp;omega
  go_wp2_with fail
  go_at_call 26;refine HT.out.mono ?_;rintro e w1 ⟨b,rfl,_,hbel⟩;obtain⟨hg1,hs1⟩:=H.out.below hbel;have H1:=hD hg1;have HS1:=hD hs1;clear hg1 hs1 hbel HT c12;cases b
  case' true =>
   go_wp2;refine bodyPost_ret (results_none rfl _ _ _) rfl ⟨rfl,_,H1.out,HS1.out,by rw[HX.out];exact hne,by omega,rfl,rfl⟩
 case' neg =>
  have hd:(((S:Int) - (ht:Int))==(m:Int))=false:=by simp;omega
  have H1:=H;have HS1:=hD (Wv.refl F w x);clear HT c12;have c12:=H1.out.c12;rw[HSV.out]at c12
 all_goals
  go_wp2_with fail
  clear e1 hd;try clear c12
  go_loopw [23] (fun _ wr=>∃ y:St,Hid (WD F wr y)∧Hid (Wv F w x wr y)∧ht≤y.s.length∧Hid (y.s.length+y.c.length≤x.s.length+x.c.length∧y.nl=x.nl∧y.left=x.left)) (fun _ wr=>slenW F.G wr)
  case atStart=>exact⟨x,H1,HS1,by rw[HX.out];omega,hD ⟨nR _,rfl,rfl⟩⟩
  case round =>
   clear H1 HS1;obtain⟨y,HY,HSY,hty,HZ⟩:=hrel;obtain⟨Ay,cy,hsy,hcy,_⟩:=HY.out.sform;have c12:=HY.out.c12;rw[hsy]at c12;have HC12:=hD c12;have HSLY:=hD hsy;clear hsy;have hmy:Vs y 870000:=by have h1:=HZ.out.1;unfold Vs at hm ⊢;omega
   have hmys:=hmy.s;generalize hYS:y.s.length=Y at *;have HYS:=hD hYS;clear hYS;by_cases hlt:ht<Y
   ·have hd:decide ((ht:Int)<(Y:Int))=true:=by simp;omega
    obtain⟨d,hdY⟩:∃ d:Nat,Y=d+1:=⟨Y - 1,by omega⟩;go_wp2_with fail
    go_at_call 14;refine(WU HY.out _ _ _ _ (hmy.le (by omega))).mono ?_;rintro e w2 ⟨rfl,x2,hg2,hs2,hn2⟩;have hm2:=hmy.num hn2;obtain⟨A2,c2,h2v,h2c,_⟩:=hg2.sform;have hl2:x2.s.length=Y:=by rw[hn2.1,HYS.out,Nat.add_zero]
    have c12':=hg2.c12;have f12':=hg2.frozen 12;rw[h2v,hl2]at c12';rw[hl2]at h2c;have hpop:=hg2.pop (d:=d) h2v (by omega);have HP:=hD hpop;have HS2:=hD (HSY.out.trans hs2);have HN2:=hD hn2;have HL2:=hD hl2;have HDY:=hD hdY;have e1:IntKind.i64.wrap ((Y:Int) - 1)=(d:Int):=by rw[show(Y:Int) - 1=(d:Int) by omega];exact IntWalk.i64_in _ (by omega)
    have hdc:d≤c2:=by omega
    clear hpop h2v hl2 hdY hg2 hs2 hn2 c12 HY HSY;go_wp2_with fail
    go_region
    go_wp2;have hl3:(x2.s.take d).length=d:=by rw[List.length_take,HL2.out];have:=HDY.out;omega
    go_roundw
    case rel =>
     refine⟨_,HP.out.1.drew.1,HS2.out.trans (HP.out.2.trans HP.out.1.drew.2),?_,?_⟩
     ·show ht≤(x2.s.take d).length;rw[hl3];have:=HDY.out;omega
     ·obtain⟨z1,z2,z3⟩:=HZ.out;obtain⟨n1,n2,n3,n4⟩:=HN2.out;refine⟨?_,n3.trans z2,n4.trans z3⟩;show(x2.s.take d).length+x2.c.length≤_;rw[hl3,n2];have:=HDY.out;have:=HYS.out;omega
    case measure =>
     have m1:=HP.out.1.drew.1.c12;have m2:=HC12.out;have:=HDY.out;unfold slenW;rw[m1,m2];show d<Y;omega
   ·have hd:decide ((ht:Int)<(Y:Int))=false:=by simp;omega
    obtain rfl:Y=ht:=by omega
    have hx:=HSY.out.ints HHV.out;have HX2:=hD hx;clear hx HC12;go_wp2_with fail
    clear hd c12;go_loopw [6] (fun i wr=>∃ (k:Nat) (z:St),k≤m∧i=.int .i64 (k:Int)∧Hid (WD F wr z)∧Hid (Wv F w x wr z)∧Hid (Num y z k k)) (fun i _=>m - (intOf i).toNat)
    case atStart=>exact⟨0,y,nZ _,rfl,HY,HSY,hD ⟨rfl,rfl,rfl,rfl⟩⟩
    case round =>
     clear HY HSY HX2;obtain⟨k,z,hk,rfl,HZ1,HSZ,HNZ⟩:=hrel;have hmz:=hmy.num HNZ.out;by_cases hlt2:k<m
     ·have hkn:(0:Int)≤k:=Int.natCast_nonneg _;have hd:decide ((k:Int)<(m:Int))=true:=by simp;omega
      obtain⟨gl,ol,c2,he,_,_⟩:=HHV.out.some_ (by rw[HQ.out];omega);simp only[vI]at he;obtain⟨rfl,-,-⟩:=he;have k2:=(HSZ.out.ints HHV.out).at_ k (by omega);generalize q.getD k 0=t at k2;go_wp2_with (go_at_call 27;refine(value_any HZ1.out t (hmz.le (by omega))).mono ?_;rintro e w2 ⟨rfl,x2,hg2,hs2,hn2⟩;have H2:=hD hg2;have HS2:=hD (HSZ.out.trans hs2);have HN2:=hD (HNZ.out.trans hn2);clear hg2 hs2 hn2)
      exact Zb1
     ·have hd:decide ((k:Int)<(m:Int))=false:=by simp;omega
      obtain rfl:k=m:=by omega
      go_wp2;obtain⟨n1,n2,n3,n4⟩:=HNZ.out;obtain⟨z1,z2,z3⟩:=HZ.out;have h9:=HYS.out;refine bodyPost_end (results_none rfl _ _ _) rfl ⟨rfl,_,HZ1.out,HSZ.out,by rw[n1,h9],by omega,n3.trans z2,n4.trans z3⟩
end
section
open Go.RowKit
set_option maxHeartbeats 2000000
set_option maxRecDepth 100000
theorem lit6 (r:Nat) (hr:r<6):∃ v:Int,#[Value.int .i64 26,.int .i64 106,.int .i64 160,.int .i64 124,.int .i64 192,.int .i64 69][r]?=some (.int .i64 v)∧plain v∧okB v 0 0 0 []=true:=by
 match r with
 | 0|1|2|3|4|5=>exact⟨_,rfl,plain_of (by decide),by decide +kernel⟩
theorem dead_any {F:Fx} {w:World} {x:St} (h:WD F w x) (ht:Nat) (hh:ht≤x.s.length) (hm:Vs x 870000) :
 Calls Tryz.prog 79 #[.pointer (some ⟨F.G,0,none⟩),.int .i64 (ht:Int)] w (GPost F w x (.tuple #[]) (fun x'=>Just x x' ht 2)):=by
 have hms:=hm.s;obtain⟨As,cs,hsv,hsc,_⟩:=h.sform;have c12:=h.c12;have f12:=h.frozen 12;rw[hsv]at c12;have hpop:=h.pop (d:=ht) hsv hh;have hl:(x.s.take ht).length=ht:=by rw[List.length_take];omega
 obtain⟨hg1,hs1⟩:=hpop;have hj1:Just x { x with sv:=.slice As ht cs,s:=x.s.take ht } ht 0:=⟨hl,by show(x.s.take ht).length+x.c.length≤_;omega,rfl,rfl⟩;have hm1:Vs { x with sv:=.slice As ht cs,s:=x.s.take ht } 870000:=hj1.most hm;have hhc:ht≤cs:=by omega
 clear h hsv hl;generalize hx1:({ x with sv:=.slice As ht cs,s:=x.s.take ht }:St)=x1 at *;clear hx1;have HG1:=hD hg1;have HS1:=hD hs1;have HJ1:=hD hj1;clear hg1 hs1 hj1;go_enter Tryz.func79,Tryz.ntmps79;have c0:=HG1.out.c0;go_wp2_with fail
 go_at_call 9;refine(WA HG1.out 4 (by omega) (by omega)).mono ?_;rintro e w2 ⟨r2,hr2,rfl,x2,hg2,hs2,hn2⟩;have c0':=hg2.c0;have HS2:=hD (HS1.out.trans hs2);have HN2:=hD hn2;have hm2:=hm1.num hn2;have H2:=hD hg2;have hal:=fun o=>(hg2.alloc o).1.c0;clear hg2 hs2 hn2 HG1 HS1 c0;by_cases h20:r2=0
 ·subst h20;go_wp2_with fail
  go_at_call 9;refine(WA (x:=x2) (H2.out.alloc _).1 6 (by omega) (by omega)).mono ?_;rintro e w3 ⟨r3,hr3,rfl,x3,hg3,hs3,hn3⟩;obtain⟨v,hv,hpl⟩:=lit6 r3 hr3;have HPL:=hD hpl;clear hpl;have hcv:=(H2.out.new_cell _ _ hs3 r3).trans hv;have HS3:=hD (HS2.out.trans ((H2.out.alloc _).2.trans hs3));have HN3:=hD (HN2.out.trans hn3);have hm3:=hm2.num hn3;have H3:=hD hg3;clear hg3 hs3 hn3 hv hal H2 HS2 HN2 c0';go_wp2_with fail
  go_at_call 14;refine(WU H3.out _ _ _ _ (hm3.le (by omega)) HPL.out.1 HPL.out.2).mono ?_;rintro e w4 ⟨rfl,x4,hg4,hs4,hn4⟩;have H4:=hD hg4;have HS4:=hD (HS3.out.trans hs4);have HN4:=hD (HN3.out.trans hn4);have hm4:=hm3.num hn4;clear hg4 hs4 hn4 H3 HS3 HN3 hcv;go_wp2_with fail
  go_at_call 14;refine(WU H4.out _ _ _ _ (hm4.le (by omega))).mono ?_;rintro e w5 ⟨rfl,x5,hg5,hs5,hn5⟩;go_wp2;obtain⟨n1,n2,n3,n4⟩:=HN4.out.trans hn5;obtain⟨j1,j2,j3,j4⟩:=HJ1.out;refine bodyPost_end (results_none rfl _ _ _) rfl ⟨rfl,_,hg5,HS4.out.trans hs5,by omega,by omega,n3.trans j3,n4.trans j4⟩
 ·have hd:((r2:Int)==0)=false:=by simp;omega
  go_wp2;obtain⟨n1,n2,n3,n4⟩:=HN2.out;obtain⟨j1,j2,j3,j4⟩:=HJ1.out;refine bodyPost_end (results_none rfl _ _ _) rfl ⟨rfl,_,H2.out,HS2.out,by omega,by omega,n3.trans j3,n4.trans j4⟩
end
section
open Go.RowKit
set_option maxHeartbeats 2000000
set_option maxRecDepth 100000
def V3 (x x':St) (ht d:Nat):Prop:=ht≤x'.s.length∧x'.s.length+x'.c.length≤x.s.length+x.c.length+d∧x'.nl=x.nl∧x'.left=x.left
theorem V3.refl {x:St} {ht:Nat} (h:ht≤x.s.length):V3 x x ht 0:=⟨h,nR _,rfl,rfl⟩
theorem V3.most {x x':St} {B ht d:Nat} (hn:V3 x x' ht d) (h:Vs x B):Vs x' (B+d):=by
 exact Zb6
theorem V3.trans {x y z:St} {a b d e:Nat} (h:V3 x y a d) (k:V3 y z b e):V3 x z b (d+e):=by
 obtain⟨_,h2,h3,h4⟩:=h;obtain⟨k1,k2,k3,k4⟩:=k;exact⟨k1,by omega,k3.trans h3,k4.trans h4⟩
theorem V3.le {x y:St} {ht d e:Nat} (h:V3 x y ht d) (hd:d≤e):V3 x y ht e:=⟨h.1,by have:=h.2.1;omega,h.2.2⟩
theorem V3.lower {x y:St} {a b d:Nat} (h:V3 x y a d) (hb:b≤a):V3 x y b d:=⟨Nat.le_trans hb h.1,h.2⟩
theorem Num.fine {x y:St} {a b ht:Nat} (h:Num x y a b) (hh:ht≤x.s.length):V3 x y ht (a+b):=by
 obtain⟨h1,h2,h3,h4⟩:=h;exact⟨by omega,by omega,h3,h4⟩
theorem Up.fine {x y:St} {d ht:Nat} (h:Up x y d) (hh:ht≤y.s.length):V3 x y ht d:=⟨hh,h.2⟩
theorem Just.fine {x y:St} {n d:Nat} (h:Just x y n d):V3 x y n d:=⟨Nat.le_of_eq h.1.symm,h.2⟩
theorem WD.labs {F:Fx} {w:World} {x:St} (h:WD F w x) (h0:0<x.nl):∃ g o c:Nat,x.lv=.slice (some ⟨g,o,none⟩) x.nl c∧x.nl≤c∧c≤maxLen∧∀ j,j<x.nl→∃ u l,w.cell? ⟨g,o+j,none⟩=some u∧l.length≤3∧Wg (Ud F w x) w u l:=by
 obtain⟨g,o,c,he,h1,h2⟩:=Wd.some_ h.reads.labs h0;refine⟨g,o,c,he,h1,h2,fun j hj=>?_⟩;have hl:=h.reads.labs;unfold LabsK at hl;rw[he]at hl;obtain⟨u,k1,l,k2,k3⟩:=hl.at_ j 0 hj (by omega);rw[Nat.mul_one,Nat.add_zero]at k1;exact⟨u,l,k1,k2,k3.wide⟩
theorem next_gen2 {F:Fx} {w:World} {x:St} (h:WD F w x) (n:Nat) (h0:0<n) (hn:n≤1073741824) :
 Calls Tryz.prog 9 #[.pointer (some ⟨F.T,0,none⟩),.int .i64 (n:Int)] w fun e w'=>∃ r:Nat,r<n∧e=.returned (.int .i64 (r:Int))∧∃ x',WD F w' x'∧Wv F w x w' x'∧Num x x' 0 0∧w'.cell? ⟨F.G,13,none⟩=w.cell? ⟨F.G,13,none⟩ :=
 (next_any (W9 F w x) F.T F.tv F.tl x.at_ n w h.ht h.reads.tape (fun hk=>hk.1.2 (.inr (.inl rfl))) h.le h0 hn).mono fun _ _ ⟨r,_,he,hr,hk,ht⟩=>⟨r,hr,he,_,(h.next ht hk).1,(h.next ht hk).2,⟨rfl,rfl,rfl,rfl⟩,World.cell?_of_block (ht.block F.G h.ne)⟩
theorem branchIf_any {F:Fx} {w:World} {x:St} (h:WD F w x) (ht:Nat) (hh:ht≤x.s.length) (hn:0<x.nl) (hn8:x.nl≤8) (hm:Vs x 860000) :
 Calls Tryz.prog 54 #[.pointer (some ⟨F.G,0,none⟩),.int .i64 (ht:Int)] w (GPost F w x (.tuple #[]) (fun x'=>V3 x x' ht 20)):=by
 obtain⟨g,o,c,hlv,hlc,hcm⟩:=h.labs hn;have c0:=h.c0;have c13:=h.c13;rw[hlv]at c13;unfold maxLen at hcm;have H:=hD h;have HLV:=hD hlv;have HH:=hD hh;clear h hlv hh;generalize hN:x.nl=n at *;have HN:=hD hN;clear hN;go_enter Tryz.func54,Tryz.ntmps54;go_wp2_with fail
 go_region_held3 (fun w'=>w'.cell? ⟨F.G,0,none⟩=some (.pointer (some ⟨F.T,0,none⟩))∧w'.cell? ⟨F.G,13,none⟩=some (.slice (some ⟨g,o,none⟩) n c))
  (first|go_keep|exact⟨hg1.c0,HC13.out⟩)
  ((go_at_call 9;refine(next_gen2 H.out.drew.1 n (by omega) (by omega)).mono ?_;rintro e w1 ⟨r1,hr1,rfl,x1,hg1,hs1,hn1,hc13⟩;have HC13:Hid (w1.cell? ⟨F.G,13,none⟩=some (.slice (some ⟨g,o,none⟩) n c)):=(by rw[Hid,hc13];exact c13);clear hc13))
 have H1:=hD hg1;have HS1:=hD (H.out.drew.2.trans hs1);have HN1:=hD hn1;have hm1:=hm.num hn1;obtain⟨j,hj⟩:∃ j:Nat,n=j+r1+1:=⟨n - r1 - 1,by omega⟩;obtain⟨g1,o1,c1,hlv1,_,_,hlab⟩:=hg1.labs (by rw[hn1.2.2.1,HN.out];omega);obtain⟨u,l,hu,hl3,hul⟩:=hlab j (by rw[hn1.2.2.1,HN.out];omega);have c13':=hg1.c13;rw[hlv1,hn1.2.2.1,HN.out]at c13';have he:=c13'.symm.trans HC13.out;simp only[Option.some.injEq,vI,Addr.mk.injEq,and_true,true_and]at he;obtain⟨⟨rfl,rfl⟩,rfl⟩:=he;clear hlab hlv1 hg1 hs1 hn1 c0 c13 HC13;obtain⟨Au,cu,hu2,_,_⟩:=hul.form;rw[hu2]at hu;have HUL:=hD hul;have HU2:=hD hu2;clear hul hu2;have e1:IntKind.i64.wrap ((n:Int) - 1)=(n:Int) - 1:=IntWalk.i64_in _ (by omega);have e2:IntKind.i64.wrap ((n:Int) - 1 - (r1:Int))=(j:Int):=by rw[show(n:Int) - 1 - (r1:Int)=(j:Int) by omega];exact IntWalk.i64_in _ (by omega)
 have hjn:(j:Int)<(n:Int):=by omega
 have HJ:=hD hj;clear hj;have hjn2:j<n:=by omega
 go_wp2_with fail
 go_quiet (fail)
 have hbd:∀ k,Below w1.heap.size w1 (w1.drewN k):=fun k=>Wj (bR _ _) k;have HBD:=hD hbd;clear hbd
 rename_i nq _
 obtain⟨hg2,hs2⟩:=H1.out.below (HBD.out nq);have hul2:=hs2.ints HUL.out;have HS2:=hD (HS1.out.trans hs2);rw[HU2.out]at hul2;go_wp2_with fail
 go_at_call 47;have hh1:ht≤x1.s.length:=by rw[HN1.out.1];exact HH.out
 refine(Uo hg2 _ l hul2 hl3 ht hh1 (hm1.le (by omega))).mono ?_;rintro e w3 ⟨rfl,x3,hg3,hs3,hup,hlen⟩;have hm3:=hm1.up hup;have hf3:=(HN1.out.fine HH.out).trans (hup.fine (ht:=ht) (by omega));have HS3:=hD (HS2.out.trans hs3);have HF3:=hD hf3;clear hg2 hs2 hul2 hup hf3 hs3 HS1 HS2 HN1 HUL HU2 hu c13';go_wp2_with fail
 go_at_call 27;refine(value_any hg3 127 (hm3.le (by omega))).mono ?_;rintro e w4 ⟨rfl,x4,hg4,hs4,hn4⟩;have hm4:=hm3.num hn4;have h41:ht+1≤x4.s.length:=by rw[hn4.1];have:=HF3.out.1;omega
 have HF4:=hD (HF3.out.trans (hn4.fine (ht:=ht) HF3.out.1));have HS4:=hD (HS3.out.trans hs4);clear hg3 hs4 hn4 HS3 HF3 hlen;go_wp2_with fail
 go_at_call 14;refine(WU hg4 _ _ _ _ (hm4.le (by omega))).mono ?_;rintro e w5 ⟨rfl,x5,hg5,hs5,hn5⟩;have hm5:=(hm4.num hn5).s;have h51:ht+1≤x5.s.length:=by rw[hn5.1];exact h41
 have HF5:=hD (HF4.out.trans (hn5.fine (ht:=ht) (by omega)));have HS5:=hD (HS4.out.trans hs5);clear hg4 hs5 hn5 HS4 HF4 h41;obtain⟨A5,c5,h5v,h5c,_⟩:=hg5.sform;obtain⟨d,hd5⟩:∃ d:Nat,x5.s.length=d+1:=⟨x5.s.length - 1,by omega⟩;have c12:=hg5.c12;have f12:=hg5.frozen 12;have hpop:=hg5.pop (d:=d) h5v (by omega);have hl5:(x5.s.take d).length=d:=by rw[List.length_take];omega
 rw[h5v]at c12;generalize hX:x5.s.length=X at *;have e3:IntKind.i64.wrap ((X:Int) - 1)=(d:Int):=by rw[show(X:Int) - 1=(d:Int) by omega];exact IntWalk.i64_in _ (by omega)
 have HP:=hD hpop;have HX:=hD hX;have HL5:=hD hl5;have HD5:=hD hd5;have hdc:d≤c5:=by omega
 clear hpop hX hl5 hd5 hg5 h5v;go_wp2_with fail
 go_region
 go_wp2;obtain⟨f1,f2,f3,f4⟩:=HF5.out;have hdd:=HD5.out;refine bodyPost_end (results_none rfl _ _ _) rfl ⟨rfl,_,HP.out.1.drew.1,HS5.out.trans (HP.out.2.trans HP.out.1.drew.2),?_,?_,f3,f4⟩
 ·show ht≤(x5.s.take d).length;rw[HL5.out];omega
 ·show(x5.s.take d).length+x5.c.length≤_;rw[HL5.out];have:=HX.out;omega
end
end Go.Proofs.YtepgopnnaeoolaaGreatDoor
