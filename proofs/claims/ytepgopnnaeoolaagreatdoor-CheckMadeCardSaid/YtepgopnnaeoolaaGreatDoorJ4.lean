/- A part of the proof. -/
import Derived.Test.YtepgopnnaeoolaaGreatDoorJ3
import Derived.Deep.RegionLaw
import Derived.BigRegion
import Derived.Deep.RegionHeld3
import Derived.Lib.UnsafeStr
namespace Go.Proofs.YtepgopnnaeoolaaGreatDoor
section
open Go.RowKit
set_option maxHeartbeats 1000000
def w30 (p:Int):Int:=if 0≤p∧p≤1073741824 then p else if p.tmod 1073741825<0 then p.tmod 1073741825+1073741825 else p.tmod 1073741825
theorem w30_bounds (p:Int):0≤w30 p∧w30 p≤1073741824:=by
 have t0:=Int.lt_tmod_of_pos p (show(0:Int)<1073741825 by omega);have t1:=Int.tmod_lt_of_pos p (show(0:Int)<1073741825 by omega);unfold w30
 split
 ·omega
 ·split <;> omega
theorem within30 (p:Int) (w:World):Calls Tryz.prog 24 #[.int .i64 p,.int .i64 0,.int .i64 1073741824] w fun e w'=>e=.returned (.int .i64 (w30 p))∧w'=w:=by
 have t0:=Int.lt_tmod_of_pos p (show(0:Int)<1073741825 by omega);have t1:=Int.tmod_lt_of_pos p (show(0:Int)<1073741825 by omega);have hbig:0≤p→w30 p=if p≤1073741824 then p else p % 1073741825:=fun h=>by
  unfold w30;rw[Int.tmod_eq_emod_of_nonneg h];by_cases h2:p≤1073741824
  ·rw[if_pos ⟨h,h2⟩,if_pos h2]
  ·rw[if_neg (by omega),if_neg (by omega),if_neg h2]
 have H0:0≤p→p≤1073741824→w30 p=p:=fun h h2=>by rw[hbig h,if_pos h2]
 have H3:0≤p→¬ p≤1073741824→w30 p=p % 1073741825:=fun h h2=>by rw[hbig h,if_neg h2]
 have H1:¬ 0≤p→p.tmod 1073741825<0→w30 p=p.tmod 1073741825+1073741825:=fun h1 h2=>by unfold w30;rw[if_neg (by omega),if_pos h2]
 have H2:¬ 0≤p→¬ p.tmod 1073741825<0→w30 p=p.tmod 1073741825:=fun h1 h2=>by unfold w30;rw[if_neg (by omega),if_neg h2]
 have HH0:=hD H0;have HH1:=hD H1;have HH2:=hD H2;have HH3:=hD H3;clear H0 H1 H2 H3 hbig;go_enter Tryz.func24,Tryz.ntmps24;by_cases hp:0≤p
 ·go_wp2
  all_goals go_ret
  all_goals refine⟨ret_int ?_,rfl⟩
  all_goals first
   | (rw[HH0.out (by omega) (by omega)];done)
   | (rw[HH3.out (by omega) (by omega)];done)
   | (rw[HH3.out (by omega) (by omega)];omega)
 ·go_wp2
  all_goals go_ret
  all_goals refine⟨ret_int ?_,rfl⟩
  all_goals first
   | (rw[HH1.out (by omega) (by omega)];done)
   | (rw[HH1.out (by omega) (by omega)];omega)
   | (rw[HH2.out (by omega) (by omega)];done)
   | (rw[HH2.out (by omega) (by omega)];omega)
def NextPost (T:Nat) (tv:Value) (m n:Nat) (w:World) (e:Ending) (w':World):Prop:=∃ r k':Nat,e=.returned (.int .i64 (r:Int))∧r<n∧k'≤m∧TapeTo T w w' tv k'
theorem next_any (K:Nat→Prop) (T:Nat) (tv:Value) (tl:List Int) (k n:Nat) (w:World) (hT:w.heap[T]?=some (.cells #[tv,.int .i64 (k:Int)] 49 (0,0))) (hrow:Wg K w tv tl) (hKT:¬ K T) (hk:k≤tl.length) (h0:0<n) (hn:n≤1073741824) :
 Calls Tryz.prog 9 #[.pointer (some ⟨T,0,none⟩),.int .i64 (n:Int)] w (NextPost T tv tl.length n w):=by
 obtain⟨A,c,rfl,h1,hnil,h3⟩:=hrow;have hc0:w.cell? ⟨T,0,none⟩=some (.slice A tl.length c):=by simp[World.cell?,hT]
 have hc1:w.cell? ⟨T,1,none⟩=some (.int .i64 (k:Int)):=by simp[World.cell?,hT]
 have hf1:w.frozen? ⟨T,1,none⟩=false:=by simp[World.frozen?,hT]
 have hTT:=hD hT;generalize hm:tl.length=m at *;have hmc:m≤9223372036854775807:=by unfold maxLen at h1;omega
 have HM:=hD hm;clear hT hnil h1 hm;by_cases hlt:k<m
 ·obtain⟨g,o,rfl,hKg,hcell⟩:=h3 (by omega);have hd:decide ((m:Int)≤(k:Int))=false:=by simp;omega
  have hgT:g≠T:=fun e=>hKT (e ▸ hKg);have hck:=hcell k hlt;generalize tl.getD k 0=x at hck;have hx:=w30_bounds x;have hW:=fun w=>within30 x w;generalize w30 x=y at hx hW;have HW:=hD hW;clear hcell h3 hW;have hk0:(0:Int)≤k:=Int.natCast_nonneg _;have hn0:((n:Int)==0)=false:=by simp;omega
  have hk1:IntKind.i64.wrap ((k:Int)+1)=(k:Int)+1:=IntWalk.i64_in _ (by omega);have hk2:IntKind.i64.wrap ((k:Int)+1 - 1)=(k:Int):=by rw[show(k:Int)+1 - 1=k by omega];exact IntWalk.i64_in _ (by omega)
  go_enter Tryz.func9,Tryz.ntmps9;go_wp2_with fail
  go_quiet (fail)
  rename_i nq _
  go_wp2_with fail
  have ht1:TapeTo T w ((w.drewN nq).setCell ⟨T,1,none⟩ (.int .i64 ((k:Int)+1))) (.slice (some ⟨g,o,none⟩) m c) (k+1) :=
   ⟨rfl,rfl,rfl,by simp[World.setCell],fun b hb=>Below.heap_setCell _ _ _ _ hb,by rw[Wh (w.drewN nq) T 1 _ _ _ hTT.out];simp⟩
  have hc0':((w.drewN nq).setCell ⟨T,1,none⟩ (.int .i64 ((k:Int)+1))).cell? ⟨T,0,none⟩=some (.slice (some ⟨g,o,none⟩) m c):=by simp[World.cell?,ht1.at_]
  have hc1':((w.drewN nq).setCell ⟨T,1,none⟩ (.int .i64 ((k:Int)+1))).cell? ⟨T,1,none⟩=some (.int .i64 ((k:Int)+1)):=by simp[World.cell?,ht1.at_]
  have hck':((w.drewN nq).setCell ⟨T,1,none⟩ (.int .i64 ((k:Int)+1))).cell? ⟨g,o+k,none⟩=some (.int .i64 x):=(World.cell?_of_block (w:=w) (ht1.block g hgT)).trans hck;clear hc0 hc1 hck hf1 hTT;generalize (w.drewN nq).setCell ⟨T,1,none⟩ (.int .i64 ((k:Int)+1))=w1 at *;have HT1:=hD ht1;clear ht1;go_quiet ((go_at_call 24;exact Calls.quiet_of_same (HW.out _)))
  go_wp2;go_ret;have hnn:(0:Int)<n:=by omega
  have m0:=Int.emod_nonneg y (show(n:Int)≠0 by omega);have m1:=Int.emod_lt_of_pos y hnn;exact⟨(y % n).toNat,k+1,ret_int (by omega),by omega,by omega,HT1.out.os,HT1.out.tape,HT1.out.output,HT1.out.size,HT1.out.block,HT1.out.at_⟩
 ·have hd:decide ((m:Int)≤(k:Int))=true:=by simp;omega
  have hk0:(0:Int)≤k:=Int.natCast_nonneg _;go_enter Tryz.func9,Tryz.ntmps9;go_wp2_with fail
  go_quiet (fail)
  go_wp2;go_ret;exact⟨0,k,rfl,h0,hk,rfl,rfl,rfl,rfl,fun _ _=>rfl,hTT.out⟩
end
section
open Go.RowKit
set_option maxHeartbeats 1000000
set_option maxRecDepth 100000
theorem ZbY {P:Prop}(h:P:=by
 intro u hu;simp only[List.mem_cons,List.not_mem_nil,or_false]at hu;rcases hu with rfl|rfl|rfl|rfl|rfl <;> rfl):P:=h
theorem WA {F:Fx} {w:World} {x:St} (h:WD F w x) (n:Nat) (h0:0<n) (hn:n≤1073741824) :
 Calls Tryz.prog 9 #[.pointer (some ⟨F.T,0,none⟩),.int .i64 (n:Int)] w fun e w'=>∃ r:Nat,r<n∧e=.returned (.int .i64 (r:Int))∧∃ x',WD F w' x'∧Wv F w x w' x'∧Num x x' 0 0 :=
 (next_any (W9 F w x) F.T F.tv F.tl x.at_ n w h.ht h.reads.tape (fun hk=>hk.1.2 (.inr (.inl rfl))) h.le h0 hn).mono fun _ _ ⟨r,_,he,hr,hk,ht⟩=>⟨r,hr,he,_,(h.next ht hk).1,(h.next ht hk).2,rfl,rfl,rfl,rfl⟩
theorem Tryz.infoInst:(Tryz.prog.info? 76).map (fun i=>(i.zero,i.size,i.bytes))=some (some (.agg #[.int .i64 0,.int .i64 0,.int .i64 0,.int .u64 0,.slice none 0 0]),5,56):=by kernel_rfl
theorem put_none {F:Fx} {w:World} {x:St} (h:WD F w x) (hF:F.o=none) (op a b n:Int) (l:Value) (hl:∃ q,Wg (W9 F w x) w l q∧okB op a b n q=true) (hm:Vs x 900000) :
 Calls Tryz.prog 14 #[.pointer (some ⟨F.G,0,none⟩),.agg #[.int .i64 op,.int .i64 a,.int .i64 b,.int .u64 n,l]] w (GPost F w x (.tuple #[]) (fun x'=>Num x x' 0 1∧x'.c=x.c++[⟨op,a,b,n,l⟩])):=by
 obtain⟨q,⟨A,c,rfl,hq⟩,hok⟩:=hl;have HOK:=hD hok;clear hok;have hc0:=h.co;have hmc:=hm.c;obtain⟨hg1,hs1⟩:=h.below ((bR w.heap.size w).alloc (nR _) (.cells #[.int .i64 op,.int .i64 a,.int .i64 b,.int .u64 n,.slice A q.length c] 76));have cb:∀ j:Nat,(w.alloc (.cells #[.int .i64 op,.int .i64 a,.int .i64 b,.int .u64 n,.slice A q.length c] 76)).cell? ⟨w.heap.size,j,none⟩=#[Value.int .i64 op,.int .i64 a,.int .i64 b,.int .u64 n,.slice A q.length c][j]?:=fun j=>by rw[wN]
 have c14:=hg1.c14;have b0:=cb 0;have b1:=cb 1;have b2:=cb 2;have b3:=cb 3;have b4:=cb 4;simp only[List.getElem?_toArray,List.getElem?_cons_zero,List.getElem?_cons_succ]at b0 b1 b2 b3 b4;have HQ:Hid (∃ q',Wg (W9 F (w.alloc (.cells #[.int .i64 op,.int .i64 a,.int .i64 b,.int .u64 n,.slice A q.length c] 76)) x) (w.alloc (.cells #[.int .i64 op,.int .i64 a,.int .i64 b,.int .u64 n,.slice A q.length c] 76)) (.slice A q.length c) q'∧okB op a b n q'=true):=⟨q,hs1.rints ⟨A,c,rfl,hq⟩,HOK.out⟩;clear cb hq;go_enter Tryz.func14,Tryz.ntmps14;go_wp2_with fail
 generalize w.alloc (.cells #[.int .i64 op,.int .i64 a,.int .i64 b,.int .u64 n,.slice A q.length c] 76)=W at *;generalize hB:w.heap.size=B at *;generalize hql:q.length=ql at *;have HQL:=hD hql;clear hql;have HONE:Hid (∀ u ∈ [Value.int .i64 op,.int .i64 a,.int .i64 b,.int .u64 n,.slice A ql c],u.oneCell'=true):=by
  exact ZbY
 have HLG:Hid (F.G<W.heap.size):=(Array.getElem?_eq_some_iff.1 hg1.hg).1;have HNG:Hid (some F.G≠x.cv.ownBlock):=fun e=>(hg1.cp _ e.symm).1 rfl;have HLB:Hid (B<W.heap.size):=wL W _ b0;have HNB:Hid (some B≠x.cv.ownBlock):=fun e=>by have:=(hc0.lt _ e.symm).2;omega
 have HE:Hid (∀ w2:World,(W.alloc (.cells #[.int .i64 op,.int .i64 a,.int .i64 b,.int .u64 n,.slice A ql c] 76)).grownBy w2 x.cv.ownBlock→∀ (p:Addr),p.block<W.heap.size→some p.block≠x.cv.ownBlock→∀ {u:Value},W.cell? p=some u→w2.cell? p=some u) :=
  fun w2 hgr p hp hne u hu=>(hgr.cell (a:=p) (by rw[World.cell?_alloc_lt _ _ _ hp];exact hu) hne)
 have HFZ:Hid (∀ w2:World,(W.alloc (.cells #[.int .i64 op,.int .i64 a,.int .i64 b,.int .u64 n,.slice A ql c] 76)).grownBy w2 x.cv.ownBlock→w2.frozen? ⟨F.G,14,none⟩=false) :=
  fun w2 hgr=>by rw[World.frozen?_of_block (w:=W) ((hgr.block F.G (by simp;have:=HLG.out;omega) HNG.out).trans (Below.heap_alloc W _ _ HLG.out))];exact hg1.frozen 14
 have c14b:(W.alloc (.cells #[.int .i64 op,.int .i64 a,.int .i64 b,.int .u64 n,.slice A ql c] 76)).cell? ⟨F.G,14,none⟩=some x.cv:=by rw[World.cell?_alloc_lt _ _ _ (by exact HLG)];exact c14
 have HG:=hD hg1;have HS:=hD hs1;clear hg1 hs1
 go_region_law (refine Wb rfl (.tmp 8) (.tmp 10) 60 76 rfl _ 5 56 Tryz.underlying60 Tryz.infoInst rfl (by decide) (by decide) x.cv x.c.length (flat x.c) (by rfl) (owns_drew (HG.out.co.alloc _)) _ 1 [.int .i64 op,.int .i64 a,.int .i64 b,.int .u64 n,.slice A ql c] (by rfl) (by rfl) (news_drew (WS W _ _ 1 1)) HONE.out (by omega) ?_;intro v' w' hown hgr0 hat;have hgr:=grown_drew hgr0;clear hgr0;have f14:=HFZ.out w' hgr;have e14:=HE.out _ hgr ⟨F.G,14,none⟩ (by show F.G<_;exact HLG.out) HNG.out c14;obtain⟨A',c',rfl⟩:=Wc hown)
 all_goals
  have hgs:=HG.out.pushC _ hgr ⟨op,a,b,n,.slice A ql c⟩ _ hown hat HQ.out hF;have HGS:=hD hgs;clear hgs;go_wp2;refine bodyPost_end (results_none rfl _ _ _) rfl ⟨rfl,_,HGS.out.1,HS.out.trans HGS.out.2,⟨rfl,?_,rfl,rfl⟩,by rw[HQL.out]⟩;show(x.c++[_]).length=_;rw[List.length_append];rfl
theorem Wv.reo {F:Fx} {a b:Option (List Nat)} {w w':World} {x x':St} (h:Wv { F with o:=a } w x w' x'):Wv { F with o:=b } w x w' x':=⟨h.keeps,h.mono⟩
theorem put_to {F:Fx} {w:World} {x:St} (h:WD F w x) (op a b n:Int) (l:Value) (hl:∃ q,Wg (W9 F w x) w l q∧okB op a b n q=true) (hm:Vs x 900000) (o':Option (List Nat)) (ho:∀ q,o'=some q→∃ p,F.o=some p∧VP op p=some q) :
 Calls Tryz.prog 14 #[.pointer (some ⟨F.G,0,none⟩),.agg #[.int .i64 op,.int .i64 a,.int .i64 b,.int .u64 n,l]] w (GPost { F with o:=o' } w x (.tuple #[]) (fun x'=>Num x x' 0 1∧x'.c=x.c++[⟨op,a,b,n,l⟩])):=by
 refine(put_none (F:={ F with o:=none }) (h.reo none fun q hq=>by cases hq) rfl op a b n l hl hm).mono ?_;rintro e w' ⟨rfl,x',hg,hs,hn,hc⟩;refine⟨rfl,x',hg.reo o' fun q hq=>?_,hs.reo,hn,hc⟩;obtain⟨p,hp,hpq⟩:=ho q hq;rw[hc,List.map_append,List.map_singleton,nestOf_snoc,h.reads.nest p hp];exact hpq
theorem put_with {F:Fx} {w:World} {x:St} (h:WD F w x) (op a b n:Int) (l:Value) (hl:∃ q,Wg (W9 F w x) w l q∧okB op a b n q=true) (hm:Vs x 900000) (hp:plain op:=by exact plain_of (by decide)) :
 Calls Tryz.prog 14 #[.pointer (some ⟨F.G,0,none⟩),.agg #[.int .i64 op,.int .i64 a,.int .i64 b,.int .u64 n,l]] w (GPost F w x (.tuple #[]) (fun x'=>Num x x' 0 1)) :=
 (put_to h op a b n l hl hm F.o fun q hq=>⟨q,hq,nestStep_plain hp q⟩).mono fun _ _ ⟨he,x',hg,hs,hn,_⟩=>⟨he,x',hg,hs,hn⟩
theorem WU {F:Fx} {w:World} {x:St} (h:WD F w x) (op a b n:Int) (hm:Vs x 900000) (hp:plain op:=by exact plain_of (by decide))
 (hv:okB op a b n []=true:=by first|exact ok_i 0 0 0 0 (by decide +kernel) (by decide +kernel) (by omega) (by omega) (by omega) (by omega) (by omega) (by omega)|exact ok_i 0 0 0 4294967295 (by decide +kernel) (by decide +kernel) (by omega) (by omega) (by omega) (by omega) (by omega) (by omega)|exact ok_i 0 255 0 0 (by decide +kernel) (by decide +kernel) (by omega) (by omega) (by omega) (by omega) (by omega) (by omega)|exact ok_i 0 64 0 0 (by decide +kernel) (by decide +kernel) (by omega) (by omega) (by omega) (by omega) (by omega) (by omega)|exact ok_i 0 3 0 0 (by decide +kernel) (by decide +kernel) (by omega) (by omega) (by omega) (by omega) (by omega) (by omega)|exact ok_i 0 3 15 0 (by decide +kernel) (by decide +kernel) (by omega) (by omega) (by omega) (by omega) (by omega) (by omega)|exact ok_i 0 15 0 0 (by decide +kernel) (by decide +kernel) (by omega) (by omega) (by omega) (by omega) (by omega) (by omega)|exact ok_i 0 3 3 0 (by decide +kernel) (by decide +kernel) (by omega) (by omega) (by omega) (by omega) (by omega) (by omega)) :
 Calls Tryz.prog 14 #[.pointer (some ⟨F.G,0,none⟩),.agg #[.int .i64 op,.int .i64 a,.int .i64 b,.int .u64 n,.slice none 0 0]] w (GPost F w x (.tuple #[]) (fun x'=>Num x x' 0 1)) :=
 put_with h op a b n _ ⟨[],Wg.nil _ _,hv⟩ hm hp
end
section
open Go.RowKit
theorem Zb2 {P:Prop}(h:P:=by
 subst e;rw[List.getD_eq_getElem?_getD,List.getElem?_append_right (by omega),h1,Nat.sub_self];exact hx i hi):P:=h
theorem Wd.news {K:Nat→Prop} {w:World} {v:Value} {n size:Nat} {f:Nat→Nat→Value→Prop} (h:Wd K w v n size f):∃ us:List Value,us.length=n * size∧VG w v n us∧∀ j i,j<n→i<size→∃ u,us[j * size+i]?=some u∧f j i u:=by
 obtain⟨A,c,rfl,h1,h2,hn,h3⟩:=h;rcases Nat.eq_zero_or_pos n with rfl|h0
 ·rcases A with _|a
  ·obtain rfl:=hn rfl;exact⟨[],by simp,.inl ⟨rfl,rfl,rfl⟩,fun j i hj=>absurd hj (Nat.not_lt_zero _)⟩
  ·exact⟨[],by simp,.inr ⟨a,c,rfl,fun j u hu=>by simp at hu⟩,fun j i hj=>absurd hj (Nat.not_lt_zero _)⟩
 ·obtain⟨g,o,rfl,_,hc⟩:=h3 h0;refine⟨(List.range (n * size)).map fun j=>(w.cell? ⟨g,o+j,none⟩).getD undef,by simp,.inr ⟨_,c,rfl,fun j u hju=>?_⟩,fun j i hj hi=>?_⟩
  ·rw[List.getElem?_map]at hju;rcases Nat.lt_or_ge j (n * size) with hj|hj
   ·have hs:0<size:=Nat.pos_of_ne_zero fun e=>by rw[e,Nat.mul_zero]at hj;omega
    have hjs:j / size<n:=Nat.div_lt_of_lt_mul (by rw[Nat.mul_comm];exact hj);obtain⟨u',k1,_⟩:=hc (j / size) (j % size) hjs (Nat.mod_lt _ hs);rw[show o+j / size * size+j % size=o+j by have:=Nat.div_add_mod j size;rw[Nat.mul_comm]at this;omega]at k1;rw[List.getElem?_range hj]at hju;simp only[Option.map_some,k1,Option.getD_some,Option.some.injEq]at hju;rw[Addr.add_lit,k1,hju]
   ·rw[List.getElem?_eq_none (by simpa using hj)]at hju;cases hju
  ·obtain⟨u,k1,k2⟩:=hc j i hj hi;have hlt:j * size+i<n * size:=by
    exact Zby
   refine⟨u,?_,k2⟩;rw[List.getElem?_map,List.getElem?_range hlt];simp only[Option.map_some,← Nat.add_assoc,k1,Option.getD_some]
theorem Wd.drop {K:Nat→Prop} {w:World} {g o n c size:Nat} {f:Nat→Nat→Value→Prop} (h:Wd K w (.slice (some ⟨g,o,none⟩) n c) n size f) (k:Nat) (hk:k≤n):Wd K w (.slice (some ⟨g,o+k * size,none⟩) (n - k) (c - k)) (n - k) size (fun j i u=>f (k+j) i u):=by
 obtain⟨A,c',he,h1,h2,hn,h3⟩:=h;simp only[vI]at he;obtain⟨rfl,-,rfl⟩:=he;refine⟨_,_,rfl,by omega,by omega,(fun h=>by cases h),fun h0=>?_⟩;obtain⟨g',o',he,hg,hc⟩:=h3 (by omega);simp only[Option.some.injEq,Addr.mk.injEq]at he;obtain⟨rfl,rfl,_⟩:=he;refine⟨_,_,rfl,hg,fun j i hj hi=>?_⟩;obtain⟨u,k1,k2⟩:=hc (k+j) i (by omega) hi;exact⟨u,by rw[show o+k * size+j * size+i=o+(k+j) * size+i by rw[Nat.add_mul];omega];exact k1,k2⟩
theorem Wd.take {K:Nat→Prop} {w:World} {g o n c size:Nat} {f:Nat→Nat→Value→Prop} (h:Wd K w (.slice (some ⟨g,o,none⟩) n c) n size f) (k:Nat) (hk:k≤n):Wd K w (.slice (some ⟨g,o,none⟩) k c) k size f:=by
 obtain⟨A,c',he,h1,h2,hn,h3⟩:=h;simp only[vI]at he;obtain⟨rfl,-,rfl⟩:=he;refine⟨_,_,rfl,by omega,h2,(fun h=>by cases h),fun h0=>?_⟩;obtain⟨g',o',he,hg,hc⟩:=h3 (by omega);simp only[Option.some.injEq,Addr.mk.injEq]at he;obtain⟨rfl,rfl,_⟩:=he;exact⟨_,_,rfl,hg,fun j i hj hi=>hc j i (by omega) hi⟩
def Vu (K:Nat→Prop) (w:World) (us:List Value) (n:Nat):Prop:=us.length=n * 5∧∀ j,j<n→∃ x:VV,∀ i,i<5→∃ u,us[j * 5+i]?=some u∧WR K w x i u
theorem Vu.keep {K K':Nat→Prop} {w w':World} {us:List Value} {n:Nat} (h:Vu K w us n) (hk:Wf K w w') (hm:∀ k,K k→K' k):Vu K' w' us n :=
 ⟨h.1,fun j hj=>by
  obtain⟨x,hx⟩:=h.2 j hj;exact⟨x,fun i hi=>by obtain⟨u,h1,h2⟩:=hx i hi;exact⟨u,h1,h2.keep hk hm⟩⟩⟩
theorem Vh.good {K:Nat→Prop} {w:World} {v:Value} {c:List VV} (h:Vh K w v c):∃ us,VG w v c.length us∧Vu K w us c.length:=by
 obtain⟨us,h1,h2,h3⟩:=Wd.news h;exact⟨us,h2,h1,fun j hj=>⟨_,fun i hi=>h3 j i hj hi⟩⟩
theorem Vu.nil (K:Nat→Prop) (w:World):Vu K w [] 0:=⟨rfl,fun _ hj=>absurd hj (Nat.not_lt_zero _)⟩
theorem Vu.append {K:Nat→Prop} {w:World} {us vs:List Value} {n m:Nat} (h:Vu K w us n) (k:Vu K w vs m):Vu K w (us++vs) (n+m):=by
 refine⟨by rw[List.length_append,h.1,k.1,Nat.add_mul],fun j hj=>?_⟩;rcases Nat.lt_or_ge j n with hlt|hge
 ·obtain⟨x,hx⟩:=h.2 j hlt;refine⟨x,fun i hi=>?_⟩;obtain⟨u,h1,h2⟩:=hx i hi;exact⟨u,by rw[List.getElem?_append_left (by rw[h.1];omega)];exact h1,h2⟩
 ·obtain⟨x,hx⟩:=k.2 (j - n) (by omega);refine⟨x,fun i hi=>?_⟩;obtain⟨u,h1,h2⟩:=hx i hi;exact⟨u,by rw[List.getElem?_append_right (by rw[h.1];omega),h.1,show j * 5+i - n * 5=(j - n) * 5+i by omega];exact h1,h2⟩
theorem Vu.take {K:Nat→Prop} {w:World} {us:List Value} {n:Nat} (h:Vu K w us n) (k:Nat) (hk:k≤n):Vu K w (us.take (k * 5)) k:=by
 refine⟨by rw[List.length_take,h.1];omega,fun j hj=>?_⟩;obtain⟨x,hx⟩:=h.2 j (by omega);refine⟨x,fun i hi=>?_⟩;obtain⟨u,h1,h2⟩:=hx i hi;exact⟨u,by rw[List.getElem?_take,if_pos (by omega)];exact h1,h2⟩
theorem Vu.set {K:Nat→Prop} {w:World} {us:List Value} {n:Nat} (h:Vu K w us n) (k i0:Nat) (hk:k<n) (hi0:i0<5) (u0:Value) (f:VV→VV) (hf:∀ x,WR K w (f x) i0 u0∧∀ i u,i<5→i≠i0→WR K w x i u→WR K w (f x) i u):Vu K w (us.set (k * 5+i0) u0) n:=by
 refine⟨by rw[List.length_set];exact h.1,fun j hj=>?_⟩;obtain⟨x,hx⟩:=h.2 j hj;by_cases hjk:j=k
 ·subst hjk;refine⟨f x,fun i hi=>?_⟩;by_cases hii:i=i0
  ·subst hii;exact⟨u0,by rw[List.getElem?_set,if_pos rfl,if_pos (by rw[h.1];omega)],(hf x).1⟩
  ·obtain⟨u,h1,h2⟩:=hx i hi;exact⟨u,by rw[List.getElem?_set,if_neg (by omega)];exact h1,(hf x).2 i u hi hii h2⟩
 ·refine⟨x,fun i hi=>?_⟩;obtain⟨u,h1,h2⟩:=hx i hi;exact⟨u,by rw[List.getElem?_set,if_neg (by omega)];exact h1,h2⟩
theorem insCell_one {K:Nat→Prop} {w:World} (x:VV) {Lv:Value} (h:Wg K w Lv x.l) (hn:VK x.n) (hf:fitN x.l.length):Vu K w [.int .i64 x.op,.int .i64 x.a,.int .i64 x.b,.int .u64 x.n,Lv] 1 :=
 ⟨rfl,fun j hj=>⟨x,fun i hi=>by
  obtain rfl:j=0:=by omega
  rcases(show i=0∨i=1∨i=2∨i=3∨i=4 by omega) with rfl|rfl|rfl|rfl|rfl
  ·exact⟨_,rfl,rfl⟩
  ·exact⟨_,rfl,rfl⟩
  ·exact⟨_,rfl,rfl⟩
  ·exact⟨_,rfl,rfl,hn⟩
  ·exact⟨_,rfl,h,hf⟩⟩⟩
theorem Vu.code {K:Nat→Prop} {w:World} {base:Nat} {e:TypeId} {v:Value} {n:Nat} {us:List Value} (h:Vu K w us n) (ho:w.ownsRow base e 5 v n us) (hK:∀ g,v.ownBlock=some g→K g):∃ c:List VV,c.length=n∧Vh K w v c:=by
 have hc:∀ m,m≤n→∃ c:List VV,c.length=m∧∀ j,j<m→∀ i,i<5→∃ u,us[j * 5+i]?=some u∧WR K w (c.getD j ins0) i u:=by
  intro m;induction m with
  | zero=>intro _;exact⟨[],rfl,fun j hj=>absurd hj (Nat.not_lt_zero _)⟩
  | succ m ih =>
   intro hm;obtain⟨c,h1,h2⟩:=ih (by omega);obtain⟨x,hx⟩:=h.2 m (by omega);refine⟨c++[x],by simp[h1],fun j hj i hi=>?_⟩;by_cases e:j=m
   ·exact Zb2
   ·rw[List.getD_eq_getElem?_getD,List.getElem?_append_left (by omega),← List.getD_eq_getElem?_getD];exact h2 j (by omega) i hi
 obtain⟨c,h1,h2⟩:=hc n (nR _);refine⟨c,h1,?_⟩;unfold Vh;rw[h1];exact Ua ho _ hK fun j i hj hi=>h2 j hj i hi
theorem Vu.ones {K:Nat→Prop} {w:World} {us:List Value} {n:Nat} (h:Vu K w us n):∀ u ∈ us,u.oneCell'=true:=by
 intro u hu;obtain⟨k,hk,rfl⟩:=List.mem_iff_getElem.1 hu;have h1:=h.1;obtain⟨x,hx⟩:=h.2 (k / 5) (by omega);obtain⟨u',k1,k2⟩:=hx (k % 5) (Nat.mod_lt _ (by omega));rw[show k / 5 * 5+k % 5=k by omega,List.getElem?_eq_getElem hk]at k1;obtain rfl:=Option.some.inj k1;rcases(show k % 5=0∨k % 5=1∨k % 5=2∨k % 5=3∨k % 5=4 by omega) with e|e|e|e|e
 all_goals rw[e]at k2
 ·rw[show us[k]=_ from k2];rfl
 ·rw[show us[k]=_ from k2];rfl
 ·rw[show us[k]=_ from k2];rfl
 ·rw[show us[k]=_ from k2.1];rfl
 ·obtain⟨⟨A,c,k3,_⟩,_⟩:=k2;rw[k3];rfl
end
section
open Go.RowKit
theorem Zb5 {P:Prop}(h:P:=by
 rcases Nat.lt_or_ge j xs.length with h2|h2
 ·omega
 ·rw[List.getElem?_eq_none h2]at hu;cases hu):P:=h
section
variable {P:Program} {ops:Array Oper} {Q:Exit→Act→World→Prop} {md:Region.Mode} {S:World→Prop} {X:Nat}
def We (P:Program) (md:Region.Mode) (ops:Array Oper) (Q:Exit→Act→World→Prop) (S:World→Prop) (X:Nat) (fuel:Nat):Array Bool→Act→World→Prop :=
 match fuel with
 | 0=>fun L a w=>Region.ready md ops L=[]∧Q .normal a w
 | n+1=>fun L a w=>(Region.ready md ops L=[]→Q .normal a w)∧∀ k ∈ Region.ready md ops L,wpOp P ops Q k (fun a' w'=>(k=X∨S w')∧We P md ops Q S X n (L.setIfInBounds k true) a' w') a w
theorem We.any:∀ (n:Nat) (L:Array Bool) (a:Act) (w:World),We P md ops Q S X n L a w→wpAny P md ops Q n L a w
 | 0,_,_,_,h=>h
 | n+1,_,_,_,h=>⟨h.1,fun k hk=>wpOp_mono (fun a' w' h'=>We.any n _ a' w' h'.2) (h.2 k hk)⟩
def waits (md:Region.Mode) (ops:Array Oper) (X i:Nat):Bool:=match ops[X]? with
 | some o=>o.after.any fun e=>Region.binds md e && e.on==i
 | none=>true
theorem waits_not {L:Array Bool} {X i:Nat} (h:waits md ops X i=true) (hl:L.getD i true=false):X ∉ Region.ready md ops L:=fun hX=>by
 obtain⟨_,o,ho,hall⟩:=mem_ready.1 hX;unfold waits at h;rw[ho]at h;simp only[Array.any_eq_true]at h;obtain⟨j,hj,he⟩:=h;simp only[Bool.and_eq_true,beq_iff_eq]at he;have h1:=hall _ (Array.getElem_mem hj) he.1;rw[he.2]at h1;rcases Nat.lt_or_ge i L.size with hlt|hge
 ·simp[hlt]at h1 hl;rw[h1]at hl;cases hl
 ·simp[Array.getElem?_eq_none hge]at h1 hl
theorem ready_un {L:Array Bool} {i:Nat} (hr:i ∈ Region.ready md ops L):L.getD i true=false:=(mem_ready.1 hr).1
theorem We.first {i:Nat} {oi:Oper} {v:Value} (hi:ops[i]?=some oi) (hns:Region.noSelect ops=true) (hQ:∀ c a w,Q (.panic c) (a.put oi.dst v) w→Q (.panic c) a w) (hX:waits md ops X i=true) :
 ∀ (n:Nat) (L:Array Bool) (a:Act) (w:World),(∀ k ok,ops[k]?=some ok→k≠i→L.getD k true=false→(∀ e ∈ ok.after,Region.binds md e=true→e.on≠i)→oi.apart ops ok=true) →
  i ∈ Region.ready md ops L→YieldsIf P ops S oi v a→S w→We P md ops Q S X n (L.setIfInBounds i true) (a.put oi.dst v) w→We P md ops Q S X (n+1) L a w:=by
 have hsel:=Region.noSelect_spec hns;intro n;induction n with
 | zero =>
  intro L a w _ hr hy hS H;refine⟨fun h=>absurd hr (by rw[h];simp),fun k hk=>?_⟩;by_cases e:k=i
  ·subst e;exact hy.wpOp hi hS ⟨.inr hS,H⟩
  ·exact absurd (ready_mono hk e) (by rw[H.1];simp)
 | succ n ih =>
  intro L a w hap hr hy hS H;refine⟨fun h=>absurd hr (by rw[h];simp),fun k hk=>?_⟩;by_cases e:k=i
  ·subst e;exact hy.wpOp hi hS ⟨.inr hS,H⟩
  ·obtain⟨hun,ok,hok,hall⟩:=mem_ready.1 hk;have hkX:k≠X:=fun h=>waits_not hX (ready_un hr) (h ▸ hk);have hno:∀ e ∈ ok.after,Region.binds md e=true→e.on≠i:=fun e he hb h=>by
    have h1:=hall e he hb;have h0:=ready_un hr;rw[h]at h1;rcases Nat.lt_or_ge i L.size with hlt|hge
    ·simp[hlt]at h0 h1;rw[h0]at h1;cases h1
    ·simp[Array.getElem?_eq_none hge]at h1
   refine wpOp_mono (fun a' w' h3=>?_) (wpOp_putIf hok (hap k ok hok e hun hno) (fun cs b=>hsel i oi cs b hi) (fun cs b=>hsel k ok cs b hok) hQ hy (H.2 k (ready_mono hk e)));have hSw:S w':=h3.2.1.resolve_left hkX;refine⟨.inr hSw,ih (L.setIfInBounds k true) a' w' (fun j oj hj hji hju hjn=>hap j oj hj hji ?_ hjn) (ready_mono hr (Ne.symm e)) h3.1 hSw ?_⟩
   ·by_cases hkj:k=j
    ·subst hkj;exact hun
    ·rwa [getD_set_ne true hkj]at hju
   ·rw[Array.setIfInBounds_comm _ _ e];exact h3.2.2
theorem We.take {i:Nat} {oi:Oper} {v:Value} {n:Nat} {L:Array Bool} {a:Act} {w:World} (hi:ops[i]?=some oi) (hs:Region.noSelect ops=true) (hf:Region.free md ops L i=true) (hr:(Region.ready md ops L).contains i=true) (hX:waits md ops X i=true)
 (hQ:∀ c a w,Q (.panic c) (a.put oi.dst v) w→Q (.panic c) a w) (hy:YieldsIf P ops S oi v a) (hS:S w) (h:We P md ops Q S X n (L.setIfInBounds i true) (a.put oi.dst v) w):We P md ops Q S X (n+1) L a w :=
 We.first hi hs hQ hX n L a w (Region.free_spec hi hf) (by simpa using hr) hy hS h
def Wy (P:Program) (md:Region.Mode) (ops:Array Oper) (Q:Exit→Act→World→Prop) (S:World→Prop) (X n:Nat) (L:Array Bool) (a:Act) (w:World) (i:Nat):Prop :=
 wpOp P ops Q i (fun a' w'=>(i=X∨S w')∧We P md ops Q S X n (L.setIfInBounds i true) a' w') a w
theorem We.turn {rs:List Nat} {n:Nat} {L:Array Bool} {a:Act} {w:World} (hr:Region.ready md ops L=rs) (hne:rs≠[]) (h:∀ i ∈ rs,Wy P md ops Q S X n L a w i):We P md ops Q S X (n+1) L a w :=
 ⟨fun h0=>absurd (hr ▸ h0) hne,hr ▸ h⟩
theorem Wy.mk {i n:Nat} {L:Array Bool} {a:Act} {w:World} {o:Oper} (ho:ops[i]?=some o)
 (h:∀ K:Act→World→Prop,Hid (∀ a w,(i=X∨S w)→We P md ops Q S X n (L.setIfInBounds i true) a w→K a w)→if Region.wanted o (yielded ops a.tmps)=true then Oper.wp P o a w K Q else K (a.put o.dst undef) w):Wy P md ops Q S X n L a w i :=
 wpOp_step ho fun K hK=>h K (hD fun a w hS hR=>hK a w ⟨hS,hR⟩)
theorem We.one {i n:Nat} {L:Array Bool} {a:Act} {w:World} (hr:Region.ready md ops L=[i]) (h:Wy P md ops Q S X n L a w i):We P md ops Q S X (n+1) L a w :=
 .turn hr (by simp) fun j hj=>by
  obtain rfl:j=i:=by simpa using hj
  exact h
theorem We.two {i j n:Nat} {L:Array Bool} {a:Act} {w:World} (hr:Region.ready md ops L=[i,j]) (h:Wy P md ops Q S X n L a w i) (h2:Wy P md ops Q S X n L a w j):We P md ops Q S X (n+1) L a w :=
 .turn hr (by simp) fun k hk=>by
  rcases(by simpa using hk:k=i∨k=j) with rfl|rfl
  ·exact h
  ·exact h2
theorem We.three {i j l n:Nat} {L:Array Bool} {a:Act} {w:World} (hr:Region.ready md ops L=[i,j,l]) (h:Wy P md ops Q S X n L a w i) (h2:Wy P md ops Q S X n L a w j) (h3:Wy P md ops Q S X n L a w l):We P md ops Q S X (n+1) L a w :=
 .turn hr (by simp) fun k hk=>by
  rcases(by simpa using hk:k=i∨k=j∨k=l) with rfl|rfl|rfl
  ·exact h
  ·exact h2
  ·exact h3
theorem We.done {L:Array Bool} {a:Act} {w:World} (hr:Region.ready md ops L=[]) (h:Q .normal a w):∀ n,We P md ops Q S X n L a w
 | 0=>⟨hr,h⟩
 | _+1=>⟨fun _=>h,by rw[hr];simp⟩
theorem We.start {id:Nat} {a:Act} {w:World} (hm:P.follows .mixedOrders=true) (h:We P .any ops Q S X ops.size (Array.replicate ops.size false) a w.drew):(Code.region id ops true).wp P Q a w :=
 wp_region_any hm (We.any _ _ _ _ h)
end
structure W7 where
 e:TypeId
 size:Nat
 v:Value
 n:Nat
 xs:List Value
 live:Bool
def W7.apart (r s:W7):Prop:=∀ g,r.v.ownBlock=some g→s.v.ownBlock≠some g
theorem W7.apart.symm {r s:W7} (h:r.apart s):s.apart r:=fun g hs hr=>h g hr hs
def W7.in_ (r:W7) (w:World):Prop :=
 if r.live=true then w.ownsRow 0 r.e r.size r.v r.n r.xs
 else ∃ g c:Nat,r.v=.slice (some ⟨g,0,none⟩) r.n c∧r.n≤c∧g<w.heap.size∧∀ j u,r.xs[j]?=some u→w.cell? ⟨g,j,none⟩=some u
theorem W7.in_.keep {r:W7} {w w':World} (h:r.in_ w) {K:Nat→Prop} (hk:Wf K w w') (hv:∀ g,r.v.ownBlock=some g→K g):r.in_ w':=by
 unfold W7.in_ at h ⊢
 split
 ·rename_i hl
  rw[if_pos hl]at h;exact Wt h hk hv
 ·rename_i hl
  rw[if_neg hl]at h;obtain⟨g,c,h1,hn,h2,h3⟩:=h;exact⟨g,c,h1,hn,WW h2 hk.size,fun j u hu=>(hk.cell (p:=⟨g,j,none⟩) (hv g (by rw[h1];rfl))).trans (h3 j u hu)⟩
theorem W7.in_.lt {r:W7} {w:World} (h:r.in_ w) {g:Nat} (hg:r.v.ownBlock=some g):g<w.heap.size:=by
 unfold W7.in_ at h
 split at h
 ·exact(h.lt g hg).2
 ·obtain⟨g',c,h1,_,h2,_⟩:=h;rw[h1]at hg;have e:some g'=some g:=hg;simp only[Option.some.injEq]at e;omega
theorem W7.in_.own {r:W7} {w:World} (h:r.in_ w) (hl:r.live=true):w.ownsRow 0 r.e r.size r.v r.n r.xs:=by
 unfold W7.in_ at h
 rwa [if_pos hl]at h
theorem W7.in_.mk {r:W7} {w:World} (hl:r.live=true) (h:w.ownsRow 0 r.e r.size r.v r.n r.xs):r.in_ w:=by
 unfold W7.in_
 rwa [if_pos hl]
structure Rows (w0 w:World) (l:List W7):Prop where
 bl:Below w0.heap.size w0 w
 ow:∀ r ∈ l,r.in_ w
 nw:∀ r ∈ l,∀ g,r.v.ownBlock=some g→w0.heap.size≤g
 ap:l.Pairwise W7.apart
theorem Rows.nil {w0 w:World} (h:Below w0.heap.size w0 w):Rows w0 w []:=⟨h,by simp,by simp,.nil⟩
theorem Rows.head {w0 w:World} {r:W7} {l:List W7} (h:Rows w0 w (r :: l)) (hl:r.live=true:=by rfl):w.ownsRow 0 r.e r.size r.v r.n r.xs:=(h.ow r (List.mem_cons_self ..)).own hl
theorem Rows.tail {w0 w:World} {r:W7} {l:List W7} (h:Rows w0 w (r :: l)):Rows w0 w l:=⟨h.bl,fun s hs=>h.ow s (List.mem_cons_of_mem _ hs),fun s hs=>h.nw s (List.mem_cons_of_mem _ hs),(List.pairwise_cons.1 h.ap).2⟩
theorem Rows.perm {w0 w:World} {l l':List W7} (h:Rows w0 w l) (hp:l'.Perm l):Rows w0 w l' :=
 ⟨h.bl,fun r hr=>h.ow r (hp.mem_iff.1 hr),fun r hr=>h.nw r (hp.mem_iff.1 hr),(hp.pairwise_iff (fun hab=>W7.apart.symm hab)).2 h.ap⟩
theorem Rows.swap {w0 w:World} {r s:W7} {l:List W7} (h:Rows w0 w (r :: s :: l)):Rows w0 w (s :: r :: l):=h.perm (List.Perm.swap ..)
theorem Rows.pull3 {w0 w:World} {r s t:W7} {l:List W7} (h:Rows w0 w (r :: s :: t :: l)):Rows w0 w (t :: r :: s :: l):=h.perm ((List.Perm.swap ..).trans (List.Perm.cons _ (List.Perm.swap ..)))
theorem Rows.front {w0 w:World} {r:W7} {l:List W7} (h:Rows w0 w (r :: l)):Rows w0 w [r] :=
 ⟨h.bl,fun s hs=>by rw[List.mem_singleton.1 hs];exact h.ow _ (List.mem_cons_self ..),fun s hs=>by rw[List.mem_singleton.1 hs];exact h.nw _ (List.mem_cons_self ..),List.pairwise_singleton _ _⟩
theorem Rows.below {w0 w w':World} {l:List W7} (h:Rows w0 w l) (hb:Below w.heap.size w w'):Rows w0 w' l :=
 ⟨Wa h.bl hb,fun r hr=>(h.ow r hr).keep (Wf.below hb fun _ hk=>hk) fun _ hg=>(h.ow r hr).lt hg,h.nw,h.ap⟩
theorem Rows.lt {w0 w:World} {l:List W7} (h:Rows w0 w l) {r:W7} (hr:r ∈ l) {g:Nat} (hg:r.v.ownBlock=some g):g<w.heap.size:=(h.ow r hr).lt hg
theorem Rows.push {w0 w w':World} {l:List W7} (h:Rows w0 w l) (hb:Below w.heap.size w w') {r:W7} (ho:r.in_ w') (hn:∀ g,r.v.ownBlock=some g→w.heap.size≤g):Rows w0 w' (r :: l):=by
 have h2:=h.below hb;refine⟨h2.bl,fun s hs=>?_,fun s hs=>?_,List.pairwise_cons.2 ⟨fun s hs g hr hs2=>?_,h.ap⟩⟩
 ·rcases List.mem_cons.1 hs with rfl|hs
  ·exact ho
  ·exact h2.ow s hs
 ·rcases List.mem_cons.1 hs with rfl|hs
  ·exact fun g hg=>Nat.le_trans h.bl.size (hn g hg)
  ·exact h.nw s hs
 ·have h3:=h.lt hs hs2;have h4:=hn g hr;omega
theorem Rows.lit {w0 w:World} {l:List W7} (h:Rows w0 w l) (e:TypeId) (size n:Nat) (cs:Array Value) (hl:cs.toList.length=n * size) (hn:n≤maxLen):Rows w0 (w.alloc (.cells cs e)) (⟨e,size,.slice (some ⟨w.heap.size,0,none⟩) n n,n,cs.toList,true⟩ :: l) :=
 h.push (Wi (bR _ _) _) (W7.in_.mk rfl (World.ownsRow_lit w cs n (nZ _) hn hl)) fun g hg=>by
  have e2:some w.heap.size=some g:=hg;simp only[Option.some.injEq]at e2;omega
theorem Rows.drewN {w0 w:World} {l:List W7} (h:Rows w0 w l) (k:Nat):Rows w0 (w.drewN k) l:=h.below (Wj (bR _ _) k)
theorem Rows.grow {w0 w w':World} {r:W7} {l:List W7} (h:Rows w0 w (r :: l)) (hg:w.grownBy w' r.v.ownBlock) {v':Value} {n':Nat} {xs':List Value} (ho:w'.ownsRow 0 r.e r.size v' n' xs') (hat:v'.ownBlock=r.v.ownBlock∨v'.ownBlock=some w.heap.size):Rows w0 w' (⟨r.e,r.size,v',n',xs',true⟩ :: l):=by
 have ha:=List.pairwise_cons.1 h.ap;have hs:=h.bl.size;have hbl:=h.bl.grown hg h.bl.size (h.nw r (List.mem_cons_self ..));refine⟨hbl,fun s hs=>?_,fun s hs=>?_,List.pairwise_cons.2 ⟨fun s hs g hr hs2=>?_,ha.2⟩⟩
 ·rcases List.mem_cons.1 hs with rfl|hs
  ·exact W7.in_.mk rfl ho
  ·exact(h.ow s (List.mem_cons_of_mem _ hs)).keep (Wf.grown (K:=fun k=>k<w.heap.size∧r.v.ownBlock≠some k) hg (fun k hk=>hk.1) fun k hk hn=>hn.2 hk) fun g hgs=>⟨h.lt (List.mem_cons_of_mem _ hs) hgs,fun hr=>ha.1 s hs g hr hgs⟩
 ·rcases List.mem_cons.1 hs with rfl|hs
  ·intro g hgs;rcases hat with k|k
   ·exact h.nw r (List.mem_cons_self ..) g (k ▸ hgs)
   ·have:=k.symm.trans hgs;simp only[Option.some.injEq]at this;omega
  ·exact h.nw s (List.mem_cons_of_mem _ hs)
 ·rcases hat with k|k
  ·exact ha.1 s hs g (k ▸ hr) hs2
  ·have h3:=h.lt (List.mem_cons_of_mem _ hs) hs2;have:=k.symm.trans hr;simp only[Option.some.injEq]at this;omega
theorem Rows.mark {w0 w:World} {e:TypeId} {y n:Nat} {xs:List Value} {l:List W7} (h:Rows w0 w (⟨e,1,.slice (some ⟨y,0,none⟩) n n,n,xs,true⟩ :: l)):Rows w0 (w.freeze ⟨y,n,none⟩ 1) (⟨e,1,.slice (some ⟨y,0,none⟩) n n,n,xs,false⟩ :: l):=by
 have ha:=List.pairwise_cons.1 h.ap;have hy:w0.heap.size≤y:=h.nw _ (List.mem_cons_self ..) y rfl;have hlt:y<w.heap.size:=h.lt (List.mem_cons_self ..) rfl;have hbl:Below w0.heap.size w0 (w.freeze ⟨y,n,none⟩ 1):=Lib.below_freeze h.bl (p:=⟨y,n,none⟩) hy 1;have hkp:Wf (fun k=>k<w.heap.size∧k≠y) w (w.freeze ⟨y,n,none⟩ 1):=by
  have hf:=Lib.below_freeze (bR 0 w) (p:=⟨y,n,none⟩) (nZ _) 1;refine⟨hf.os,hf.tape,hf.output,hf.size,fun k hk=>?_⟩;have hne:¬ y=k:=fun e=>hk.2 e.symm;simp[World.freeze,Array.getElem?_modify,hne]
 refine⟨hbl,fun s hs=>?_,fun s hs=>?_,List.pairwise_cons.2 ⟨fun s hs g hr hs2=>ha.1 s hs g hr hs2,ha.2⟩⟩
 ·rcases List.mem_cons.1 hs with rfl|hs
  ·have ho:=h.head;unfold W7.in_;rw[if_neg (by simp)];refine⟨y,n,rfl,nR _,WW hlt hkp.size,fun j u hu=>?_⟩;have hj:j<n * 1:=by
    have h1:xs.length=n * 1:=ho.1;exact Zb5
   have hc:=ho.cellAt j hj;rw[hu]at hc;rcases ho.2 with ⟨hv,_⟩|⟨g',cap,cur,hv,_,hb,_⟩
   ·cases hv
   ·simp only[vI,Option.some.injEq,Addr.mk.injEq]at hv;obtain⟨⟨rfl,_⟩,_⟩:=hv;simp only[World.cell?,hb]at hc;have hfz:(w.freeze ⟨y,n,none⟩ 1).heap[y]?=some (.cells cur e (n,n+1)):=by
     simp[World.freeze,Array.getElem?_modify,hb]
    simp only[World.cell?,hfz];simpa using hc
  ·exact(h.ow s (List.mem_cons_of_mem _ hs)).keep hkp fun g hgs=>⟨h.lt (List.mem_cons_of_mem _ hs) hgs,fun e=>ha.1 s hs y rfl (e ▸ hgs)⟩
 ·rcases List.mem_cons.1 hs with rfl|hs
  ·intro g hg;exact h.nw _ (List.mem_cons_self ..) g hg
  ·exact h.nw s (List.mem_cons_of_mem _ hs)
theorem Wu {w:World} {base:Nat} {e:TypeId} {size:Nat} {v:Value} {n:Nat} {xs:List Value} (h:w.ownsRow base e size v n xs):VG w v n xs:=by
 have h1:=h.1;rcases h.2 with ⟨rfl,rfl⟩|⟨g,cap,cur,rfl,_⟩
 ·exact .inl ⟨rfl,rfl,List.eq_nil_of_length_eq_zero (by simpa using h1)⟩
 ·refine .inr ⟨_,cap,rfl,fun j u hu=>?_⟩;have hj:j<n * size:=by
   exact Zb5
  rw[add_lit0,h.cellAt j hj,hu]
end
end Go.Proofs.YtepgopnnaeoolaaGreatDoor
