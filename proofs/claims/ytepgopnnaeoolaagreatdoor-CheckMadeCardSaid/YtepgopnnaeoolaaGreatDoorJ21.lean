/- A part of the proof. -/
import Derived.Test.YtepgopnnaeoolaaGreatDoorJ20
namespace Go.Proofs.YtepgopnnaeoolaaGreatDoor
open Go.RowKit
theorem ZbF {P:Prop}(h:P:=by
 have hc:∀ i,w.cell? ⟨w0.heap.size,i,none⟩=v.cells[i]?:=fun i=>by simp[World.cell?,h.box]
 exact⟨hc 0,hc 1,hc 2,hc 3,hc 4,hc 5,hc 6,hc 7⟩):P:=h
theorem conv_owned {w:World} {y n:Nat} {xs:List Value} (h:w.ownsRow 0 5 1 (.slice (some ⟨y,0,none⟩) n n) n xs):(convert 39 39 (.slice (some ⟨y,0,none⟩) n n)).run Tryz.prog w=.ok (.slice (some ⟨y,0,none⟩) n n) (w.freeze ⟨y,n,none⟩ 1):=by
 have hsh:w.shape? y=some (5,n):=by
  rcases h.2 with ⟨hv,_⟩|⟨g',cap,cur,hv,_,hb,_,_,hs,_⟩
  ·cases hv
  ·simp only[vI,Option.some.injEq,Addr.mk.injEq]at hv;obtain⟨⟨rfl,_⟩,_,rfl⟩:=hv;simp[World.shape?,hb,hs]
 simp[convert,run_underlying Tryz.underlying39,run_underlying Tryz.underlying5,markStringish,hsh,Result.andThen]
def KB (K:Nat→Prop) (w0 w:World) (k:Nat):Prop:=k<w.heap.size∧(K k∨w0.heap.size+3≤k)
theorem KB.mono {K:Nat→Prop} {w0 w w':World} {k:Nat} (h:KB K w0 w k) (hb:Below w.heap.size w w'):KB K w0 w' k:=⟨WW h.1 hb.size,h.2⟩
structure Ur (K:Nat→Prop) (w0:World) (k:Nat) (w:World) (v:Mv) (m:W8):Prop where
 box:w.heap[w0.heap.size]?=some (.cells v.cells 33 (0,0))
 res:w.heap[w0.heap.size+1+1]?=some (.cells Ww 33 (0,0))
 at_:WQ (KB K w0 w) w v m
 sz:Sz k m
 bl:Below w0.heap.size w0 w
 three:w0.heap.size+3≤w.heap.size
 lo:∀ k,K k→k<w0.heap.size
theorem Ur.below {K:Nat→Prop} {w0 w w':World} {k:Nat} {v:Mv} {m:W8} (h:Ur K w0 k w v m) (hb:Below w.heap.size w w'):Ur K w0 k w' v m :=
 ⟨(hb.block _ (by have:=h.three;omega)).trans h.box,(hb.block _ (by have:=h.three;omega)).trans h.res,h.at_.keep (Wf.below hb fun _ hk=>hk.1) fun _ hk=>hk.mono hb,h.sz,h.bl.trans (hb.mono h.bl.size),Nat.le_trans h.three hb.size,h.lo⟩
theorem Ur.set {K:Nat→Prop} {w0 w:World} {k k':Nat} {v v':Mv} {m m':W8} (h:Ur K w0 k w v m) (i:Nat) (u:Value) (hv:v.cells.setIfInBounds i u=v'.cells) (h2:WQ (KB K w0 w) w v' m') (hs:Sz k' m'):Ur K w0 k' (w.setCell ⟨w0.heap.size,i,none⟩ u) v' m':=by
 have hk:Wf (KB K w0 w) w (w.setCell ⟨w0.heap.size,i,none⟩ u):=Wf.setCell w (fun hk=>hk.2.elim (fun h2=>Nat.lt_irrefl _ (h.lo _ h2)) fun h2=>by simp only at h2;omega) u;have h1:=Wh w w0.heap.size i _ _ u h.box;rw[hv]at h1;refine⟨h1,?_,h2.keep hk fun _ hk2=>⟨WW hk2.1 hk.size,hk2.2⟩,hs,h.bl.setCell (by exact nR _) u,Nat.le_trans h.three hk.size,h.lo⟩;rw[← h.res];exact Below.heap_setCell _ _ _ _ (fun e=>by simp only at e;omega)
theorem Ur.frozen {K:Nat→Prop} {w0 w:World} {k:Nat} {v:Mv} {m:W8} (h:Ur K w0 k w v m) (i:Nat):w.frozen? ⟨w0.heap.size,i,none⟩=false:=by simp[World.frozen?,h.box]
theorem Tryz.infoType:(Tryz.prog.info? 66).map (fun i=>(i.zero,i.size,i.bytes))=some (some (.agg #[.slice none 0 0,.slice none 0 0]),2,48):=by kernel_rfl
theorem Ur.news0 {K:Nat→Prop} {w0 w:World} {k:Nat} {v:Mv} {m:W8} (h:Ur K w0 k w v m):∃ us,VG w v.m0 m.types.length us∧WH (typCell (KB K w0 w) w) 2 (bndT) us m.types.length∧(∀ u ∈ us,u.oneCell'=true)∧m.types.length≤1000+k:=by
 obtain⟨us,h1,h2⟩:=Wd.goodR (d:=([],[])) (cf:=typCell (KB K w0 w) w) (bnd:=bndT) h.at_.types h.sz.types.2;exact⟨us,h1,h2,h2.ones typ_one,h.sz.types.1⟩
theorem Ur.push0 {K:Nat→Prop} {w0 w x:World} {k n:Nat} {v:Mv} {m:W8} {vA:Value} {us cs:List Value} {rest:List W7} (h:Ur K w0 k w v m) (hR:Rows w x (⟨66,2,vA,n+1,us++cs,true⟩ :: rest)) (hg:WH (typCell (KB K w0 w) w) 2 (bndT) us n) (hn:m.types.length=n) (hc:WH (typCell (KB K w0 x) x) 2 (bndT) cs 1) :
 ∃ m',Ur K w0 (k+1) (x.setCell ⟨w0.heap.size,0,none⟩ vA) { v with m0:=vA } m':=by
 have hX:=h.below hR.bl;have hw:=h.three;obtain⟨l',h1,h2,h3⟩:=WH.rows (K:=KB K w0 x) (cf:=typCell (KB K w0 x) x) (bnd:=bndT) ([],[]) ((hg.mono (fun _ _ _ h=>Wg.keep h (Wf.below hR.bl fun _ hk=>hk.1) fun _ hk=>KB.mono hk hR.bl) fun _ h=>h).append hc) hR.head fun g hg=>⟨hR.lt (List.mem_cons_self ..) hg,.inr (by have:=hR.nw _ (List.mem_cons_self ..) g hg;omega)⟩;exact⟨{ m with types:=l' },hX.set 0 vA rfl { hX.at_ with types:=h3 } { hX.sz.le (Nat.le_succ k) with types:=⟨by show l'.length≤_;have:=h.sz.types.1;omega,h2⟩ }⟩
theorem Tryz.infoImport:(Tryz.prog.info? 52).map (fun i=>(i.zero,i.size,i.bytes))=some (some (.agg #[.string ⟨#[]⟩,.string ⟨#[]⟩,.int .i64 0]),3,40):=by kernel_rfl
theorem Ur.news1 {K:Nat→Prop} {w0 w:World} {k:Nat} {v:Mv} {m:W8} (h:Ur K w0 k w v m):∃ us,VG w v.m1 m.imps.length us∧WH (impCell) 3 (fun _=>True) us m.imps.length∧(∀ u ∈ us,u.oneCell'=true)∧m.imps.length≤1000+k:=by
 obtain⟨us,h1,h2⟩:=Wd.goodR (d:=(ByteArray.empty,ByteArray.empty,0)) (cf:=impCell) (bnd:=fun _=>True) h.at_.imps (fun _ _=>trivial);exact⟨us,h1,h2,h2.ones imp_one,h.sz.imps⟩
theorem Ur.push1 {K:Nat→Prop} {w0 w x:World} {k n:Nat} {v:Mv} {m:W8} {vA:Value} {us cs:List Value} {rest:List W7} (h:Ur K w0 k w v m) (hR:Rows w x (⟨52,3,vA,n+1,us++cs,true⟩ :: rest)) (hg:WH (impCell) 3 (fun _=>True) us n) (hn:m.imps.length=n) (hc:WH (impCell) 3 (fun _=>True) cs 1) :
 ∃ m',Ur K w0 (k+1) (x.setCell ⟨w0.heap.size,1,none⟩ vA) { v with m1:=vA } m':=by
 have hX:=h.below hR.bl;have hw:=h.three;obtain⟨l',h1,h2,h3⟩:=WH.rows (K:=KB K w0 x) (cf:=impCell) (bnd:=fun _=>True) (ByteArray.empty,ByteArray.empty,0) ((hg.mono (fun _ _ _ h=>h) fun _ h=>h).append hc) hR.head fun g hg=>⟨hR.lt (List.mem_cons_self ..) hg,.inr (by have:=hR.nw _ (List.mem_cons_self ..) g hg;omega)⟩;exact⟨{ m with imps:=l' },hX.set 1 vA rfl { hX.at_ with imps:=h3 } { hX.sz.le (Nat.le_succ k) with imps:=(by show l'.length≤_;have:=h.sz.imps;omega) }⟩
theorem Ur.news2 {K:Nat→Prop} {w0 w:World} {k:Nat} {v:Mv} {m:W8} (h:Ur K w0 k w v m):∃ us,VG w v.m2 m.funs.length us∧WH (VU (KB K w0 w) w) 3 (bndF k) us m.funs.length∧(∀ u ∈ us,u.oneCell'=true)∧m.funs.length≤1000+k:=by
 obtain⟨us,h1,h2⟩:=Wd.goodR (d:=VF) (cf:=VU (KB K w0 w) w) (bnd:=bndF k) h.at_.funs h.sz.funs.2;exact⟨us,h1,h2,h2.ones fnc_one,h.sz.funs.1⟩
theorem Ur.news3 {K:Nat→Prop} {w0 w:World} {k:Nat} {v:Mv} {m:W8} (h:Ur K w0 k w v m):∃ us,VG w v.m3 m.mems.length us∧WH (memCell) 2 (fun _=>True) us m.mems.length∧(∀ u ∈ us,u.oneCell'=true)∧m.mems.length≤1000+k:=by
 obtain⟨us,h1,h2⟩:=Wd.goodR (d:=(0,0)) (cf:=memCell) (bnd:=fun _=>True) h.at_.mems (fun _ _=>trivial);exact⟨us,h1,h2,h2.ones mem_one,h.sz.mems⟩
theorem Ur.push3 {K:Nat→Prop} {w0 w x:World} {k n:Nat} {v:Mv} {m:W8} {vA:Value} {us cs:List Value} {rest:List W7} (h:Ur K w0 k w v m) (hR:Rows w x (⟨55,2,vA,n+1,us++cs,true⟩ :: rest)) (hg:WH (memCell) 2 (fun _=>True) us n) (hn:m.mems.length=n) (hc:WH (memCell) 2 (fun _=>True) cs 1) :
 ∃ m',Ur K w0 (k+1) (x.setCell ⟨w0.heap.size,3,none⟩ vA) { v with m3:=vA } m':=by
 have hX:=h.below hR.bl;have hw:=h.three;obtain⟨l',h1,h2,h3⟩:=WH.rows (K:=KB K w0 x) (cf:=memCell) (bnd:=fun _=>True) (0,0) ((hg.mono (fun _ _ _ h=>h) fun _ h=>h).append hc) hR.head fun g hg=>⟨hR.lt (List.mem_cons_self ..) hg,.inr (by have:=hR.nw _ (List.mem_cons_self ..) g hg;omega)⟩;exact⟨{ m with mems:=l' },hX.set 3 vA rfl { hX.at_ with mems:=h3 } { hX.sz.le (Nat.le_succ k) with mems:=(by show l'.length≤_;have:=h.sz.mems;omega) }⟩
theorem Tryz.infoGlobal:(Tryz.prog.info? 44).map (fun i=>(i.zero,i.size,i.bytes))=some (some (.agg #[.int .i64 0,.bool false,.int .u64 0]),3,24):=by kernel_rfl
theorem Ur.news4 {K:Nat→Prop} {w0 w:World} {k:Nat} {v:Mv} {m:W8} (h:Ur K w0 k w v m):∃ us,VG w v.m4 m.globs.length us∧WH (VX) 3 (fun _=>True) us m.globs.length∧(∀ u ∈ us,u.oneCell'=true)∧m.globs.length≤1000+k:=by
 obtain⟨us,h1,h2⟩:=Wd.goodR (d:=(0,false,0)) (cf:=VX) (bnd:=fun _=>True) h.at_.globs (fun _ _=>trivial);exact⟨us,h1,h2,h2.ones glob_one,h.sz.globs⟩
theorem Ur.push4 {K:Nat→Prop} {w0 w x:World} {k n:Nat} {v:Mv} {m:W8} {vA:Value} {us cs:List Value} {rest:List W7} (h:Ur K w0 k w v m) (hR:Rows w x (⟨44,3,vA,n+1,us++cs,true⟩ :: rest)) (hg:WH (VX) 3 (fun _=>True) us n) (hn:m.globs.length=n) (hc:WH (VX) 3 (fun _=>True) cs 1) :
 ∃ m',Ur K w0 (k+1) (x.setCell ⟨w0.heap.size,4,none⟩ vA) { v with m4:=vA } m':=by
 have hX:=h.below hR.bl;have hw:=h.three;obtain⟨l',h1,h2,h3⟩:=WH.rows (K:=KB K w0 x) (cf:=VX) (bnd:=fun _=>True) (0,false,0) ((hg.mono (fun _ _ _ h=>h) fun _ h=>h).append hc) hR.head fun g hg=>⟨hR.lt (List.mem_cons_self ..) hg,.inr (by have:=hR.nw _ (List.mem_cons_self ..) g hg;omega)⟩;exact⟨{ m with globs:=l' },hX.set 4 vA rfl { hX.at_ with globs:=h3 } { hX.sz.le (Nat.le_succ k) with globs:=(by show l'.length≤_;have:=h.sz.globs;omega) }⟩
theorem Ur.news5 {K:Nat→Prop} {w0 w:World} {k:Nat} {v:Mv} {m:W8} (h:Ur K w0 k w v m):∃ us,VG w v.m5 m.exps.length us∧WH (expCell) 3 (fun _=>True) us m.exps.length∧(∀ u ∈ us,u.oneCell'=true)∧m.exps.length≤1000+k:=by
 obtain⟨us,h1,h2⟩:=Wd.goodR (d:=(ByteArray.empty,0,0)) (cf:=expCell) (bnd:=fun _=>True) h.at_.exps (fun _ _=>trivial);exact⟨us,h1,h2,h2.ones exp_one,h.sz.exps⟩
theorem Ur.push5 {K:Nat→Prop} {w0 w x:World} {k n:Nat} {v:Mv} {m:W8} {vA:Value} {us cs:List Value} {rest:List W7} (h:Ur K w0 k w v m) (hR:Rows w x (⟨59,3,vA,n+1,us++cs,true⟩ :: rest)) (hg:WH (expCell) 3 (fun _=>True) us n) (hn:m.exps.length=n) (hc:WH (expCell) 3 (fun _=>True) cs 1) :
 ∃ m',Ur K w0 (k+1) (x.setCell ⟨w0.heap.size,5,none⟩ vA) { v with m5:=vA } m':=by
 have hX:=h.below hR.bl;have hw:=h.three;obtain⟨l',h1,h2,h3⟩:=WH.rows (K:=KB K w0 x) (cf:=expCell) (bnd:=fun _=>True) (ByteArray.empty,0,0) ((hg.mono (fun _ _ _ h=>h) fun _ h=>h).append hc) hR.head fun g hg=>⟨hR.lt (List.mem_cons_self ..) hg,.inr (by have:=hR.nw _ (List.mem_cons_self ..) g hg;omega)⟩;exact⟨{ m with exps:=l' },hX.set 5 vA rfl { hX.at_ with exps:=h3 } { hX.sz.le (Nat.le_succ k) with exps:=(by show l'.length≤_;have:=h.sz.exps;omega) }⟩
theorem Tryz.infoData:(Tryz.prog.info? 57).map (fun i=>(i.zero,i.size,i.bytes))=some (some (.agg #[.bool false,.int .i64 0,.int .i64 0,.slice none 0 0]),4,48):=by kernel_rfl
theorem Ur.news6 {K:Nat→Prop} {w0 w:World} {k:Nat} {v:Mv} {m:W8} (h:Ur K w0 k w v m):∃ us,VG w v.m6 m.datas.length us∧WH (UI (KB K w0 w) w) 4 (bndD) us m.datas.length∧(∀ u ∈ us,u.oneCell'=true)∧m.datas.length≤1000+k:=by
 obtain⟨us,h1,h2⟩:=Wd.goodR (d:=dat0) (cf:=UI (KB K w0 w) w) (bnd:=bndD) h.at_.datas h.sz.datas.2;exact⟨us,h1,h2,h2.ones dat_one,h.sz.datas.1⟩
theorem Ur.push6 {K:Nat→Prop} {w0 w x:World} {k n:Nat} {v:Mv} {m:W8} {vA:Value} {us cs:List Value} {rest:List W7} (h:Ur K w0 k w v m) (hR:Rows w x (⟨57,4,vA,n+1,us++cs,true⟩ :: rest)) (hg:WH (UI (KB K w0 w) w) 4 (bndD) us n) (hn:m.datas.length=n) (hc:WH (UI (KB K w0 x) x) 4 (bndD) cs 1) :
 ∃ m',Ur K w0 (k+1) (x.setCell ⟨w0.heap.size,6,none⟩ vA) { v with m6:=vA } m':=by
 have hX:=h.below hR.bl;have hw:=h.three;obtain⟨l',h1,h2,h3⟩:=WH.rows (K:=KB K w0 x) (cf:=UI (KB K w0 x) x) (bnd:=bndD) dat0 ((hg.mono (fun _ _ _ h=>UI.keep h (Wf.below hR.bl fun _ hk=>hk.1) fun _ hk=>KB.mono hk hR.bl) fun _ h=>h).append hc) hR.head fun g hg=>⟨hR.lt (List.mem_cons_self ..) hg,.inr (by have:=hR.nw _ (List.mem_cons_self ..) g hg;omega)⟩;exact⟨{ m with datas:=l' },hX.set 6 vA rfl { hX.at_ with datas:=h3 } { hX.sz.le (Nat.le_succ k) with datas:=⟨by show l'.length≤_;have:=h.sz.datas.1;omega,h2⟩ }⟩
theorem Tryz.infoCustom:(Tryz.prog.info? 41).map (fun i=>(i.zero,i.size,i.bytes))=some (some (.agg #[.string ⟨#[]⟩,.slice none 0 0]),2,40):=by kernel_rfl
theorem Ur.news7 {K:Nat→Prop} {w0 w:World} {k:Nat} {v:Mv} {m:W8} (h:Ur K w0 k w v m):∃ us,VG w v.m7 m.cus.length us∧WH (UM (KB K w0 w) w) 2 (bndC) us m.cus.length∧(∀ u ∈ us,u.oneCell'=true)∧m.cus.length≤1000+k:=by
 obtain⟨us,h1,h2⟩:=Wd.goodR (d:=(ByteArray.empty,[])) (cf:=UM (KB K w0 w) w) (bnd:=bndC) h.at_.cus h.sz.cus.2;exact⟨us,h1,h2,h2.ones cus_one,h.sz.cus.1⟩
theorem Ur.push7 {K:Nat→Prop} {w0 w x:World} {k n:Nat} {v:Mv} {m:W8} {vA:Value} {us cs:List Value} {rest:List W7} (h:Ur K w0 k w v m) (hR:Rows w x (⟨41,2,vA,n+1,us++cs,true⟩ :: rest)) (hg:WH (UM (KB K w0 w) w) 2 (bndC) us n) (hn:m.cus.length=n) (hc:WH (UM (KB K w0 x) x) 2 (bndC) cs 1) :
 ∃ m',Ur K w0 (k+1) (x.setCell ⟨w0.heap.size,7,none⟩ vA) { v with m7:=vA } m':=by
 have hX:=h.below hR.bl;have hw:=h.three;obtain⟨l',h1,h2,h3⟩:=WH.rows (K:=KB K w0 x) (cf:=UM (KB K w0 x) x) (bnd:=bndC) (ByteArray.empty,[]) ((hg.mono (fun _ _ _ h=>UM.keep h (Wf.below hR.bl fun _ hk=>hk.1) fun _ hk=>KB.mono hk hR.bl) fun _ h=>h).append hc) hR.head fun g hg=>⟨hR.lt (List.mem_cons_self ..) hg,.inr (by have:=hR.nw _ (List.mem_cons_self ..) g hg;omega)⟩;exact⟨{ m with cus:=l' },hX.set 7 vA rfl { hX.at_ with cus:=h3 } { hX.sz.le (Nat.le_succ k) with cus:=⟨by show l'.length≤_;have:=h.sz.cus.1;omega,h2⟩ }⟩
theorem W7.in_.cells {r:W7} {w:World} (h:r.in_ w) {g n c:Nat} (hs:r.xs.length=r.n * r.size) (hv:r.v=.slice (some ⟨g,0,none⟩) n c):∀ j u,r.xs[j]?=some u→w.cell? ⟨g,j,none⟩=some u:=by
 intro j u hu;have hj:j<r.n * r.size:=by
  rcases Nat.lt_or_ge j r.xs.length with h1|h1
  ·omega
  ·rw[List.getElem?_eq_none h1]at hu;cases hu
 unfold W7.in_ at h
 split at h
 ·obtain⟨e,size,v,n',xs,live⟩:=r;simp only at hv;subst hv;have h2:=h.2;rcases h2 with ⟨h2,_⟩|⟨g',cap,cur,h2,_⟩
  ·cases h2
  ·simp only[vI,Option.some.injEq,Addr.mk.injEq]at h2;obtain⟨_,rfl,rfl⟩:=h2;rw[h.cellAt j hj];exact hu
 ·obtain⟨g',c',h1,_,_,h3⟩:=h;rw[hv]at h1;simp only[vI,Option.some.injEq,Addr.mk.injEq]at h1;obtain⟨⟨rfl,_⟩,_⟩:=h1;exact h3 j u hu
theorem Rows.intsK {w4 x:World} {l:List W7} (h:Rows w4 x l) {K:Nat→Prop} (hK:∀ g,w4.heap.size≤g→g<x.heap.size→K g) {e:TypeId} {v:Value} {n:Nat} {zs:List Int} (hr:(⟨e,1,v,n,zs.map (Value.int .i64),true⟩:W7) ∈ l) (hn:zs.length=n) (hm:n≤maxLen):Wg K x v zs:=by
 have ho:=(h.ow _ hr).own rfl;rcases ho.2 with ⟨hv,h0⟩|⟨g,c,cur,hv,_⟩
 ·simp only at hv h0;subst hv;obtain rfl:=List.eq_nil_of_length_eq_zero (hn.trans h0);exact .nil _ _
 ·simp only at hv;subst hv;refine⟨_,c,by rw[hn],by omega,fun h=>(by cases h),fun _=>⟨g,0,rfl,hK g (h.nw _ hr g rfl) (h.lt hr rfl),fun j hj=>?_⟩⟩;rw[Nat.zero_add];exact(ho.cellAt j (by simp only;omega)).trans (by simp[hj])
theorem Ur.funs {K:Nat→Prop} {w0 w x:World} {k n i0 q gF cF:Nat} {v:Mv} {m:W8} {us:List Value} {u0:Value} {rest:List W7} (h:Ur K w0 k w v m) (hR:Rows w x (⟨62,3,.slice (some ⟨gF,0,none⟩) n cF,n,us,true⟩ :: rest)) (hg:WH (VU (KB K w0 w) w) 3 (bndF k) us n) (hn:m.funs.length=n) (hq:q<n) (hi:i0<3)
 (f:Fnc→Fnc) (hf:∀ y,bndF k y→bndF (k+1) (f y)∧∀ K wz i u,i<3→i≠i0→VU K wz y i u→VU K wz (f y) i u) (hu:∀ y,VU (fun g=>KB K w0 x g∧g≠gF) x (f y) i0 u0) :
 ∃ m',Ur K w0 (k+1) ((x.setCell ⟨gF,q * 3+i0,none⟩ u0).setCell ⟨w0.heap.size,2,none⟩ (.slice (some ⟨gF,0,none⟩) n cF)) { v with m2:=.slice (some ⟨gF,0,none⟩) n cF } m':=by
 have hw:=h.three;have hgF:w.heap.size≤gF:=hR.nw _ (List.mem_cons_self ..) gF rfl;have hgx:gF<x.heap.size:=hR.lt (List.mem_cons_self ..) rfl;have hst:=(hR.head.stored (q * 3+i0) u0).1;have hkp:Wf (fun g=>KB K w0 x g∧g≠gF) x (x.setCell ⟨gF,q * 3+i0,none⟩ u0):=Wf.setCell x (fun hk=>hk.2 rfl) u0;have hX:=h.below (hR.bl.setCell (p:=⟨gF,q * 3+i0,none⟩) hgF u0);have h1:=hg.mono (cf':=VU (fun g=>KB K w0 x g∧g≠gF) x) (bnd':=bndF k) (fun _ _ _ h=>VU.keep h (Wf.below hR.bl fun _ hk=>hk.1) fun _ hk=>⟨KB.mono hk hR.bl,fun e=>by have:=hk.1;omega⟩) fun _ h=>h;have h2:=h1.set q i0 hq hi u0 f (bnd':=bndF (k+1)) (fun y h=>h.le (Nat.le_succ k)) fun y hy=>⟨(hf y hy).1,hu y,fun i u hi hne h=>(hf y hy).2 _ _ i u hi hne h⟩;have h3:=h2.mono (cf':=VU (KB K w0 (x.setCell ⟨gF,q * 3+i0,none⟩ u0)) (x.setCell ⟨gF,q * 3+i0,none⟩ u0)) (bnd':=bndF (k+1)) (fun _ _ _ h=>VU.keep h hkp fun _ hk=>⟨WW hk.1.1 hkp.size,hk.1.2⟩) fun _ h=>h;obtain⟨l',r1,r2,r3⟩:=h3.rows (K:=KB K w0 (x.setCell ⟨gF,q * 3+i0,none⟩ u0)) VF hst fun g hg=>by
  have e:some gF=some g:=hg;simp only[Option.some.injEq]at e;exact⟨by have:=hkp.size;omega,.inr (by omega)⟩
 exact⟨{ m with funs:=l' },hX.set 2 _ rfl { hX.at_ with funs:=r3 } { hX.sz.le (Nat.le_succ k) with funs:=⟨by show l'.length≤_;have:=h.sz.funs.1;omega,r2⟩,fp:=by show 0<l'.length;have:=h.sz.fp;omega }⟩
theorem Rows.ints {K:Nat→Prop} {w0 w4 x:World} {l:List W7} (h:Rows w4 x l) (h3:w0.heap.size+3≤w4.heap.size) {e:TypeId} {y n c:Nat} {zs:List Int} {b:Bool} (hr:(⟨e,1,.slice (some ⟨y,0,none⟩) n c,n,zs.map (Value.int .i64),b⟩:W7) ∈ l) (hn:zs.length=n) (hm:n≤maxLen):Wg (KB K w0 x) x (.slice (some ⟨y,0,none⟩) n c) zs:=by
 have hc:=(h.ow _ hr).cells (g:=y) (n:=n) (c:=c) (by simp[hn]) rfl;refine⟨_,c,by rw[hn],by omega,fun h=>(by cases h),fun _=>⟨y,0,rfl,⟨h.lt hr rfl,.inr (by have:=h.nw _ hr y rfl;omega)⟩,fun j hj=>?_⟩⟩;rw[Nat.zero_add];exact hc j _ (by simp[hj])
theorem Rows.bytes {K:Nat→Prop} {w0 w4 x:World} {l:List W7} (h:Rows w4 x l) (h3:w0.heap.size+3≤w4.heap.size) {e:TypeId} {y n c:Nat} {zs:List Nat} {b:Bool} (hr:(⟨e,1,.slice (some ⟨y,0,none⟩) n c,n,zs.map mbyt,b⟩:W7) ∈ l) (hn:zs.length=n) (hm:n≤maxLen) (hnc:n≤c) (hz:∀ b ∈ zs,b<256):UJ (KB K w0 x) x (.slice (some ⟨y,0,none⟩) n c) zs:=by
 have hc:=(h.ow _ hr).cells (g:=y) (n:=n) (c:=c) (by simp[hn]) rfl;refine⟨_,c,by rw[hn],by omega,by omega,fun h=>(by cases h),fun _=>⟨y,0,rfl,⟨h.lt hr rfl,.inr (by have:=h.nw _ hr y rfl;omega)⟩,fun j hj=>?_⟩,hz⟩;rw[Nat.zero_add];exact hc j _ (by simp[mbyt,hj])
structure BoxC (w0 w:World) (v:Mv):Prop where
 c0:w.cell? ⟨w0.heap.size,0,none⟩=some v.m0
 c1:w.cell? ⟨w0.heap.size,1,none⟩=some v.m1
 c2:w.cell? ⟨w0.heap.size,2,none⟩=some v.m2
 c3:w.cell? ⟨w0.heap.size,3,none⟩=some v.m3
 c4:w.cell? ⟨w0.heap.size,4,none⟩=some v.m4
 c5:w.cell? ⟨w0.heap.size,5,none⟩=some v.m5
 c6:w.cell? ⟨w0.heap.size,6,none⟩=some v.m6
 c7:w.cell? ⟨w0.heap.size,7,none⟩=some v.m7
structure TrnC (w0 w:World) (what pos to_ tn op ra rb rn:Int) (Lv:Value):Prop where
 t0:w.cell? ⟨w0.heap.size+1,0,none⟩=some (.int .i64 what)
 t1:w.cell? ⟨w0.heap.size+1,1,none⟩=some (.int .i64 pos)
 t2:w.cell? ⟨w0.heap.size+1,2,none⟩=some (.int .i64 to_)
 t3:w.cell? ⟨w0.heap.size+1,3,none⟩=some (.int .u64 tn)
 t4:w.cell? ⟨w0.heap.size+1,4,none⟩=some (.int .i64 op)
 t5:w.cell? ⟨w0.heap.size+1,5,none⟩=some (.int .i64 ra)
 t6:w.cell? ⟨w0.heap.size+1,6,none⟩=some (.int .i64 rb)
 t7:w.cell? ⟨w0.heap.size+1,7,none⟩=some (.int .u64 rn)
 t8:w.cell? ⟨w0.heap.size+1,8,none⟩=some Lv
theorem Ur.cells {K:Nat→Prop} {w0 w:World} {k:Nat} {v:Mv} {m:W8} (h:Ur K w0 k w v m):BoxC w0 w v:=by
 exact ZbF
theorem owns_block {w:World} {base:Nat} {e:TypeId} {size n n' c:Nat} {B:Option Addr} {xs:List Value} (h:w.ownsRow base e size (.slice B n' c) n xs) (hn:0<n):∃ g,B=some ⟨g,0,none⟩:=by
 rcases h.2 with ⟨_,h0⟩|⟨g,cap,cur,hv,_⟩
 ·omega
 ·simp only[vI]at hv;exact⟨g,hv.1⟩
theorem box_far {w0 w:World} {gF:Nat} (h:w0.heap.size+3≤w.heap.size) (hg:w.heap.size≤gF):gF≠w0.heap.size:=by omega
theorem far_cell {w:World} {u v:Value} {gF M i j:Nat} (h:w.cell? ⟨M,j,none⟩=some v) (hne:gF≠M):(w.setCell ⟨gF,i,none⟩ u).cell? ⟨M,j,none⟩=some v:=by
 rw[World.cell?_setCell_far _ _ _ _ (by exact hne)];exact h
theorem far_frozen {w:World} {u:Value} {gF M i j:Nat} (h:w.frozen? ⟨M,j,none⟩=false) (hne:gF≠M):(w.setCell ⟨gF,i,none⟩ u).frozen? ⟨M,j,none⟩=false:=by
 unfold World.frozen? at h ⊢;rw[show(w.setCell ⟨gF,i,none⟩ u).heap[M]?=w.heap[M]? from Below.heap_setCell _ _ _ _ (by exact fun e=>hne e.symm)];exact h
theorem and3_ways (z:Int):∃ r:Nat,r<4∧Go.bits .and .i64 z 3=(r:Int):=by
 refine⟨(z % 4).toNat,by omega,?_⟩;have h:BitVec.ofInt 64 z &&& BitVec.ofInt 64 3=BitVec.ofInt 64 (z % 4):=by
  apply BitVec.eq_of_toNat_eq
  rw[BitVec.toNat_and,BitVec.toNat_ofInt,BitVec.toNat_ofInt,BitVec.toNat_ofInt];have e:((3:Int) % ((2 ^ 64:Nat):Int)).toNat=2 ^ 2 - 1:=by decide
  rw[e,Nat.and_two_pow_sub_one_eq_mod];omega
 show IntKind.i64.wrap ((BitVec.ofInt 64 z &&& BitVec.ofInt 64 3).toNat:Int)=_;rw[h,BitVec.toNat_ofInt,IntKind.wrap_i64];omega
theorem lit3_at (z:Int) (r:Nat) (hr:r<3):∃ u:Int,([.int .i64 127,.int .i64 124,.int .i64 z]:List Value)[r]?=some (.int .i64 u):=by
 rcases(show r=0∨r=1∨r=2 by omega) with rfl|rfl|rfl
 ·exact⟨_,rfl⟩
 ·exact⟨_,rfl⟩
 ·exact⟨_,rfl⟩
theorem lit4_at (z:Int) (r:Nat) (hr:r<4):∃ u:Int,([.int .i64 127,.int .i64 126,.int .i64 124,.int .i64 z]:List Value)[r]?=some (.int .i64 u):=by
 rcases(show r=0∨r=1∨r=2∨r=3 by omega) with rfl|rfl|rfl|rfl
 ·exact⟨_,rfl⟩
 ·exact⟨_,rfl⟩
 ·exact⟨_,rfl⟩
 ·exact⟨_,rfl⟩
theorem byte_of (z:Int):∃ b:Nat,IntKind.u8.wrap z=(b:Int)∧b<256:=⟨(IntKind.u8.wrap z).toNat,by
 have:IntKind.u8.wrap z=z % 256:=rfl;rw[this];omega⟩
def OddPost (K:Nat→Prop) (k:Nat) (w:World) (e:Ending) (w':World):Prop:=∃ v m,e=.returned (.agg v.cells)∧WQ (fun g=>K g∨w.heap.size≤g∧g<w'.heap.size) w' v m∧Sz k m∧Below w.heap.size w w'
theorem tmod_emod (n m:Int) (hm:0<m):n % m=if n.tmod m<0 then n.tmod m+m else n.tmod m:=by
 have h1:=Int.tmod_lt_of_pos n hm;have h2:=Int.lt_tmod_of_pos n hm;have h3:=Int.mul_tdiv_add_tmod n m;have h4:n % m=(n.tmod m) % m:=by
  conv=>lhs;rw[← h3]
  rw[Int.add_comm,Int.add_mul_emod_self_left]
 rw[h4]
 split
 ·rw[← Int.add_emod_right,Int.emod_eq_of_lt (by omega) (by omega)]
 ·exact Int.emod_eq_of_lt (by omega) h1
theorem within0_is (n:Int) (h:Nat) (hh:h≤1048576) (w:World) :
 Calls Tryz.prog 24 #[.int .i64 n,.int .i64 0,.int .i64 (h:Int)] w fun e w'=>e=.returned (.int .i64 (n % ((h:Int)+1)))∧w=w':=by
 have hz:((h:Int) - 0+1==0)=false:=by simp;omega
 have hz2:((h:Int)+1==0)=false:=by simp;omega
 have h0:(0:Int)<(h:Int)+1:=by omega
 have t0:=Int.lt_tmod_of_pos n h0;have t1:=Int.tmod_lt_of_pos n h0;have e0:=Int.emod_nonneg n (Int.ne_of_gt h0);have e1:=Int.emod_lt_of_pos n h0;have HM:=hD (tmod_emod n ((h:Int)+1) h0);have HI:=hD (fun (a:0≤n) (b:n<(h:Int)+1)=>Int.emod_eq_of_lt a b);go_enter Tryz.func24,Tryz.ntmps24;go_wp2
 all_goals go_ret
 all_goals refine⟨ret_int ?_,rfl⟩
 all_goals have hm:=HM.out
 all_goals first|rfl|(have:=HI.out (by omega) (by omega);omega)|(split at hm <;> omega)
end Go.Proofs.YtepgopnnaeoolaaGreatDoor
