/- A part of the proof. -/
import Derived.Test.YtgmgcadlkebokaaGreatDoorJ3
import Derived.Test.YtgmgcadlkebokaaGreatDoorJ19
namespace Go.Proofs.YtgmgcadlkebokaaGreatDoor
section
open Go.RowKit
theorem Zcn {P:Prop}(h:P:=by
 have hc:∀ i,w.cell? ⟨w0.heap.size,i,none⟩=v.cells[i]?:=fun i=>by simp[World.cell?,h.box]
 exact⟨hc 0,hc 1,hc 2,hc 3,hc 4,hc 5,hc 6,hc 7⟩):P:=h
theorem conv_owned {w:World} {y n:Nat} {xs:List Value} (h:w.ownsRow 0 5 1 (.slice (some ⟨y,0,none⟩) n n) n xs):(convert 57 57 (.slice (some ⟨y,0,none⟩) n n)).run Tryz.prog w=.ok (.slice (some ⟨y,0,none⟩) n n) (w.freeze ⟨y,n,none⟩ 1):=by
 have hsh:w.shape? y=some (5,n):=by
  rcases h.2 with ⟨hv,_⟩|⟨g',cap,cur,hv,_,hb,_,_,hs,_⟩
  ·cases hv
  ·simp only[vI,Option.some.injEq,Addr.mk.injEq]at hv;obtain⟨⟨rfl,_⟩,_,rfl⟩:=hv;simp[World.shape?,hb,hs]
 simp[convert,run_underlying Tryz.underlying57,run_underlying Tryz.underlying5,markStringish,hsh,Result.andThen]
def KB (K:Nat→Prop) (w0 w:World) (k:Nat):Prop:=k<w.heap.size∧(K k∨w0.heap.size+3≤k)
theorem KB.mono {K:Nat→Prop} {w0 w w':World} {k:Nat} (h:KB K w0 w k) (hb:Below w.heap.size w w'):KB K w0 w' k:=⟨WK h.1 hb.size,h.2⟩
structure Uw (K:Nat→Prop) (w0:World) (k:Nat) (w:World) (v:Mv) (m:Vz):Prop where
 box:w.heap[w0.heap.size]?=some (.cells v.cells 36 (0,0))
 res:w.heap[w0.heap.size+1+1]?=some (.cells Wv 36 (0,0))
 at_:WL (KB K w0 w) w v m
 sz:Sz k m
 bl:Below w0.heap.size w0 w
 three:w0.heap.size+3≤w.heap.size
 lo:∀ k,K k→k<w0.heap.size
theorem Uw.below {K:Nat→Prop} {w0 w w':World} {k:Nat} {v:Mv} {m:Vz} (h:Uw K w0 k w v m) (hb:Below w.heap.size w w'):Uw K w0 k w' v m :=
 ⟨(hb.block _ (by have:=h.three;omega)).trans h.box,(hb.block _ (by have:=h.three;omega)).trans h.res,h.at_.keep (We.below hb fun _ hk=>hk.1) fun _ hk=>hk.mono hb,h.sz,h.bl.trans (hb.mono h.bl.size),Nat.le_trans h.three hb.size,h.lo⟩
theorem Uw.set {K:Nat→Prop} {w0 w:World} {k k':Nat} {v v':Mv} {m m':Vz} (h:Uw K w0 k w v m) (i:Nat) (u:Value) (hv:v.cells.setIfInBounds i u=v'.cells) (h2:WL (KB K w0 w) w v' m') (hs:Sz k' m'):Uw K w0 k' (w.setCell ⟨w0.heap.size,i,none⟩ u) v' m':=by
 have hk:We (KB K w0 w) w (w.setCell ⟨w0.heap.size,i,none⟩ u):=We.setCell w (fun hk=>hk.2.elim (fun h2=>Nat.lt_irrefl _ (h.lo _ h2)) fun h2=>by simp only at h2;omega) u;have h1:=Wi w w0.heap.size i _ _ u h.box;rw[hv]at h1;refine⟨h1,?_,h2.keep hk fun _ hk2=>⟨WK hk2.1 hk.size,hk2.2⟩,hs,h.bl.setCell (by exact nR _) u,Nat.le_trans h.three hk.size,h.lo⟩;rw[← h.res];exact Below.heap_setCell _ _ _ _ (fun e=>by simp only at e;omega)
theorem Uw.frozen {K:Nat→Prop} {w0 w:World} {k:Nat} {v:Mv} {m:Vz} (h:Uw K w0 k w v m) (i:Nat):w.frozen? ⟨w0.heap.size,i,none⟩=false:=by simp[World.frozen?,h.box]
theorem Tryz.infoType:(Tryz.prog.info? 68).map (fun i=>(i.zero,i.size,i.bytes))=some (some (.agg #[.slice none 0 0,.slice none 0 0]),2,48):=by kernel_rfl
theorem Uw.news0 {K:Nat→Prop} {w0 w:World} {k:Nat} {v:Mv} {m:Vz} (h:Uw K w0 k w v m):∃ us,Vm w v.m0 m.types.length us∧WS (Ve (KB K w0 w) w) 2 (bndT) us m.types.length∧(∀ u ∈ us,u.oneCell'=true)∧m.types.length≤1000+k:=by
 obtain⟨us,h1,h2⟩:=Wb.goodR (d:=([],[])) (cf:=Ve (KB K w0 w) w) (bnd:=bndT) h.at_.types h.sz.types.2;exact⟨us,h1,h2,h2.ones typ_one,h.sz.types.1⟩
theorem Uw.push0 {K:Nat→Prop} {w0 w x:World} {k n:Nat} {v:Mv} {m:Vz} {vA:Value} {us cs:List Value} {rest:List Ws} (h:Uw K w0 k w v m) (hR:Rows w x (⟨68,2,vA,n+1,us++cs,true⟩ :: rest)) (hg:WS (Ve (KB K w0 w) w) 2 (bndT) us n) (hn:m.types.length=n) (hc:WS (Ve (KB K w0 x) x) 2 (bndT) cs 1) :
 ∃ m',Uw K w0 (k+1) (x.setCell ⟨w0.heap.size,0,none⟩ vA) { v with m0:=vA } m':=by
 have hX:=h.below hR.bl;have hw:=h.three;obtain⟨l',h1,h2,h3⟩:=WS.rows (K:=KB K w0 x) (cf:=Ve (KB K w0 x) x) (bnd:=bndT) ([],[]) ((hg.mono (fun _ _ _ h=>Wh.keep h (We.below hR.bl fun _ hk=>hk.1) fun _ hk=>KB.mono hk hR.bl) fun _ h=>h).append hc) hR.head fun g hg=>⟨hR.lt (List.mem_cons_self ..) hg,.inr (by have:=hR.nw _ (List.mem_cons_self ..) g hg;omega)⟩;exact⟨{ m with types:=l' },hX.set 0 vA rfl { hX.at_ with types:=h3 } { hX.sz.le (Nat.le_succ k) with types:=⟨by show l'.length≤_;have:=h.sz.types.1;omega,h2⟩ }⟩
theorem Tryz.infoImport:(Tryz.prog.info? 51).map (fun i=>(i.zero,i.size,i.bytes))=some (some (.agg #[.string ⟨#[]⟩,.string ⟨#[]⟩,.int .i64 0]),3,40):=by kernel_rfl
theorem Uw.news1 {K:Nat→Prop} {w0 w:World} {k:Nat} {v:Mv} {m:Vz} (h:Uw K w0 k w v m):∃ us,Vm w v.m1 m.imps.length us∧WS (UR) 3 (fun _=>True) us m.imps.length∧(∀ u ∈ us,u.oneCell'=true)∧m.imps.length≤1000+k:=by
 obtain⟨us,h1,h2⟩:=Wb.goodR (d:=(ByteArray.empty,ByteArray.empty,0)) (cf:=UR) (bnd:=fun _=>True) h.at_.imps (fun _ _=>trivial);exact⟨us,h1,h2,h2.ones imp_one,h.sz.imps⟩
theorem Uw.push1 {K:Nat→Prop} {w0 w x:World} {k n:Nat} {v:Mv} {m:Vz} {vA:Value} {us cs:List Value} {rest:List Ws} (h:Uw K w0 k w v m) (hR:Rows w x (⟨51,3,vA,n+1,us++cs,true⟩ :: rest)) (hg:WS (UR) 3 (fun _=>True) us n) (hn:m.imps.length=n) (hc:WS (UR) 3 (fun _=>True) cs 1) :
 ∃ m',Uw K w0 (k+1) (x.setCell ⟨w0.heap.size,1,none⟩ vA) { v with m1:=vA } m':=by
 have hX:=h.below hR.bl;have hw:=h.three;obtain⟨l',h1,h2,h3⟩:=WS.rows (K:=KB K w0 x) (cf:=UR) (bnd:=fun _=>True) (ByteArray.empty,ByteArray.empty,0) ((hg.mono (fun _ _ _ h=>h) fun _ h=>h).append hc) hR.head fun g hg=>⟨hR.lt (List.mem_cons_self ..) hg,.inr (by have:=hR.nw _ (List.mem_cons_self ..) g hg;omega)⟩;exact⟨{ m with imps:=l' },hX.set 1 vA rfl { hX.at_ with imps:=h3 } { hX.sz.le (Nat.le_succ k) with imps:=(by show l'.length≤_;have:=h.sz.imps;omega) }⟩
theorem Uw.news2 {K:Nat→Prop} {w0 w:World} {k:Nat} {v:Mv} {m:Vz} (h:Uw K w0 k w v m):∃ us,Vm w v.m2 m.funs.length us∧WS (WP (KB K w0 w) w) 3 (bndF k) us m.funs.length∧(∀ u ∈ us,u.oneCell'=true)∧m.funs.length≤1000+k:=by
 obtain⟨us,h1,h2⟩:=Wb.goodR (d:=WW) (cf:=WP (KB K w0 w) w) (bnd:=bndF k) h.at_.funs h.sz.funs.2;exact⟨us,h1,h2,h2.ones fnc_one,h.sz.funs.1⟩
theorem Uw.news3 {K:Nat→Prop} {w0 w:World} {k:Nat} {v:Mv} {m:Vz} (h:Uw K w0 k w v m):∃ us,Vm w v.m3 m.mems.length us∧WS (memCell) 2 (fun _=>True) us m.mems.length∧(∀ u ∈ us,u.oneCell'=true)∧m.mems.length≤1000+k:=by
 obtain⟨us,h1,h2⟩:=Wb.goodR (d:=(0,0)) (cf:=memCell) (bnd:=fun _=>True) h.at_.mems (fun _ _=>trivial);exact⟨us,h1,h2,h2.ones mem_one,h.sz.mems⟩
theorem Uw.push3 {K:Nat→Prop} {w0 w x:World} {k n:Nat} {v:Mv} {m:Vz} {vA:Value} {us cs:List Value} {rest:List Ws} (h:Uw K w0 k w v m) (hR:Rows w x (⟨56,2,vA,n+1,us++cs,true⟩ :: rest)) (hg:WS (memCell) 2 (fun _=>True) us n) (hn:m.mems.length=n) (hc:WS (memCell) 2 (fun _=>True) cs 1) :
 ∃ m',Uw K w0 (k+1) (x.setCell ⟨w0.heap.size,3,none⟩ vA) { v with m3:=vA } m':=by
 have hX:=h.below hR.bl;have hw:=h.three;obtain⟨l',h1,h2,h3⟩:=WS.rows (K:=KB K w0 x) (cf:=memCell) (bnd:=fun _=>True) (0,0) ((hg.mono (fun _ _ _ h=>h) fun _ h=>h).append hc) hR.head fun g hg=>⟨hR.lt (List.mem_cons_self ..) hg,.inr (by have:=hR.nw _ (List.mem_cons_self ..) g hg;omega)⟩;exact⟨{ m with mems:=l' },hX.set 3 vA rfl { hX.at_ with mems:=h3 } { hX.sz.le (Nat.le_succ k) with mems:=(by show l'.length≤_;have:=h.sz.mems;omega) }⟩
theorem Tryz.infoGlobal:(Tryz.prog.info? 53).map (fun i=>(i.zero,i.size,i.bytes))=some (some (.agg #[.int .i64 0,.bool false,.int .u64 0]),3,24):=by kernel_rfl
theorem Uw.news4 {K:Nat→Prop} {w0 w:World} {k:Nat} {v:Mv} {m:Vz} (h:Uw K w0 k w v m):∃ us,Vm w v.m4 m.globs.length us∧WS (Ua) 3 (fun _=>True) us m.globs.length∧(∀ u ∈ us,u.oneCell'=true)∧m.globs.length≤1000+k:=by
 obtain⟨us,h1,h2⟩:=Wb.goodR (d:=(0,false,0)) (cf:=Ua) (bnd:=fun _=>True) h.at_.globs (fun _ _=>trivial);exact⟨us,h1,h2,h2.ones glob_one,h.sz.globs⟩
theorem Uw.push4 {K:Nat→Prop} {w0 w x:World} {k n:Nat} {v:Mv} {m:Vz} {vA:Value} {us cs:List Value} {rest:List Ws} (h:Uw K w0 k w v m) (hR:Rows w x (⟨53,3,vA,n+1,us++cs,true⟩ :: rest)) (hg:WS (Ua) 3 (fun _=>True) us n) (hn:m.globs.length=n) (hc:WS (Ua) 3 (fun _=>True) cs 1) :
 ∃ m',Uw K w0 (k+1) (x.setCell ⟨w0.heap.size,4,none⟩ vA) { v with m4:=vA } m':=by
 have hX:=h.below hR.bl;have hw:=h.three;obtain⟨l',h1,h2,h3⟩:=WS.rows (K:=KB K w0 x) (cf:=Ua) (bnd:=fun _=>True) (0,false,0) ((hg.mono (fun _ _ _ h=>h) fun _ h=>h).append hc) hR.head fun g hg=>⟨hR.lt (List.mem_cons_self ..) hg,.inr (by have:=hR.nw _ (List.mem_cons_self ..) g hg;omega)⟩;exact⟨{ m with globs:=l' },hX.set 4 vA rfl { hX.at_ with globs:=h3 } { hX.sz.le (Nat.le_succ k) with globs:=(by show l'.length≤_;have:=h.sz.globs;omega) }⟩
theorem Uw.news5 {K:Nat→Prop} {w0 w:World} {k:Nat} {v:Mv} {m:Vz} (h:Uw K w0 k w v m):∃ us,Vm w v.m5 m.exps.length us∧WS (expCell) 3 (fun _=>True) us m.exps.length∧(∀ u ∈ us,u.oneCell'=true)∧m.exps.length≤1000+k:=by
 obtain⟨us,h1,h2⟩:=Wb.goodR (d:=(ByteArray.empty,0,0)) (cf:=expCell) (bnd:=fun _=>True) h.at_.exps (fun _ _=>trivial);exact⟨us,h1,h2,h2.ones exp_one,h.sz.exps⟩
theorem Uw.push5 {K:Nat→Prop} {w0 w x:World} {k n:Nat} {v:Mv} {m:Vz} {vA:Value} {us cs:List Value} {rest:List Ws} (h:Uw K w0 k w v m) (hR:Rows w x (⟨61,3,vA,n+1,us++cs,true⟩ :: rest)) (hg:WS (expCell) 3 (fun _=>True) us n) (hn:m.exps.length=n) (hc:WS (expCell) 3 (fun _=>True) cs 1) :
 ∃ m',Uw K w0 (k+1) (x.setCell ⟨w0.heap.size,5,none⟩ vA) { v with m5:=vA } m':=by
 have hX:=h.below hR.bl;have hw:=h.three;obtain⟨l',h1,h2,h3⟩:=WS.rows (K:=KB K w0 x) (cf:=expCell) (bnd:=fun _=>True) (ByteArray.empty,0,0) ((hg.mono (fun _ _ _ h=>h) fun _ h=>h).append hc) hR.head fun g hg=>⟨hR.lt (List.mem_cons_self ..) hg,.inr (by have:=hR.nw _ (List.mem_cons_self ..) g hg;omega)⟩;exact⟨{ m with exps:=l' },hX.set 5 vA rfl { hX.at_ with exps:=h3 } { hX.sz.le (Nat.le_succ k) with exps:=(by show l'.length≤_;have:=h.sz.exps;omega) }⟩
theorem Tryz.infoData:(Tryz.prog.info? 59).map (fun i=>(i.zero,i.size,i.bytes))=some (some (.agg #[.bool false,.int .i64 0,.int .i64 0,.slice none 0 0]),4,48):=by kernel_rfl
theorem Uw.news6 {K:Nat→Prop} {w0 w:World} {k:Nat} {v:Mv} {m:Vz} (h:Uw K w0 k w v m):∃ us,Vm w v.m6 m.datas.length us∧WS (Vi (KB K w0 w) w) 4 (bndD) us m.datas.length∧(∀ u ∈ us,u.oneCell'=true)∧m.datas.length≤1000+k:=by
 obtain⟨us,h1,h2⟩:=Wb.goodR (d:=VC) (cf:=Vi (KB K w0 w) w) (bnd:=bndD) h.at_.datas h.sz.datas.2;exact⟨us,h1,h2,h2.ones dat_one,h.sz.datas.1⟩
theorem Uw.push6 {K:Nat→Prop} {w0 w x:World} {k n:Nat} {v:Mv} {m:Vz} {vA:Value} {us cs:List Value} {rest:List Ws} (h:Uw K w0 k w v m) (hR:Rows w x (⟨59,4,vA,n+1,us++cs,true⟩ :: rest)) (hg:WS (Vi (KB K w0 w) w) 4 (bndD) us n) (hn:m.datas.length=n) (hc:WS (Vi (KB K w0 x) x) 4 (bndD) cs 1) :
 ∃ m',Uw K w0 (k+1) (x.setCell ⟨w0.heap.size,6,none⟩ vA) { v with m6:=vA } m':=by
 have hX:=h.below hR.bl;have hw:=h.three;obtain⟨l',h1,h2,h3⟩:=WS.rows (K:=KB K w0 x) (cf:=Vi (KB K w0 x) x) (bnd:=bndD) VC ((hg.mono (fun _ _ _ h=>Vi.keep h (We.below hR.bl fun _ hk=>hk.1) fun _ hk=>KB.mono hk hR.bl) fun _ h=>h).append hc) hR.head fun g hg=>⟨hR.lt (List.mem_cons_self ..) hg,.inr (by have:=hR.nw _ (List.mem_cons_self ..) g hg;omega)⟩;exact⟨{ m with datas:=l' },hX.set 6 vA rfl { hX.at_ with datas:=h3 } { hX.sz.le (Nat.le_succ k) with datas:=⟨by show l'.length≤_;have:=h.sz.datas.1;omega,h2⟩ }⟩
theorem Tryz.infoCustom:(Tryz.prog.info? 115).map (fun i=>(i.zero,i.size,i.bytes))=some (some (.agg #[.string ⟨#[]⟩,.slice none 0 0]),2,40):=by kernel_rfl
theorem Uw.news7 {K:Nat→Prop} {w0 w:World} {k:Nat} {v:Mv} {m:Vz} (h:Uw K w0 k w v m):∃ us,Vm w v.m7 m.cus.length us∧WS (Vk (KB K w0 w) w) 2 (bndC) us m.cus.length∧(∀ u ∈ us,u.oneCell'=true)∧m.cus.length≤1000+k:=by
 obtain⟨us,h1,h2⟩:=Wb.goodR (d:=(ByteArray.empty,[])) (cf:=Vk (KB K w0 w) w) (bnd:=bndC) h.at_.cus h.sz.cus.2;exact⟨us,h1,h2,h2.ones cus_one,h.sz.cus.1⟩
theorem Uw.push7 {K:Nat→Prop} {w0 w x:World} {k n:Nat} {v:Mv} {m:Vz} {vA:Value} {us cs:List Value} {rest:List Ws} (h:Uw K w0 k w v m) (hR:Rows w x (⟨115,2,vA,n+1,us++cs,true⟩ :: rest)) (hg:WS (Vk (KB K w0 w) w) 2 (bndC) us n) (hn:m.cus.length=n) (hc:WS (Vk (KB K w0 x) x) 2 (bndC) cs 1) :
 ∃ m',Uw K w0 (k+1) (x.setCell ⟨w0.heap.size,7,none⟩ vA) { v with m7:=vA } m':=by
 have hX:=h.below hR.bl;have hw:=h.three;obtain⟨l',h1,h2,h3⟩:=WS.rows (K:=KB K w0 x) (cf:=Vk (KB K w0 x) x) (bnd:=bndC) (ByteArray.empty,[]) ((hg.mono (fun _ _ _ h=>Vk.keep h (We.below hR.bl fun _ hk=>hk.1) fun _ hk=>KB.mono hk hR.bl) fun _ h=>h).append hc) hR.head fun g hg=>⟨hR.lt (List.mem_cons_self ..) hg,.inr (by have:=hR.nw _ (List.mem_cons_self ..) g hg;omega)⟩;exact⟨{ m with cus:=l' },hX.set 7 vA rfl { hX.at_ with cus:=h3 } { hX.sz.le (Nat.le_succ k) with cus:=⟨by show l'.length≤_;have:=h.sz.cus.1;omega,h2⟩ }⟩
theorem Ws.in_.cells {r:Ws} {w:World} (h:r.in_ w) {g n c:Nat} (hs:r.xs.length=r.n * r.size) (hv:r.v=.slice (some ⟨g,0,none⟩) n c):∀ j u,r.xs[j]?=some u→w.cell? ⟨g,j,none⟩=some u:=by
 intro j u hu;have hj:j<r.n * r.size:=by
  rcases Nat.lt_or_ge j r.xs.length with h1|h1
  ·omega
  ·rw[List.getElem?_eq_none h1]at hu;cases hu
 unfold Ws.in_ at h
 split at h
 ·obtain⟨e,size,v,n',xs,live⟩:=r;simp only at hv;subst hv;have h2:=h.2;rcases h2 with ⟨h2,_⟩|⟨g',cap,cur,h2,_⟩
  ·cases h2
  ·simp only[vI,Option.some.injEq,Addr.mk.injEq]at h2;obtain⟨_,rfl,rfl⟩:=h2;rw[h.cellAt j hj];exact hu
 ·obtain⟨g',c',h1,_,_,h3⟩:=h;rw[hv]at h1;simp only[vI,Option.some.injEq,Addr.mk.injEq]at h1;obtain⟨⟨rfl,_⟩,_⟩:=h1;exact h3 j u hu
theorem Rows.intsK {w4 x:World} {l:List Ws} (h:Rows w4 x l) {K:Nat→Prop} (hK:∀ g,w4.heap.size≤g→g<x.heap.size→K g) {e:TypeId} {v:Value} {n:Nat} {zs:List Int} (hr:(⟨e,1,v,n,zs.map (Value.int .i64),true⟩:Ws) ∈ l) (hn:zs.length=n) (hm:n≤maxLen):Wh K x v zs:=by
 have ho:=(h.ow _ hr).own rfl;rcases ho.2 with ⟨hv,h0⟩|⟨g,c,cur,hv,_⟩
 ·simp only at hv h0;subst hv;obtain rfl:=List.eq_nil_of_length_eq_zero (hn.trans h0);exact .nil _ _
 ·simp only at hv;subst hv;refine⟨_,c,by rw[hn],by omega,fun h=>(by cases h),fun _=>⟨g,0,rfl,hK g (h.nw _ hr g rfl) (h.lt hr rfl),fun j hj=>?_⟩⟩;rw[Nat.zero_add];exact(ho.cellAt j (by simp only;omega)).trans (by simp[hj])
theorem Uw.funs {K:Nat→Prop} {w0 w x:World} {k n i0 q gF cF:Nat} {v:Mv} {m:Vz} {us:List Value} {u0:Value} {rest:List Ws} (h:Uw K w0 k w v m) (hR:Rows w x (⟨64,3,.slice (some ⟨gF,0,none⟩) n cF,n,us,true⟩ :: rest)) (hg:WS (WP (KB K w0 w) w) 3 (bndF k) us n) (hn:m.funs.length=n) (hq:q<n) (hi:i0<3)
 (f:Fnc→Fnc) (hf:∀ y,bndF k y→bndF (k+1) (f y)∧∀ K wz i u,i<3→i≠i0→WP K wz y i u→WP K wz (f y) i u) (hu:∀ y,WP (fun g=>KB K w0 x g∧g≠gF) x (f y) i0 u0) :
 ∃ m',Uw K w0 (k+1) ((x.setCell ⟨gF,q * 3+i0,none⟩ u0).setCell ⟨w0.heap.size,2,none⟩ (.slice (some ⟨gF,0,none⟩) n cF)) { v with m2:=.slice (some ⟨gF,0,none⟩) n cF } m':=by
 have hw:=h.three;have hgF:w.heap.size≤gF:=hR.nw _ (List.mem_cons_self ..) gF rfl;have hgx:gF<x.heap.size:=hR.lt (List.mem_cons_self ..) rfl;have hst:=(hR.head.stored (q * 3+i0) u0).1;have hkp:We (fun g=>KB K w0 x g∧g≠gF) x (x.setCell ⟨gF,q * 3+i0,none⟩ u0):=We.setCell x (fun hk=>hk.2 rfl) u0;have hX:=h.below (hR.bl.setCell (p:=⟨gF,q * 3+i0,none⟩) hgF u0);have h1:=hg.mono (cf':=WP (fun g=>KB K w0 x g∧g≠gF) x) (bnd':=bndF k) (fun _ _ _ h=>WP.keep h (We.below hR.bl fun _ hk=>hk.1) fun _ hk=>⟨KB.mono hk hR.bl,fun e=>by have:=hk.1;omega⟩) fun _ h=>h;have h2:=h1.set q i0 hq hi u0 f (bnd':=bndF (k+1)) (fun y h=>h.le (Nat.le_succ k)) fun y hy=>⟨(hf y hy).1,hu y,fun i u hi hne h=>(hf y hy).2 _ _ i u hi hne h⟩;have h3:=h2.mono (cf':=WP (KB K w0 (x.setCell ⟨gF,q * 3+i0,none⟩ u0)) (x.setCell ⟨gF,q * 3+i0,none⟩ u0)) (bnd':=bndF (k+1)) (fun _ _ _ h=>WP.keep h hkp fun _ hk=>⟨WK hk.1.1 hkp.size,hk.1.2⟩) fun _ h=>h;obtain⟨l',r1,r2,r3⟩:=h3.rows (K:=KB K w0 (x.setCell ⟨gF,q * 3+i0,none⟩ u0)) WW hst fun g hg=>by
  have e:some gF=some g:=hg;simp only[Option.some.injEq]at e;exact⟨by have:=hkp.size;omega,.inr (by omega)⟩
 exact⟨{ m with funs:=l' },hX.set 2 _ rfl { hX.at_ with funs:=r3 } { hX.sz.le (Nat.le_succ k) with funs:=⟨by show l'.length≤_;have:=h.sz.funs.1;omega,r2⟩,fp:=by show 0<l'.length;have:=h.sz.fp;omega }⟩
theorem Rows.ints {K:Nat→Prop} {w0 w4 x:World} {l:List Ws} (h:Rows w4 x l) (h3:w0.heap.size+3≤w4.heap.size) {e:TypeId} {y n c:Nat} {zs:List Int} {b:Bool} (hr:(⟨e,1,.slice (some ⟨y,0,.none⟩) n c,n,zs.map (Value.int .i64),b⟩:Ws) ∈ l) (hn:zs.length=n) (hm:n≤maxLen):Wh (KB K w0 x) x (.slice (some ⟨y,0,.none⟩) n c) zs:=by
 have hc:=(h.ow _ hr).cells (g:=y) (n:=n) (c:=c) (by simp[hn]) rfl;refine⟨_,c,by rw[hn],by omega,fun h=>(by cases h),fun _=>⟨y,0,rfl,⟨h.lt hr rfl,.inr (by have:=h.nw _ hr y rfl;omega)⟩,fun j hj=>?_⟩⟩;rw[Nat.zero_add];exact hc j _ (by simp[hj])
theorem Rows.bytes {K:Nat→Prop} {w0 w4 x:World} {l:List Ws} (h:Rows w4 x l) (h3:w0.heap.size+3≤w4.heap.size) {e:TypeId} {y n c:Nat} {zs:List Nat} {b:Bool} (hr:(⟨e,1,.slice (some ⟨y,0,.none⟩) n c,n,zs.map mbyt,b⟩:Ws) ∈ l) (hn:zs.length=n) (hm:n≤maxLen) (hnc:n≤c) (hz:∀ b ∈ zs,b<256):WD (KB K w0 x) x (.slice (some ⟨y,0,.none⟩) n c) zs:=by
 have hc:=(h.ow _ hr).cells (g:=y) (n:=n) (c:=c) (by simp[hn]) rfl;refine⟨_,c,by rw[hn],by omega,by omega,fun h=>(by cases h),fun _=>⟨y,0,rfl,⟨h.lt hr rfl,.inr (by have:=h.nw _ hr y rfl;omega)⟩,fun j hj=>?_⟩,hz⟩;rw[Nat.zero_add];exact hc j _ (by simp[mbyt,hj])
structure BoxC (w0 w:World) (v:Mv):Prop where
 c0:w.cell? ⟨w0.heap.size,0,none⟩=some v.m0
 c1:w.cell? ⟨w0.heap.size,1,none⟩=some v.m1
 c2:w.cell? ⟨w0.heap.size,2,none⟩=some v.m2
 c3:w.cell? ⟨w0.heap.size,3,none⟩=some v.m3
 c4:w.cell? ⟨w0.heap.size,4,none⟩=some v.m4
 c5:w.cell? ⟨w0.heap.size,5,none⟩=some v.m5
 c6:w.cell? ⟨w0.heap.size,6,none⟩=some v.m6
 c7:w.cell? ⟨w0.heap.size,7,none⟩=some v.m7
structure TrnC (w0 w:World) (what pos to_ tn op ra rb rn:Int) (Lv:Value):Prop where
 t0:w.cell? ⟨w0.heap.size+1,0,none⟩=some (.int .i64 what)
 t1:w.cell? ⟨w0.heap.size+1,1,none⟩=some (.int .i64 pos)
 t2:w.cell? ⟨w0.heap.size+1,2,none⟩=some (.int .i64 to_)
 t3:w.cell? ⟨w0.heap.size+1,3,none⟩=some (.int .u64 tn)
 t4:w.cell? ⟨w0.heap.size+1,4,none⟩=some (.int .i64 op)
 t5:w.cell? ⟨w0.heap.size+1,5,none⟩=some (.int .i64 ra)
 t6:w.cell? ⟨w0.heap.size+1,6,none⟩=some (.int .i64 rb)
 t7:w.cell? ⟨w0.heap.size+1,7,none⟩=some (.int .u64 rn)
 t8:w.cell? ⟨w0.heap.size+1,8,none⟩=some Lv
theorem Uw.cells {K:Nat→Prop} {w0 w:World} {k:Nat} {v:Mv} {m:Vz} (h:Uw K w0 k w v m):BoxC w0 w v:=by
 exact Zcn
theorem owns_block {w:World} {base:Nat} {e:TypeId} {size n n' c:Nat} {B:Option Addr} {xs:List Value} (h:w.ownsRow base e size (.slice B n' c) n xs) (hn:0<n):∃ g,B=some ⟨g,0,none⟩:=by
 rcases h.2 with ⟨_,h0⟩|⟨g,cap,cur,hv,_⟩
 ·omega
 ·simp only[vI]at hv;exact⟨g,hv.1⟩
theorem box_far {w0 w:World} {gF:Nat} (h:w0.heap.size+3≤w.heap.size) (hg:w.heap.size≤gF):gF≠w0.heap.size:=by omega
theorem far_cell {w:World} {u v:Value} {gF M i j:Nat} (h:w.cell? ⟨M,j,none⟩=some v) (hne:gF≠M):(w.setCell ⟨gF,i,none⟩ u).cell? ⟨M,j,none⟩=some v:=by
 rw[World.cell?_setCell_far _ _ _ _ (by exact hne)];exact h
theorem far_frozen {w:World} {u:Value} {gF M i j:Nat} (h:w.frozen? ⟨M,j,none⟩=false) (hne:gF≠M):(w.setCell ⟨gF,i,none⟩ u).frozen? ⟨M,j,none⟩=false:=by
 unfold World.frozen? at h ⊢;rw[show(w.setCell ⟨gF,i,none⟩ u).heap[M]?=w.heap[M]? from Below.heap_setCell _ _ _ _ (by exact fun e=>hne e.symm)];exact h
theorem and3_ways (z:Int):∃ r:Nat,r<4∧Go.bits .and .i64 z 3=(r:Int):=by
 refine⟨(z % 4).toNat,by omega,?_⟩;have h:BitVec.ofInt 64 z &&& BitVec.ofInt 64 3=BitVec.ofInt 64 (z % 4):=by
  apply BitVec.eq_of_toNat_eq
  rw[BitVec.toNat_and,BitVec.toNat_ofInt,BitVec.toNat_ofInt,BitVec.toNat_ofInt];have e:((3:Int) % ((2 ^ 64:Nat):Int)).toNat=2 ^ 2 - 1:=by decide
  rw[e,Nat.and_two_pow_sub_one_eq_mod];omega
 show IntKind.i64.wrap ((BitVec.ofInt 64 z &&& BitVec.ofInt 64 3).toNat:Int)=_;rw[h,BitVec.toNat_ofInt,IntKind.wrap_i64];omega
theorem lit3_at (z:Int) (r:Nat) (hr:r<3):∃ u:Int,([.int .i64 127,.int .i64 124,.int .i64 z]:List Value)[r]?=some (.int .i64 u):=by
 rcases(show r=0∨r=1∨r=2 by omega) with rfl|rfl|rfl
 ·exact⟨_,rfl⟩
 ·exact⟨_,rfl⟩
 ·exact⟨_,rfl⟩
theorem lit4_at (z:Int) (r:Nat) (hr:r<4):∃ u:Int,([.int .i64 127,.int .i64 126,.int .i64 124,.int .i64 z]:List Value)[r]?=some (.int .i64 u):=by
 rcases(show r=0∨r=1∨r=2∨r=3 by omega) with rfl|rfl|rfl|rfl
 ·exact⟨_,rfl⟩
 ·exact⟨_,rfl⟩
 ·exact⟨_,rfl⟩
 ·exact⟨_,rfl⟩
theorem byte_of (z:Int):∃ b:Nat,IntKind.u8.wrap z=(b:Int)∧b<256:=⟨(IntKind.u8.wrap z).toNat,by
 have:IntKind.u8.wrap z=z % 256:=rfl;rw[this];omega⟩
def OddPost (K:Nat→Prop) (k:Nat) (w:World) (e:Ending) (w':World):Prop:=∃ v m,e=.returned (.agg v.cells)∧WL (fun g=>K g∨w.heap.size≤g∧g<w'.heap.size) w' v m∧Sz k m∧Below w.heap.size w w'
theorem tmod_emod (n m:Int) (hm:0<m):n % m=if n.tmod m<0 then n.tmod m+m else n.tmod m:=by
 have h1:=Int.tmod_lt_of_pos n hm;have h2:=Int.lt_tmod_of_pos n hm;have h3:=Int.mul_tdiv_add_tmod n m;have h4:n % m=(n.tmod m) % m:=by
  conv=>lhs;rw[← h3]
  rw[Int.add_comm,Int.add_mul_emod_self_left]
 rw[h4]
 split
 ·rw[← Int.add_emod_right,Int.emod_eq_of_lt (by omega) (by omega)]
 ·exact Int.emod_eq_of_lt (by omega) h1
theorem within0_is (n:Int) (h:Nat) (hh:h≤1048576) (w:World) :
 Calls Tryz.prog 60 #[.int .i64 n,.int .i64 0,.int .i64 (h:Int)] w fun e w'=>e=.returned (.int .i64 (n % ((h:Int)+1)))∧w=w':=by
 have hz:((h:Int) - 0+1==0)=false:=by simp;omega
 have hz2:((h:Int)+1==0)=false:=by simp;omega
 have h0:(0:Int)<(h:Int)+1:=by omega
 have t0:=Int.lt_tmod_of_pos n h0;have t1:=Int.tmod_lt_of_pos n h0;have e0:=Int.emod_nonneg n (Int.ne_of_gt h0);have e1:=Int.emod_lt_of_pos n h0;have HM:=hD (tmod_emod n ((h:Int)+1) h0);have HI:=hD (fun (a:0≤n) (b:n<(h:Int)+1)=>Int.emod_eq_of_lt a b);go_enter Tryz.func60,Tryz.ntmps60;go_wp2
 all_goals go_ret
 all_goals refine⟨ret_int ?_,rfl⟩
 all_goals have hm:=HM.out
 all_goals first|rfl|(have:=HI.out (by omega) (by omega);omega)|(split at hm <;> omega)
end
section
open Go.RowKit
set_option maxHeartbeats 100000000
set_option maxRecDepth 100000
theorem ZE {P:Prop}(h:P:=by
 have hc:∀ i,wz.cell? ⟨w.heap.size+1,i,none⟩=(#[.int .i64 what,.int .i64 pos,.int .i64 to_,.int .u64 tn,.int .i64 op,.int .i64 ra,.int .i64 rb,.int .u64 rn,.slice Al nl cl]:Array Value)[i]?:=fun i=>(hb.cell (p:=⟨w.heap.size+1,i,none⟩) (by show w.heap.size+1<_;omega)).trans (by simp[World.cell?,ha1]);exact⟨hc 0,hc 1,hc 2,hc 3,hc 4,hc 5,hc 6,hc 7,hc 8⟩):P:=h
theorem odd_B (K:Nat→Prop) (w:World) (hK:∀ g,K g→g<w.heap.size) (v:Mv) (m:Vz) (k:Nat) (hk:k≤10) (hm:WL K w v m) (hs:Sz k m) (hf:0<m.funs.length) (t:Trn) (Lv:Value) (hL:Wh K w Lv t.raw.l) (hw:V7 t.n∧V7 t.raw.n∧fitN t.raw.l.length) (h3:¬ t.what.tmod 4=3) :
 Calls Tryz.prog 21 #[.agg v.cells,t.val Lv] w (OddPost K (k+1) w):=by
 obtain⟨A0,c0,A1,c1,A2,c2,A3,c3,A4,c4,A5,c5,A6,c6,A7,c7,rfl⟩:=hm.forms;obtain⟨Al,cl,hLe,hLm,_⟩:=hL.form;obtain⟨nl,hnl⟩:∃ nl,t.raw.l.length=nl:=⟨_,rfl⟩;rw[hnl]at hLe hLm;have HL:=hD hL;have HW:=hD hw;clear hw;obtain⟨what,pos,to_,tn,op,ra,rb,rn,rl⟩:=t;simp only at hLe HL h3;subst hLe;clear hL hnl;simp only[Trn.val,Mv.cells];obtain⟨w3,hw3⟩:∃ w3,w3=(((w.alloc (.cells #[.slice A0 m.types.length c0,.slice A1 m.imps.length c1,.slice A2 m.funs.length c2,.slice A3 m.mems.length c3,.slice A4 m.globs.length c4,.slice A5 m.exps.length c5,.slice A6 m.datas.length c6,.slice A7 m.cus.length c7] 36)).alloc (.cells #[.int .i64 what,.int .i64 pos,.int .i64 to_,.int .u64 tn,.int .i64 op,.int .i64 ra,.int .i64 rb,.int .u64 rn,.slice Al nl cl] 79)).alloc (.cells Wv 36)):=⟨_,rfl⟩;have ha0:=WU [.cells #[.slice A0 m.types.length c0,.slice A1 m.imps.length c1,.slice A2 m.funs.length c2,.slice A3 m.mems.length c3,.slice A4 m.globs.length c4,.slice A5 m.exps.length c5,.slice A6 m.datas.length c6,.slice A7 m.cus.length c7] 36,.cells #[.int .i64 what,.int .i64 pos,.int .i64 to_,.int .u64 tn,.int .i64 op,.int .i64 ra,.int .i64 rb,.int .u64 rn,.slice Al nl cl] 79,.cells Wv 36] w 0 _ rfl;have ha1:=(WU [.cells #[.slice A0 m.types.length c0,.slice A1 m.imps.length c1,.slice A2 m.funs.length c2,.slice A3 m.mems.length c3,.slice A4 m.globs.length c4,.slice A5 m.exps.length c5,.slice A6 m.datas.length c6,.slice A7 m.cus.length c7] 36,.cells #[.int .i64 what,.int .i64 pos,.int .i64 to_,.int .u64 tn,.int .i64 op,.int .i64 ra,.int .i64 rb,.int .u64 rn,.slice Al nl cl] 79,.cells Wv 36] w 1 _ rfl).1;have ha2:=(WU [.cells #[.slice A0 m.types.length c0,.slice A1 m.imps.length c1,.slice A2 m.funs.length c2,.slice A3 m.mems.length c3,.slice A4 m.globs.length c4,.slice A5 m.exps.length c5,.slice A6 m.datas.length c6,.slice A7 m.cus.length c7] 36,.cells #[.int .i64 what,.int .i64 pos,.int .i64 to_,.int .u64 tn,.int .i64 op,.int .i64 ra,.int .i64 rb,.int .u64 rn,.slice Al nl cl] 79,.cells Wv 36] w 2 _ rfl).1;change (((w.alloc (.cells #[.slice A0 m.types.length c0,.slice A1 m.imps.length c1,.slice A2 m.funs.length c2,.slice A3 m.mems.length c3,.slice A4 m.globs.length c4,.slice A5 m.exps.length c5,.slice A6 m.datas.length c6,.slice A7 m.cus.length c7] 36)).alloc (.cells #[.int .i64 what,.int .i64 pos,.int .i64 to_,.int .u64 tn,.int .i64 op,.int .i64 ra,.int .i64 rb,.int .u64 rn,.slice Al nl cl] 79)).alloc (.cells Wv 36)).heap[w.heap.size]?=_∧Below w.heap.size w (((w.alloc (.cells #[.slice A0 m.types.length c0,.slice A1 m.imps.length c1,.slice A2 m.funs.length c2,.slice A3 m.mems.length c3,.slice A4 m.globs.length c4,.slice A5 m.exps.length c5,.slice A6 m.datas.length c6,.slice A7 m.cus.length c7] 36)).alloc (.cells #[.int .i64 what,.int .i64 pos,.int .i64 to_,.int .u64 tn,.int .i64 op,.int .i64 ra,.int .i64 rb,.int .u64 rn,.slice Al nl cl] 79)).alloc (.cells Wv 36))∧(((w.alloc (.cells #[.slice A0 m.types.length c0,.slice A1 m.imps.length c1,.slice A2 m.funs.length c2,.slice A3 m.mems.length c3,.slice A4 m.globs.length c4,.slice A5 m.exps.length c5,.slice A6 m.datas.length c6,.slice A7 m.cus.length c7] 36)).alloc (.cells #[.int .i64 what,.int .i64 pos,.int .i64 to_,.int .u64 tn,.int .i64 op,.int .i64 ra,.int .i64 rb,.int .u64 rn,.slice Al nl cl] 79)).alloc (.cells Wv 36)).heap.size=w.heap.size+3 at ha0;change (((w.alloc (.cells #[.slice A0 m.types.length c0,.slice A1 m.imps.length c1,.slice A2 m.funs.length c2,.slice A3 m.mems.length c3,.slice A4 m.globs.length c4,.slice A5 m.exps.length c5,.slice A6 m.datas.length c6,.slice A7 m.cus.length c7] 36)).alloc (.cells #[.int .i64 what,.int .i64 pos,.int .i64 to_,.int .u64 tn,.int .i64 op,.int .i64 ra,.int .i64 rb,.int .u64 rn,.slice Al nl cl] 79)).alloc (.cells Wv 36)).heap[w.heap.size+1]?=_ at ha1;change (((w.alloc (.cells #[.slice A0 m.types.length c0,.slice A1 m.imps.length c1,.slice A2 m.funs.length c2,.slice A3 m.mems.length c3,.slice A4 m.globs.length c4,.slice A5 m.exps.length c5,.slice A6 m.datas.length c6,.slice A7 m.cus.length c7] 36)).alloc (.cells #[.int .i64 what,.int .i64 pos,.int .i64 to_,.int .u64 tn,.int .i64 op,.int .i64 ra,.int .i64 rb,.int .u64 rn,.slice Al nl cl] 79)).alloc (.cells Wv 36)).heap[w.heap.size+2]?=_ at ha2;rw[← hw3]at ha0 ha1 ha2;obtain⟨ha0,hbm,hsz⟩:=ha0;have HBX:Hid (Uw K w k w3 ⟨.slice A0 m.types.length c0,.slice A1 m.imps.length c1,.slice A2 m.funs.length c2,.slice A3 m.mems.length c3,.slice A4 m.globs.length c4,.slice A5 m.exps.length c5,.slice A6 m.datas.length c6,.slice A7 m.cus.length c7⟩ m) :=
  hD ⟨ha0,ha2,hm.keep (We.below hbm hK) fun g hg=>⟨WK (hK g hg) hbm.size,.inl hg⟩,hs,hbm,by rw[hsz];exact nR _,hK⟩
 have HT:Hid (∀ wz,Below w3.heap.size w3 wz→TrnC w wz what pos to_ tn op ra rb rn (.slice Al nl cl)):=hD fun wz hb=>by
  exact ZE
 have HC:=hD (fun wz hb=>(HBX.out.below (w':=wz) hb).cells);obtain⟨n0,hn0⟩:∃ n,m.types.length=n:=⟨_,rfl⟩;obtain⟨n1,hn1⟩:∃ n,m.imps.length=n:=⟨_,rfl⟩;obtain⟨nf,hnf⟩:∃ n,m.funs.length=n:=⟨_,rfl⟩;obtain⟨n3,hn3⟩:∃ n,m.mems.length=n:=⟨_,rfl⟩;obtain⟨n4,hn4⟩:∃ n,m.globs.length=n:=⟨_,rfl⟩;obtain⟨n5,hn5⟩:∃ n,m.exps.length=n:=⟨_,rfl⟩;obtain⟨n6,hn6⟩:∃ n,m.datas.length=n:=⟨_,rfl⟩;obtain⟨n7,hn7⟩:∃ n,m.cus.length=n:=⟨_,rfl⟩;have hfb:=hs.funs.1;rw[hn0,hn1,hnf,hn3,hn4,hn5,hn6,hn7]at HBX HC hw3 ⊢;rw[hnf]at hf hfb;have HN0:=hD hn0;have HN1:=hD hn1;have HN2:=hD hnf;have HN3:=hD hn3;have HN4:=hD hn4;have HN5:=hD hn5;have HN6:=hD hn6;have HN7:=hD hn7;clear hn0 hn1 hnf hn3 hn4 hn5 hn6 hn7 hm hs hbm ha0 ha1 ha2 hsz hK;go_enter Tryz.func21,Tryz.ntmps21
 go_upto_region 1 with (fail)
 rw[show Wv=#[.slice none 0 0,.slice none 0 0,.slice none 0 0,.slice none 0 0,.slice none 0 0,.slice none 0 0,.slice none 0 0,.slice none 0 0] from rfl]at hw3;rw[← hw3];clear hw3;have hc:=HC.out w3 (bR _ _);obtain⟨k0,k1,k2,k3,k4,k5,k6,k7⟩:=hc;have ht:=HT.out w3 (bR _ _);obtain⟨t0,t1,t2,t3,t4,t5,t6,t7,t8⟩:=ht;simp only at k0 k1 k2 k3 k4 k5 k6 k7;have d3:max (nf:Int) 1=(nf:Int):=by omega
 go_wp2_with fail
 go_at_call 64;refine(at_any pos nf hf (by omega) _).mono ?_;rintro e w1 ⟨⟨q,hq,rfl⟩,rfl⟩;clear d3;have dq:decide ((q:Int)<(nf:Int))=true:=by simp;omega
 have d4:(what.tmod 4 != 3)=true:=by simpa using h3
 clear h3
 go_upto_region 3 with (fail)
 obtain⟨us,hnw,hgd,hon,hlb⟩:=HBX.out.news2;simp only at hnw;rw[HN2.out]at hnw hgd hlb;have HNW:=hD hnw;have HGD:=hD hgd;have HUL:=hD hgd.1;have HON:=hD hon;clear hnw hon;obtain⟨xf,hbf,hxf⟩:=hgd.2 q hq;obtain⟨u0,k0',rfl⟩:=hxf 0 (by decide);obtain⟨u1,k1',h1'⟩:=hxf 1 (by decide);obtain⟨u2,k2',h2'⟩:=hxf 2 (by decide);have kz:=(HC.out _ ((Rows.nil (bR w3.heap.size w3)).lit 64 3 0 #[] rfl (by decide)).bl).c2;simp only at kz;have hidx:q * 3+2<nf * 3:=by omega
 have HIX:=hD hidx;clear hidx hxf hgd;have HK0:=hD k0';have HK1:=hD k1';have HK2:=hD k2';have H1:=hD h1';have H2:=hD h2';have HBF:=hD hbf;clear k0' k1' k2' h1' h2' hbf
 go_upto_region 4 with (at_builtin;refine Wm rfl (.tmp 28) (.tmp 30) 29 64 rfl _ 3 56 Tryz.underlying29 Tryz.infoFunc rfl (by decide) (by decide) (.slice (some ⟨w3.heap.size,0,none⟩) 0 0) 0 [] (by rfl) ((Rows.nil (bR w3.heap.size w3)).lit 64 3 0 #[] rfl (by decide)).head _ nf us (by rfl) HUL.out (HNW.out.below ((Rows.nil (bR w3.heap.size w3)).lit 64 3 0 #[] rfl (by decide)).bl) HON.out (by omega) ?_;intro v1 x1 ho1 hg1 hat1;simp only[Nat.zero_add,List.nil_append]at ho1;have hF:=((Rows.nil (bR w3.heap.size w3)).lit 64 3 0 #[] rfl (by decide)).grow hg1 ho1 hat1;obtain⟨B1,cF,rfl⟩:=Wd ho1;obtain⟨gF,rfl⟩:=owns_block ho1 hf;have HF:=hD hF;clear ho1 hg1 hat1 hF kz)
 have HFB:=hD HF.out.bl;have htt:=HT.out _ HFB.out;have hcc:=HC.out _ HFB.out;obtain⟨t0,t1,t2,t3,t4,t5,t6,t7,t8⟩:=htt;obtain⟨k0,k1,k2,k3,k4,k5,k6,k7⟩:=hcc;simp only at k0 k1 k2 k3 k4 k5 k6 k7;have h2:=H2.out;obtain⟨AC,cC,hu2,hcc2,_⟩:=Wb.form h2;subst hu2;have hcl:=HBF.out.2;have HCL:=hD hcl;clear hcl H1;refine Wf.start (X:=11) (S:=fun w'=>Below x1.drew.heap.size x1.drew w') (by kernel_rfl) ?_;have HF5:=hD (HF.out.below (Wn (bR _ _) 1));change Hid (Rows _ x1.drew _) at HF5;have hF3:Below w3.heap.size w3 x1.drew:=HF5.out.bl;have HF3:=hD hF3;clear hF3;have HT5:=hD (fun wz (hb:Below x1.drew.heap.size x1.drew wz)=>HT.out wz (HF3.out.trans (hb.mono HF3.out.size)));have HC5:=hD (fun wz (hb:Below x1.drew.heap.size x1.drew wz)=>HC.out wz (HF3.out.trans (hb.mono HF3.out.size)));have hR:=Rows.nil (bR x1.drew.heap.size x1.drew);have HKL2:Hid (x1.drew.cell? ⟨gF,q * 3+2,none⟩=some (.slice AC xf.code.length cC)):=hD ((HF.out.head.cellAt (q * 3+2) HIX.out).trans HK2.out);clear HF HT HC HFB h2 k0 k1 k2 k3 k4 k5 k6 k7 t0 t1 t2 t3 t4 t5 t6 t7 t8;generalize x1.drew=w5 at *;have HGL:Hid (gF<w5.heap.size):=hD (HF5.out.lt (List.mem_cons_self ..) rfl);have HGF:Hid (w3.heap.size≤gF):=hD (HF5.out.nw _ (List.mem_cons_self ..) gF rfl);have HCO:Hid (WO (fun k=>KB K w w5 k∧k≠gF) w5 (.slice AC xf.code.length cC) xf.code):=hD (WO.keep H2.out (We.below HF3.out fun _ hk=>hk.1) fun _ hk=>⟨KB.mono hk HF3.out,fun e=>by have:=hk.1;have:=HGF.out;omega⟩);have HLO:Hid (Wh (fun k=>KB K w w5 k∧k≠gF) w5 (.slice Al nl cl) rl):=hD (HL.out.keep (We.below (HBX.out.bl.trans (HF3.out.mono HBX.out.bl.size)) HBX.out.lo) fun k hk=>⟨⟨by have h1:k<w.heap.size:=HBX.out.lo k hk;have:=HBX.out.bl.size;have:=HF3.out.size;omega,.inl hk⟩,fun e=>by have h1:k<w.heap.size:=HBX.out.lo k hk;have:=HBX.out.bl.size;have:=HGF.out;omega⟩);have HCC:=hD (code_any (fun k=>KB K w w5 k∧k≠gF) w5 (fun k hk=>hk.1.1) (.slice AC xf.code.length cC) xf.code HCO.out (by have:=HCL.out;omega) ⟨what,pos,to_,tn,⟨op,ra,rb,rn,rl⟩⟩ (.slice Al nl cl) HLO.out HW.out);simp only[Trn.val]at HCC;generalize hnc:xf.code.length=nc at *;have HNC:=hD hnc;clear hnc H2 HCO HLO;show Wf _ _ _ _ _ _ 12 #[false,false,false,false,false,false,false,false,false,false,false,false] _ _;refine Wf.tk 0 32 rfl hR.bl ?_;refine Wf.tk 1 33 rfl hR.bl ?_;refine Wf.tk 2 34 rfl hR.bl ?_;refine Wf.tk 3 35 rfl hR.bl ?_;refine Wf.tk 4 36 rfl hR.bl ?_;refine Wf.tk 5 37 rfl hR.bl ?_;refine Wf.tk 6 38 rfl hR.bl ?_ (hy:=by intro w' hSw;have kc:=(hSw.cell (p:=⟨gF,q * 3+2,none⟩) HGL.out).trans HKL2.out;go_simp;try with_reducible rfl);refine Wf.tk 7 39 rfl hR.bl ?_ (hy:=by intro w' hSw;obtain⟨t0,t1,t2,t3,t4,t5,t6,t7,t8⟩:=HT5.out w' hSw;go_simp;try with_reducible rfl);refine Wf.om 8 40 rfl fun K hK=>?_;go_simp;refine HCC.out.mono ?_;rintro e x ⟨v',c',rfl,hc1,hc2,hb⟩;obtain⟨A',cc',rfl,_⟩:=Wb.form hc2;have HC2:=hD hc2;have HC1:=hD hc1;generalize hnc':c'.length=nc' at *;have HNC':=hD hnc';clear hc2 hc1 hnc';replace hR:=Rows.nil hb;clear hb;go_wp2_with fail
 refine hK.out _ _ (.inr hR.bl) ?_;clear hK K;try simp only[sA,List.set]
 refine Wf.om 9 41 rfl fun K hK=>?_;go_simp;refine hK.out _ _ (.inr hR.bl) ?_;clear hK K;try simp only[sA,List.set]
 refine Wf.tk 10 42 rfl hR.bl ?_;refine Wf.on 11 rfl fun K hK=>?_;have kx:=(hR.bl.cell (p:=⟨gF,q * 3+2,none⟩) HGL.out).trans HKL2.out;have fx:=(HF5.out.below hR.bl).head.frozenAt (q * 3+2);go_simp;refine hK.out _ _ (.inl rfl) ?_;clear hK K;refine Wf.done (by kernel_rfl) ?_ _;clear kx fx;obtain⟨m',hb⟩:=HBX.out.funs (i0:=2) (q:=q) (u0:=.slice A' nc' cc') (HF5.out.below hR.bl) HGD.out HN2.out hq (by decide) (fun y=>{ y with code:=c' }) (fun y hy=>⟨⟨by have:=hy.1;show y.loc.length≤_;omega,by show c'.length≤_;have:=HC1.out;have:=HCL.out;have:=HNC.out;have:=HNC'.out;omega⟩,fun K wz i u h3 hne h=>match i,h3,hne,h with|0,_,_,h=>h|1,_,_,h=>h|2,_,hne,_=>absurd rfl hne|_+3,h3,_,_=>absurd h3 (by omega)⟩) (fun y=>WO.keep HC2.out (We.refl _ _) fun g hg=>by exact hg.elim (fun hg=>⟨KB.mono hg.1 hR.bl,hg.2⟩) (fun hg=>⟨⟨hg.2,.inr (by have:=HBX.out.three;have:=HF3.out.size;omega)⟩,by have:=HGL.out;omega⟩));obtain⟨v9,m9,hb9⟩:∃ v9 m9,Uw K w (k+1) ((x.setCell ⟨gF,q * 3+2,none⟩ (.slice A' nc' cc')).setCell ⟨w.heap.size,2,none⟩ (.slice (some ⟨gF,0,none⟩) nf cF)) v9 m9:=⟨_,m',hb⟩;have HB5:=hD hb9;clear hb hb9;have hne8:=box_far HBX.out.three HGF.out;have k2':=(HC5.out _ hR.bl).c2;simp only at k2';have kx:=far_cell (u:=.slice A' nc' cc') (i:=q * 3+2) k2' hne8;have fx:=far_frozen (u:=.slice A' nc' cc') (i:=q * 3+2) ((HBX.out.below (HF3.out.trans (hR.bl.mono HF3.out.size))).frozen 2) hne8;clear hne8 k2' hR
 go_upto_region 6 with (fail)
 clear kx fx;generalize ((x.setCell ⟨gF,q * 3+2,none⟩ (.slice A' nc' cc')).setCell ⟨w.heap.size,2,none⟩ (.slice (some ⟨gF,0,none⟩) nf cF))=x9 at HB5 ⊢;obtain⟨B0,e0,B1,e1,B2,e2,B3,e3,B4,e4,B5,e5,B6,e6,B7,e7,hv'⟩:=HB5.out.at_.forms;subst hv';generalize hl0:m9.types.length=l0 at *;clear hl0;generalize hl1:m9.imps.length=l1 at *;clear hl1;generalize hl2:m9.funs.length=l2 at *;clear hl2;generalize hl3:m9.mems.length=l3 at *;clear hl3;generalize hl4:m9.globs.length=l4 at *;clear hl4;generalize hl5:m9.exps.length=l5 at *;clear hl5;generalize hl6:m9.datas.length=l6 at *;clear hl6;generalize hl7:m9.cus.length=l7 at *;clear hl7;obtain⟨kk0,kk1,kk2,kk3,kk4,kk5,kk6,kk7⟩:=HB5.out.cells;simp only at kk0 kk1 kk2 kk3 kk4 kk5 kk6 kk7;obtain⟨z0,s0⟩:=Vc HB5.out.res 0 (by omega);obtain⟨z1,s1⟩:=Vc HB5.out.res 1 (by omega);obtain⟨z2,s2⟩:=Vc HB5.out.res 2 (by omega);obtain⟨z3,s3⟩:=Vc HB5.out.res 3 (by omega);obtain⟨z4,s4⟩:=Vc HB5.out.res 4 (by omega);obtain⟨z5,s5⟩:=Vc HB5.out.res 5 (by omega);obtain⟨z6,s6⟩:=Vc HB5.out.res 6 (by omega);obtain⟨z7,s7⟩:=Vc HB5.out.res 7 (by omega);have HBX0:=hD HB5.out.lo;have HFL:=hD (fill8_at HB5.out.res ⟨.slice B0 l0 e0,.slice B1 l1 e1,.slice B2 l2 e2,.slice B3 l3 e3,.slice B4 l4 e4,.slice B5 l5 e5,.slice B6 l6 e6,.slice B7 l7 e7⟩);have HFIN:Hid (OddPost K (k+1) w (.returned (.agg #[.slice B0 l0 e0,.slice B1 l1 e1,.slice B2 l2 e2,.slice B3 l3 e3,.slice B4 l4 e4,.slice B5 l5 e5,.slice B6 l6 e6,.slice B7 l7 e7])) (fill8 x9 (w.heap.size+1+1) ⟨.slice B0 l0 e0,.slice B1 l1 e1,.slice B2 l2 e2,.slice B3 l3 e3,.slice B4 l4 e4,.slice B5 l5 e5,.slice B6 l6 e6,.slice B7 l7 e7⟩)):=hD ⟨⟨.slice B0 l0 e0,.slice B1 l1 e1,.slice B2 l2 e2,.slice B3 l3 e3,.slice B4 l4 e4,.slice B5 l5 e5,.slice B6 l6 e6,.slice B7 l7 e7⟩,m9,rfl,HB5.out.at_.keep ((Uc _ _ _).mono fun _ hk e=>by rcases hk.2 with h2|h2;(· have:=HBX0.out _ h2;omega);(· omega)) (fun _ hk=>hk.2.elim .inl fun h2=>.inr ⟨by omega,WK hk.1 (Uc _ _ _).size⟩),HB5.out.sz,below_fill8 HB5.out.bl (by omega) _⟩;clear HB5;go_wp2;have hfl:=HFL.out;unfold fill8 at hfl;have hfin:=HFIN.out;unfold fill8 at hfin;simp only[Mv.cells]at hfl;exact bodyPost_ret (v:=.agg #[.slice B0 l0 e0,.slice B1 l1 e1,.slice B2 l2 e2,.slice B3 l3 e3,.slice B4 l4 e4,.slice B5 l5 e5,.slice B6 l6 e6,.slice B7 l7 e7]) (by simp[results,Tryz.results21,go_sem,World.cell?,hfl]) rfl hfin
end
end Go.Proofs.YtgmgcadlkebokaaGreatDoor
