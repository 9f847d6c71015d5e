/-
  MatchNested's walk.
-/
import Derived.Test.YtdfonjnplmfhfaaKmodule
import Derived.Test.YtdfonjnplmfhfaaMcode
import Derived.Test.YtdfonjnplmfhfaaJA
import Derived.Test.YtdfonjnplmfhfaaJB
import Derived.BigQuiet
import Derived.Deep.QuietTactic
namespace Go.Proofs.Ytdfonjnplmfhfaa
open Go.RowKit

/-- What the first loop wants of one function: its cells, its code, what is found of it. -/
structure FunFacts (w : World) (g o j : Nat) (d : List Int) (out : List Sp) (ty : Int) (Al : Option Addr) (nl cl : Nat) (Ac : Option Addr) (cc : Nat) : Prop where
  c0 : w.cell? ⟨g, o + j * 3, none⟩ = some (.int .i64 ty)
  c1 : w.cell? ⟨g, o + j * 3 + 1, none⟩ = some (.slice Al nl cl)
  c2 : w.cell? ⟨g, o + j * 3 + 2, none⟩ = some (.slice Ac (d.length + 1) cc)
  le : d.length + 1 ≤ cc ∧ d.length + 1 ≤ 900000
  code : CodeAt w Ac (d.length + 1) (d ++ [11])
  nest : nestOf d [] = some []
  out_ : matchP (d ++ [11]) = (out, 0)
theorem fun_facts {w : World} {g o m c : Nat} {l : List Fnc} (h : FunsK (fun k => k < w.heap.size) w (.slice (some ⟨g, o, none⟩) m c) l) (hok : ∀ f ∈ l, fncOk f) (j : Nat) (hj : j < l.length) :
    ∃ d out ty Al nl cl Ac cc, FunFacts w g o j d out ty Al nl cl Ac cc := by
  obtain ⟨Al, nl, cl, Ac, cc, k0, k1, k2, k3, k4⟩ := h.at_ j hj
  obtain ⟨_, _, _, _, hlen, d, hd, hn⟩ := hok _ (fnc_mem l j fnc0 hj)
  obtain ⟨out, ho, _⟩ := nested_facts _ hn
  have e1 : (l.getD j fnc0).code.length = (d.map Ins.op).length + 1 := by rw [hd]; simp
  have e2 : (l.getD j fnc0).code.map Ins.op = d.map Ins.op ++ [11] := by rw [hd]; simp
  rw [e1] at k2 k3 k4 hlen
  rw [e2] at k4
  exact ⟨_, out, _, Al, nl, cl, Ac, cc, k0, k1, k2, ⟨k3, hlen⟩, k4, hn, ho⟩
theorem FunFacts.below {w w' : World} {g o j : Nat} {d : List Int} {out : List Sp} {ty : Int} {Al : Option Addr} {nl cl : Nat} {Ac : Option Addr} {cc : Nat} (h : FunFacts w g o j d out ty Al nl cl Ac cc) (hb : Below w.heap.size w w') : FunFacts w' g o j d out ty Al nl cl Ac cc :=
  ⟨(hb.cell (p := ⟨g, o + j * 3, none⟩) (World.block_lt_of_cell? w _ h.c0)).trans h.c0, (hb.cell (p := ⟨g, o + j * 3 + 1, none⟩) (World.block_lt_of_cell? w _ h.c1)).trans h.c1, (hb.cell (p := ⟨g, o + j * 3 + 2, none⟩) (World.block_lt_of_cell? w _ h.c2)).trans h.c2, h.le, h.code.below hb, h.nest, h.out_⟩
/-- A module that is handed back, as the statements' walks want it: eight slices, the functions. -/
theorem mod_forms {w : World} {v : Mv} {m : Mdl} (h : ModAt (fun k => k < w.heap.size) w v m) (hm : MadeM m) :
    ∃ A0 n0 c0 A1 n1 c1 g2 o2 c2 A3 n3 c3 A4 n4 c4 A5 n5 c5 A6 n6 c6 A7 n7 c7, v = ⟨.slice A0 n0 c0, .slice A1 n1 c1, .slice (some ⟨g2, o2, none⟩) m.funs.length c2, .slice A3 n3 c3, .slice A4 n4 c4, .slice A5 n5 c5, .slice A6 n6 c6, .slice A7 n7 c7⟩ ∧ FunsK (fun k => k < w.heap.size) w (.slice (some ⟨g2, o2, none⟩) m.funs.length c2) m.funs := by
  obtain ⟨v0, v1, v2, v3, v4, v5, v6, v7⟩ := v
  obtain ⟨h0, h1, h2, h3, h4, h5, h6, h7⟩ := h
  simp only at h0 h1 h2 h3 h4 h5 h6 h7
  obtain ⟨A0, n0, c0, rfl⟩ := CellsK.form3 h0
  obtain ⟨A1, n1, c1, rfl⟩ := CellsK.form3 h1
  obtain ⟨A3, n3, c3, rfl⟩ := CellsK.form3 h3
  obtain ⟨A4, n4, c4, rfl⟩ := CellsK.form3 h4
  obtain ⟨A5, n5, c5, rfl⟩ := CellsK.form3 h5
  obtain ⟨A6, n6, c6, rfl⟩ := CellsK.form3 h6
  obtain ⟨A7, n7, c7, rfl⟩ := CellsK.form3 h7
  obtain ⟨g2, o2, c2, rfl, _, _⟩ := CellsK.some_ h2 hm.funs.1.1
  exact ⟨A0, n0, c0, A1, n1, c1, g2, o2, c2, A3, n3, c3, A4, n4, c4, A5, n5, c5, A6, n6, c6, A7, n7, c7, rfl, h2⟩
theorem SpIn.cells {w : World} {A : Option Addr} {n c : Nat} {l : List Sp} (h : SpIn w (.slice A n c) l) (k : Nat) (hk : k < n) : n = l.length ∧ ∃ g, A = some ⟨g, 0, none⟩ ∧ g < w.heap.size ∧ ∀ j, j < n → w.cell? ⟨g, j * 3, none⟩ = some (.int .i64 (spAt l j).1) ∧ w.cell? ⟨g, j * 3 + 1, none⟩ = some (.int .i64 (spAt l j).2.1) ∧ w.cell? ⟨g, j * 3 + 2, none⟩ = some (.int .i64 (spAt l j).2.2) := by
  obtain ⟨A', c', he, _, h2⟩ := h
  simp only [Value.slice.injEq] at he
  obtain ⟨rfl, rfl, rfl⟩ := he
  obtain ⟨g, h3, h4, h5⟩ := h2 (by omega)
  exact ⟨rfl, g, h3, h4, h5⟩

end Go.Proofs.Ytdfonjnplmfhfaa
