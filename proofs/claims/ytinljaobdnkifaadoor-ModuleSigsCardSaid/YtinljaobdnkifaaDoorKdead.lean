/-
  Contract of dead.
-/
import Derived.Test.YtinljaobdnkifaaDoorKshape
namespace Go.Proofs.YtinljaobdnkifaaDoor
open Go.RowKit

theorem lit6 (r : Nat) (hr : r < 6) : ∃ v : Int, #[Value.int .i64 26, .int .i64 106, .int .i64 160, .int .i64 124, .int .i64 192, .int .i64 69][r]? = some (.int .i64 v) ∧ plain v := by
  match r with
  | 0 | 1 | 2 | 3 | 4 | 5 => exact ⟨_, rfl, plain_of (by decide)⟩

set_option maxRecDepth 100000 in
set_option maxHeartbeats 2000000 in
theorem dead_any {F : Fx} {w : World} {x : St} (h : Gen F w x) (ht : Nat) (hh : ht ≤ x.s.length) (hm : Most x 870000) :
    Calls Tryd.prog 84 #[.pointer (some ⟨F.G, 0, none⟩), .int .i64 (ht : Int)] w (GPost F w x (.tuple #[]) (fun x' => Just x x' ht 2)) := by
  have hms := hm.s
  obtain ⟨As, cs, hsv, hsc, _⟩ := h.sform
  have c12 := h.c12
  have f12 := h.frozen 12
  rw [hsv] at c12
  have hpop := h.pop (d := ht) hsv hh
  have hl : (x.s.take ht).length = ht := by rw [List.length_take]; omega
  obtain ⟨hg1, hs1⟩ := hpop
  have hj1 : Just x { x with sv := .slice As ht cs, s := x.s.take ht } ht 0 := ⟨hl, by show (x.s.take ht).length + x.c.length ≤ _; omega, rfl, rfl⟩
  have hm1 : Most { x with sv := .slice As ht cs, s := x.s.take ht } 870000 := hj1.most hm
  have hhc : ht ≤ cs := by omega
  clear h hsv hl
  generalize hx1 : ({ x with sv := .slice As ht cs, s := x.s.take ht } : St) = x1 at *
  clear hx1
  have HG1 := Lib.hid hg1
  have HS1 := Lib.hid hs1
  have HJ1 := Lib.hid hj1
  clear hg1 hs1 hj1
  go_enter Tryd.func84, Tryd.ntmps84
  have c0 := HG1.out.c0
  go_wp2_with fail
  go_at_call 12
  refine (next_gen HG1.out 4 (by omega) (by omega)).mono ?_
  rintro e w2 ⟨r2, hr2, rfl, x2, hg2, hs2, hn2⟩
  have c0' := hg2.c0
  have HS2 := Lib.hid (HS1.out.trans hs2)
  have HN2 := Lib.hid hn2
  have hm2 := hm1.num hn2
  have H2 := Lib.hid hg2
  have hal := fun o => (hg2.alloc o).1.c0
  clear hg2 hs2 hn2 HG1 HS1 c0
  by_cases h20 : r2 = 0
  · subst h20
    go_wp2_with fail
    go_at_call 12
    refine (next_gen (x := x2) (H2.out.alloc _).1 6 (by omega) (by omega)).mono ?_
    rintro e w3 ⟨r3, hr3, rfl, x3, hg3, hs3, hn3⟩
    obtain ⟨v, hv, hpl⟩ := lit6 r3 hr3
    have HPL := Lib.hid hpl
    clear hpl
    have hcv := (H2.out.new_cell _ _ hs3 r3).trans hv
    have HS3 := Lib.hid (HS2.out.trans ((H2.out.alloc _).2.trans hs3))
    have HN3 := Lib.hid (HN2.out.trans hn3)
    have hm3 := hm2.num hn3
    have H3 := Lib.hid hg3
    clear hg3 hs3 hn3 hv hal H2 HS2 HN2 c0'
    go_wp2_with fail
    go_at_call 17
    refine (put_any H3.out _ _ _ _ _ ⟨[], IntsK.nil _ _⟩ (hm3.le (by omega)) HPL.out).mono ?_
    rintro e w4 ⟨rfl, x4, hg4, hs4, hn4⟩
    have H4 := Lib.hid hg4
    have HS4 := Lib.hid (HS3.out.trans hs4)
    have HN4 := Lib.hid (HN3.out.trans hn4)
    have hm4 := hm3.num hn4
    clear hg4 hs4 hn4 H3 HS3 HN3 hcv
    go_wp2_with fail
    go_at_call 17
    refine (put_any H4.out _ _ _ _ _ ⟨[], IntsK.nil _ _⟩ (hm4.le (by omega))).mono ?_
    rintro e w5 ⟨rfl, x5, hg5, hs5, hn5⟩
    go_wp2
    obtain ⟨n1, n2, n3, n4⟩ := HN4.out.trans hn5
    obtain ⟨j1, j2, j3, j4⟩ := HJ1.out
    refine bodyPost_end (results_none rfl _ _ _) rfl ⟨rfl, _, hg5, HS4.out.trans hs5, by omega, by omega, n3.trans j3, n4.trans j4⟩
  · have hd : ((r2 : Int) == 0) = false := by simp; omega
    go_wp2
    obtain ⟨n1, n2, n3, n4⟩ := HN2.out
    obtain ⟨j1, j2, j3, j4⟩ := HJ1.out
    refine bodyPost_end (results_none rfl _ _ _) rfl ⟨rfl, _, H2.out, HS2.out, by omega, by omega, n3.trans j3, n4.trans j4⟩
end Go.Proofs.YtinljaobdnkifaaDoor
