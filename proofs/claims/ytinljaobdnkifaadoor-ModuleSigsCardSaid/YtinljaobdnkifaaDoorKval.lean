/-
  Contracts of constant, near: one value more.
-/
import Derived.Test.YtinljaobdnkifaaDoorKput
import Derived.Deep.CutRange
import Derived.Deep.CutBlock
namespace Go.Proofs.YtinljaobdnkifaaDoor
open Go.RowKit

theorem lit12 (r : Nat) (hr : r < 12) : ∃ v : Int, #[Value.int .u64 18446744073709551615, .int .u64 9223372036854775808, .int .u64 2147483647, .int .u64 2147483648, .int .u64 9218868437227405312, .int .u64 9221120237041090560, .int .u64 18442240474082181120, .int .u64 4609434218613702656, .int .u64 4746794007246405632, .int .u64 13970166044103278592, .int .u64 9223372036854775808, .int .u64 4890909195324358656][r]? = some (.int .u64 v) := by
  match r with
  | 0 | 1 | 2 | 3 | 4 | 5 | 6 | 7 | 8 | 9 | 10 | 11 => exact ⟨_, rfl⟩

set_option maxRecDepth 100000 in
theorem constant_any {F : Fx} {w : World} {x : St} (h : Gen F w x) (t : Int) (hm : Most x 890000) :
    Calls Tryd.prog 61 #[.pointer (some ⟨F.G, 0, none⟩), .int .i64 t] w (GPost F w x (.tuple #[]) (fun x' => Num x x' 1 1)) := by
  have c0 := h.c0
  have H := Lib.hid h
  clear h
  go_enter Tryd.func61, Tryd.ntmps61
  go_wp2_with fail
  go_at_call 12
  refine (next_gen H.out 40 (by omega) (by omega)).mono ?_
  rintro e w1 ⟨r1, hr1, rfl, x1, hg1, hs1, hn1⟩
  replace c0 := hg1.c0
  have H1 := Lib.hid hg1
  clear hg1
  go_upto_if 17 with (go_at_call 12; refine (next_gen H1.out 4 (by omega) (by omega)).mono ?_; rintro e w2 ⟨r2, hr2, rfl, x2, hg2, hs2, hn2⟩)
  replace c0 := hg2.c0
  have H2 := Lib.hid hg2
  have HS := Lib.hid (hs1.trans hs2)
  have HN := Lib.hid (hn1.trans hn2)
  have hal := fun o => (hg2.alloc o).1.c0
  clear hg2 hs2 hn2 hs1 hn1
  go_cut [4] from 18 to 25 (fun v wx => ∃ (v' : Int) (x' : St), v = .int .u64 v' ∧ Hid (Gen F wx x') ∧ Hid (Step F w x wx x') ∧ Hid (Num x x' 0 0))
  case first =>
    by_cases h20 : r2 = 0
    · subst h20
      go_wp2_with ((go_at_call 12; refine (next_gen (x := x2) (H2.out.alloc _).1 12 (by omega) (by omega)).mono ?_; rintro e w3 ⟨r3, hr3, rfl, x3, hg3, hs3, hn3⟩; obtain ⟨v, hv⟩ := lit12 r3 hr3; have hcv := (H2.out.new_cell _ _ hs3 r3).trans hv; have H3 := Lib.hid hg3; have HS3 := Lib.hid (HS.out.trans ((H2.out.alloc _).2.trans hs3)); have HN3 := Lib.hid (HN.out.trans hn3); clear hg3 hs3 hn3 hv))
      go_meet
      exact ⟨v, x3, rfl, H3, HS3, HN3⟩
    · have hd : ((r2 : Int) == 0) = false := by simp; omega
      go_wp2
      go_meet
      exact ⟨r1, x2, rfl, H2, HS, HN⟩
  case rest =>
    obtain ⟨v, x3, rfl, H3, HS3, HN3⟩ := hcut
    clear H1 H2 HS HN hal c0
    have c0 := H3.out.c0
    go_upto_if 27 with fail
    go_cut [4, 5] from 28 to 36 (fun v o wx => ∃ (v' o' : Int), v = .int .u64 v' ∧ o = .int .i64 o' ∧ wx = wc ∧ Hid (plain o'))
    case first =>
      by_cases ht : t = 127
      · have hd : (t == 127) = true := by simpa using ht
        go_wp2
        go_meet
        exact ⟨_, _, rfl, rfl, rfl, plain_of (by decide)⟩
      · have hd : (t == 127) = false := by simpa using ht
        by_cases ht2 : t = 124
        · have hd2 : (t == 124) = true := by simpa using ht2
          go_wp2
          all_goals
            go_meet
            exact ⟨_, _, rfl, rfl, rfl, plain_of (by decide)⟩
        · have hd2 : (t == 124) = false := by simpa using ht2
          go_wp2
          go_meet
          exact ⟨_, _, rfl, rfl, rfl, plain_of (by decide)⟩
    case rest =>
      obtain ⟨v4, o5, rfl, rfl, rfl, HPL⟩ := hcut
      have hm3 := hm.num HN3.out
      go_wp2_with fail
      go_at_call 17
      refine (put_any H3.out _ _ _ _ _ ⟨[], IntsK.nil _ _⟩ (hm3.le (by omega)) HPL.out).mono ?_
      rintro e w4 ⟨rfl, x4, hg4, hs4, hn4⟩
      have hm4 := (hm3.num hn4).s
      have H4 := Lib.hid hg4
      have HS4 := Lib.hid (HS3.out.trans hs4)
      have HN4 := Lib.hid (HN3.out.trans hn4)
      clear hg4 hs4 hn4 H3 HS3 HN3 c0
      have c12 := H4.out.c12
      have c12b := (H4.out.pushf (.cells #[.int .i64 t] 3)).1
      go_wp2_with (at_builtin; refine wpList_append_row rfl (.tmp 46) (.tmp 48) 22 3 rfl _ 1 8 Tryd.underlying22 Tryd.infoInt rfl (by decide) (by decide) x4.sv x4.s.length (x4.s.map (Value.int .i64)) (by rfl) (H4.out.so.alloc _) _ 1 [.int .i64 t] (by rfl) (by rfl) (news_new w4 _ _ 1 1) (ones_int [t]) (by omega) ?_; intro v' w' hown hgr hat; obtain ⟨e12, f12⟩ := (H4.out.pushf _).2 w' hgr; obtain ⟨A', c', rfl⟩ := owns_slice hown)
      have hgs := H4.out.pushS _ hgr t _ hown hat
      clear hgr hown hat e12 f12 c12 c12b
      have HGS := Lib.hid hgs
      clear hgs
      refine bodyPost_end (results_none rfl _ _ _) rfl ⟨rfl, _, HGS.out.1, HS4.out.trans HGS.out.2, ?_⟩
      obtain ⟨n1, n2, n3, n4⟩ := HN4.out
      exact ⟨by show (x4.s ++ [t]).length = _; rw [List.length_append, n1]; rfl, n2, n3, n4⟩
end Go.Proofs.YtinljaobdnkifaaDoor
