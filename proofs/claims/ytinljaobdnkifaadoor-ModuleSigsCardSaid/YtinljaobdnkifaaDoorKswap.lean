/-
  Contract of swap.
-/
import Derived.Test.YtinljaobdnkifaaDoorKtop
namespace Go.Proofs.YtinljaobdnkifaaDoor
open Go.RowKit

set_option maxRecDepth 100000 in
set_option maxHeartbeats 2000000 in
theorem swap_any {F : Fx} {w : World} {x : St} (h : Gen F w x) (v1 v2 : Value) (q1 q2 : List Int) (hv1 : IntsK (free F w x) w v1 q1) (hv2 : IntsK (free F w x) w v2 q2) (hq : q1.length ≤ x.s.length) (hq2 : q2.length ≤ 3) (hm : Most x 900000) :
    Calls Tryd.prog 54 #[.pointer (some ⟨F.G, 0, none⟩), v1, v2] w (GPost F w x (.tuple #[]) (fun x' => x'.s.length + q1.length = x.s.length + q2.length ∧ x'.c.length = x.c.length ∧ x'.nl = x.nl ∧ x'.left = x.left)) := by
  have hms := hm.s
  obtain ⟨As, cs, hsv, hsc, _⟩ := h.sform
  obtain ⟨A1, c1, hl1, _, _⟩ := hv1.form
  obtain ⟨A2, c2, hl2, _, _⟩ := hv2.form
  obtain ⟨d, hdS⟩ : ∃ d : Nat, x.s.length = d + q1.length := ⟨x.s.length - q1.length, by omega⟩
  have c12 := h.c12
  have c12b := (h.pushf (.cells #[] 3)).1
  have HN1 : Hid (News (w.alloc (.cells #[] 3)) (.slice As d cs) d ((x.s.take d).map (Value.int .i64))) := h.snews (.alloc w (fun _ h => h) _) hsv (by omega)
  have HN2 : Hid (∀ w1, Keeps (fun k => k < w.heap.size) w w1 → News w1 (.slice A2 q2.length c2) q2.length (q2.map (Value.int .i64))) := fun w1 hk => by rw [← hl2]; exact hv2.news_at (fun k hk => hk.1) hk
  have HLT : Hid ((x.s.take d).length = d) := by rw [Hid, List.length_take]; omega
  rw [hl1, hl2]
  rw [hsv] at c12 c12b
  have H := Lib.hid h
  have HSV := Lib.hid hsv
  clear h hv1 hv2 hl1 hl2 hm hsv
  generalize hX : x.s.length = S at *
  generalize hQ1 : q1.length = m1 at *
  generalize hQ2 : q2.length = m2 at *
  have HX := Lib.hid hX
  have HQ1 := Lib.hid hQ1
  have HQ2 := Lib.hid hQ2
  clear hX hQ1 hQ2
  have e1 : IntKind.i64.wrap ((S : Int) - (m1 : Int)) = (d : Int) := by rw [show (S : Int) - (m1 : Int) = (d : Int) by omega]; exact IntWalk.i64_in _ (by omega)
  have HD := Lib.hid hdS
  have hdl : d ≤ S := by omega
  have hdc : d ≤ cs := by omega
  have hdc2 : (d : Int) ≤ (cs : Int) := by omega
  clear hdS
  go_enter Tryd.func54, Tryd.ntmps54
  go_wp2_with fail
  go_region_law (first
    | (refine step_append_row rfl (.tmp 7) (.tmp 20) 22 3 rfl _ 1 8 Tryd.underlying22 Tryd.infoInt rfl (by decide) (by decide) (.slice (some ⟨w.heap.size, 0, none⟩) 0 0) 0 [] (by rfl) (owns_drew (owns_nothing w _)) _ d ((x.s.take d).map (Value.int .i64)) (by rfl) (by rw [List.length_map, HLT.out, Nat.mul_one]) (news_drew HN1.out) (ones_int _) (by omega) ?_; intro u1 w1 ho1 hg1 ha1; simp only [Nat.zero_add, List.nil_append] at ho1; have hk1 := keeps_made (grown_drew hg1); obtain ⟨B1, k1, rfl⟩ := owns_slice ho1)
    | (refine step_append_row rfl (.tmp 21) (.tmp 22) 22 3 rfl _ 1 8 Tryd.underlying22 Tryd.infoInt rfl (by decide) (by decide) _ _ _ (by rfl) ho1 _ m2 (q2.map (Value.int .i64)) (by rfl) (by rw [List.length_map, HQ2.out, Nat.mul_one]) (HN2.out _ hk1) (ones_int _) (by omega) ?_; intro u2 w2 ho2 hg2 ha2; have hk2 := keeps_made2 (o := .cells #[] 3) hk1 ha1 hg2; obtain ⟨e12, f12⟩ := H.out.store12 hk2; obtain ⟨B2, k2, rfl⟩ := owns_slice ho2))
  all_goals
    have hsl : (x.s.take d ++ q2).length = d + m2 := by rw [List.length_append, HLT.out, HQ2.out]
    have ho : w2.ownsRow 0 3 1 (.slice B2 (d + m2) k2) (x.s.take d ++ q2).length ((x.s.take d ++ q2).map (Value.int .i64)) := by rw [hsl, List.map_append]; exact ho2
    have hgs := H.out.setS (hk2.mono fun _ h => h.1) _ _ ho (.inr (made_at hk1 ha1 ha2))
    have HGS := Lib.hid hgs
    have HSL := Lib.hid hsl
    clear hgs hsl ho
    go_wp2
    refine bodyPost_end (results_none rfl _ _ _) rfl ⟨rfl, _, HGS.out.1, HGS.out.2, ?_, rfl, rfl, rfl⟩
    show (x.s.take d ++ q2).length + _ = _
    rw [HSL.out]
    have := HD.out
    omega
end Go.Proofs.YtinljaobdnkifaaDoor
