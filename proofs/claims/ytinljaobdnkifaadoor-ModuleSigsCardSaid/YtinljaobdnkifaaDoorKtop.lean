/-
  Contracts of top, need.
-/
import Derived.Test.YtinljaobdnkifaaDoorKvalue
namespace Go.Proofs.YtinljaobdnkifaaDoor
open Go.RowKit

/-- A bool comes back: true only where so many lie above the height. -/
def TopPost (m ht S : Nat) (w : World) (e : Ending) (w' : World) : Prop := ∃ b : Bool, e = .returned (.bool b) ∧ (b = true → ht + m ≤ S) ∧ Below w.heap.size w w'

theorem Gen.scell {F : Fx} {w : World} {x : St} (h : Gen F w x) (h0 : 0 < x.s.length) : ∃ g c : Nat, x.sv = .slice (some ⟨g, 0, none⟩) x.s.length c ∧ x.s.length ≤ c ∧ c ≤ maxLen ∧ g < w.heap.size ∧ ∀ j, j < x.s.length → w.cell? ⟨g, j, none⟩ = some (.int .i64 (x.s.getD j 0)) := by
  have hs := h.so
  obtain ⟨g, c, he, h1, h2⟩ : ∃ g c : Nat, x.sv = .slice (some ⟨g, 0, none⟩) x.s.length c ∧ x.s.length ≤ c ∧ c ≤ maxLen := by
    rcases hs.2 with ⟨_, h2⟩ | ⟨g, cap, cur, h1, _, _, h2, h3, _⟩
    · omega
    · exact ⟨g, cap, h1, h2, h3⟩
  rw [he] at hs
  refine ⟨g, c, he, h1, h2, (hs.lt g rfl).2, fun j hj => ?_⟩
  rw [hs.cellAt j (by rw [Nat.mul_one]; exact hj)]
  simp [hj]

set_option maxRecDepth 100000 in
set_option maxHeartbeats 1000000 in
theorem top_any {F : Fx} {w : World} {x : St} (h : Gen F w x) (v : Value) (q : List Int) (hv : IntsK (free F w x) w v q) (hq : q.length ≤ 3) (ht : Nat) (hh : ht ≤ 1000000) (hm : Most x 900000) :
    Calls Tryd.prog 26 #[.pointer (some ⟨F.G, 0, none⟩), v, .int .i64 (ht : Int)] w (TopPost q.length ht x.s.length w) := by
  have c12 := h.c12
  have hms := hm.s
  obtain ⟨As, cs, hsv, hsc, _⟩ := h.sform
  obtain ⟨A, c, hlv, _, _⟩ := hv.form
  have HS := fun h0 => h.scell h0
  have HV := hv
  rw [hlv] at HV ⊢
  have HVS := Lib.hid hsv
  rw [hsv] at c12 HS
  have HHS := Lib.hid HS
  have HHV := Lib.hid HV
  clear hlv hv HV h hm HS hsv
  generalize hQ : q.length = m at *
  generalize hX : x.s.length = S at *
  have HQ := Lib.hid hQ
  have HX := Lib.hid hX
  clear hQ hX
  have e0 : IntKind.i64.wrap ((S : Int) - (ht : Int)) = (S : Int) - (ht : Int) := IntWalk.i64_in _ (by omega)
  by_cases hlt : S < ht + m
  · have hd : decide ((S : Int) - (ht : Int) < (m : Int)) = true := by simp; omega
    go_enter Tryd.func26, Tryd.ntmps26
    go_wp2
    go_ret
    exact ⟨false, rfl, (fun h => by cases h), Below.refl _ _⟩
  · have hd : decide ((S : Int) - (ht : Int) < (m : Int)) = false := by simp; omega
    obtain ⟨d, hdS⟩ : ∃ d : Nat, S = d + m := ⟨S - m, by omega⟩
    have e1 : IntKind.i64.wrap ((S : Int) - (m : Int)) = (d : Int) := by rw [show (S : Int) - (m : Int) = (d : Int) by omega]; exact IntWalk.i64_in _ (by omega)
    have HD := Lib.hid hdS
    clear hdS
    go_enter Tryd.func26, Tryd.ntmps26
    go_wp2_with fail
    go_loopw [7] (fun i wr => ∃ k a : Nat, k ≤ m ∧ i = .int .i64 (k : Int) ∧ wr = w.drewN a) (fun i _ => m - (intOf i).toNat)
    case atStart => exact ⟨0, 0, Nat.zero_le _, rfl, rfl⟩
    case round =>
      obtain ⟨k, a, hk, rfl, rfl⟩ := hrel
      by_cases hkm : k < m
      · have hDS := HD.out
        have hkn : (0 : Int) ≤ k := Int.natCast_nonneg _
        have hd2 : decide ((k : Int) < (m : Int)) = true := by simp; omega
        obtain ⟨g, c', he, _, _, _, hcs⟩ := HHS.out (by omega)
        simp only [Value.slice.injEq] at he
        obtain ⟨rfl, -, -⟩ := he
        obtain ⟨gl, ol, c2, he, _, _⟩ := HHV.out.some_ (by rw [HQ.out]; omega)
        simp only [Value.slice.injEq] at he
        obtain ⟨rfl, -, -⟩ := he
        have k1 := hcs (d + k) (by omega)
        have k2 := HHV.out.at_ k (by omega)
        generalize x.s.getD (d + k) 0 = z at k1
        generalize q.getD k 0 = y at k2
        have e2 : IntKind.i64.wrap ((d : Int) + (k : Int)) = (d : Int) + (k : Int) := IntWalk.i64_in _ (by omega)
        have e3 : (0 : Int) ≤ (d : Int) + (k : Int) := by omega
        have e4 : (d : Int) + (k : Int) < (S : Int) := by omega
        have e5 : ((d : Int) + (k : Int)).toNat = d + k := by omega
        clear hDS hcs
        go_wp2_with fail
        go_quiet (fail)
        by_cases hzy : z = y
        · have hd3 : (z != y) = false := by simpa using hzy
          go_wp2
          go_roundw
          case rel => exact ⟨k + 1, _, by omega, by go_num, rfl⟩
          case measure => simp [intOf]; omega
        · have hd3 : (z != y) = true := by simpa using hzy
          go_wp2
          go_ret
          exact ⟨false, rfl, (fun h => by cases h), below_drewN (below_drewN (Below.refl _ _) _) _⟩
      · have hd2 : decide ((k : Int) < (m : Int)) = false := by simp; omega
        go_wp2
        go_ret
        exact ⟨true, rfl, fun _ => by omega, below_drewN (Below.refl _ _) _⟩

set_option maxRecDepth 100000 in
set_option maxHeartbeats 1000000 in
theorem need_any {F : Fx} {w : World} {x : St} (h : Gen F w x) (v : Value) (q : List Int) (hv : IntsK (free F w x) w v q) (hq : q.length ≤ 3) (ht : Nat) (hh : ht ≤ x.s.length) (hm : Most x 870000) :
    Calls Tryd.prog 53 #[.pointer (some ⟨F.G, 0, none⟩), v, .int .i64 (ht : Int)] w (GPost F w x (.tuple #[]) (fun x' => Up x x' 6 ∧ ht + q.length ≤ x'.s.length)) := by
  have T := top_any h v q hv hq ht (by have := hm.s; omega) (hm.le (by omega))
  have H := Lib.hid h
  have HT := Lib.hid T
  obtain ⟨A, c, hlv, _, _⟩ := hv.form
  have HV := hv
  rw [hlv] at HV
  have HHV := Lib.hid HV
  have HLV := Lib.hid hlv
  have HH := Lib.hid hh
  rw [hlv] at HT ⊢
  clear h T hv HV hh hlv
  generalize hQ : q.length = m at *
  have HQ := Lib.hid hQ
  clear hQ
  go_enter Tryd.func53, Tryd.ntmps53
  go_wp2_with fail
  go_at_call 26
  refine HT.out.mono ?_
  rintro e w1 ⟨b, rfl, hb, hbel⟩
  obtain ⟨hg1, hs1⟩ := H.out.below hbel
  have HB := Lib.hid hb
  have H1 := Lib.hid hg1
  have HS1 := Lib.hid hs1
  clear hb hg1 hs1 hbel HT
  cases b with
  | true =>
    go_wp2
    refine bodyPost_ret (results_none rfl _ _ _) rfl ⟨rfl, _, H1.out, HS1.out, (Up.refl x).le (by omega), HB.out trivial⟩
  | false =>
    go_wp2_with fail
    go_loopw [6] (fun i wr => ∃ (k : Nat) (y : St), k ≤ m ∧ i = .int .i64 (k : Int) ∧ Hid (Gen F wr y) ∧ Hid (Step F w x wr y) ∧ Hid (Num x y k k)) (fun i _ => m - (intOf i).toNat)
    case atStart => exact ⟨0, x, Nat.zero_le _, rfl, H1, HS1, Lib.hid ⟨rfl, rfl, rfl, rfl⟩⟩
    case round =>
      clear H1 HS1
      obtain ⟨k, y, hk, rfl, HY, HSY, HNY⟩ := hrel
      have hmy := hm.num HNY.out
      by_cases hlt : k < m
      · have hkn : (0 : Int) ≤ k := Int.natCast_nonneg _
        have hd : decide ((k : Int) < (m : Int)) = true := by simp; omega
        obtain ⟨gl, ol, c2, he, _, _⟩ := HHV.out.some_ (by rw [HQ.out]; omega)
        simp only [Value.slice.injEq] at he
        obtain ⟨rfl, -, -⟩ := he
        have k2 := (HSY.out.ints HHV.out).at_ k (by omega)
        generalize q.getD k 0 = z at k2
        go_wp2_with (go_at_call 27; refine (value_any HY.out z (hmy.le (by omega))).mono ?_; rintro e w2 ⟨rfl, x2, hg2, hs2, hn2⟩; have H2 := Lib.hid hg2; have HS2 := Lib.hid (HSY.out.trans hs2); have HN2 := Lib.hid (HNY.out.trans hn2); clear hg2 hs2 hn2)
        go_roundw
        case rel => exact ⟨k + 1, x2, by omega, by go_num, H2, HS2, HN2⟩
        case measure => simp [intOf]; omega
      · have hd : decide ((k : Int) < (m : Int)) = false := by simp; omega
        obtain rfl : k = m := by omega
        go_wp2
        refine bodyPost_end (results_none rfl _ _ _) rfl ⟨rfl, _, HY.out, HSY.out, HNY.out.up.le (by omega), ?_⟩
        have h1 := HNY.out.1
        have h2 := HH.out
        rw [h1]; omega
end Go.Proofs.YtinljaobdnkifaaDoor
