/-
  Contract of shape.
-/
import Derived.Test.YtinljaobdnkifaaDoorKswap
namespace Go.Proofs.YtinljaobdnkifaaDoor
open Go.RowKit

/-- The stack cut short. -/
theorem Gen.pop {F : Fx} {w : World} {x : St} (h : Gen F w x) {A : Option Addr} {c d : Nat} (hs : x.sv = .slice A x.s.length c) (hd : d ≤ x.s.length) :
    Gen F (w.setCell ⟨F.G, 12, none⟩ (.slice A d c)) { x with sv := .slice A d c, s := x.s.take d } ∧ Step F w x (w.setCell ⟨F.G, 12, none⟩ (.slice A d c)) { x with sv := .slice A d c, s := x.s.take d } := by
  have hl : (x.s.take d).length = d := by rw [List.length_take]; omega
  refine h.setS (.refl _ _) _ _ ?_ (.inl (by rw [hs]; cases A <;> rfl))
  rw [hl]
  rcases h.so.2 with ⟨h1, h2⟩ | ⟨g, cap, cur, h1, _⟩
  · rw [hs] at h1
    simp only [Value.slice.injEq] at h1
    obtain ⟨rfl, h3, rfl⟩ := h1
    obtain rfl : d = 0 := by omega
    simpa using World.ownsRow_nil w 0 _ 1
  · rw [hs] at h1
    simp only [Value.slice.injEq] at h1
    obtain ⟨rfl, _, rfl⟩ := h1
    have h0 := h.so
    rw [hs] at h0
    have h4 := owns_cut h0 hd
    rwa [Nat.mul_one, ← List.map_take] at h4

/-- So many on the stack just; at most so many more things made; all else in number as it was. -/
def Just (x x' : St) (n d : Nat) : Prop := x'.s.length = n ∧ x'.s.length + x'.c.length ≤ x.s.length + x.c.length + d ∧ x'.nl = x.nl ∧ x'.left = x.left
theorem Just.most {x x' : St} {B n d : Nat} (hn : Just x x' n d) (h : Most x B) : Most x' (B + d) := by
  obtain ⟨_, h2, _⟩ := hn; unfold Most at h ⊢; omega

/-- The stack's length, as the world has it. -/
def slenW (G : Nat) (w : World) : Nat := match w.cell? ⟨G, 12, none⟩ with | some (.slice _ n _) => n | _ => 0

set_option maxRecDepth 100000 in
set_option maxHeartbeats 2000000 in
theorem shape_any {F : Fx} {w : World} {x : St} (h : Gen F w x) (v : Value) (q : List Int) (hv : IntsK (free F w x) w v q) (hq : q.length ≤ 3) (ht : Nat) (hh : ht ≤ x.s.length) (hm : Most x 870000) :
    Calls Tryd.prog 16 #[.pointer (some ⟨F.G, 0, none⟩), v, .int .i64 (ht : Int)] w (GPost F w x (.tuple #[]) (fun x' => Just x x' (ht + q.length) 6)) := by
  have T := top_any h v q hv hq ht (by have := hm.s; omega) (hm.le (by omega))
  have hms := hm.s
  obtain ⟨As, cs, hsv, hsc, _⟩ := h.sform
  have c12 := h.c12
  rw [hsv] at c12
  have H := Lib.hid h
  have HT := Lib.hid T
  obtain ⟨A, c, hlv, _, _⟩ := hv.form
  have HV := hv
  rw [hlv] at HV
  have HHV := Lib.hid HV
  rw [hlv] at HT ⊢
  have HSV := Lib.hid hsv
  clear h T hv HV hlv hsv
  generalize hQ : q.length = m at *
  generalize hX : x.s.length = S at *
  have HQ := Lib.hid hQ
  have HX := Lib.hid hX
  clear hQ hX
  have e1 : IntKind.i64.wrap ((S : Int) - (ht : Int)) = (S : Int) - (ht : Int) := IntWalk.i64_in _ (by omega)
  go_enter Tryd.func16, Tryd.ntmps16
  by_cases hne : S = ht + m
  case' pos =>
    have hd : (((S : Int) - (ht : Int)) == (m : Int)) = true := by simp; omega
    go_wp2_with fail
    go_at_call 26
    refine HT.out.mono ?_
    rintro e w1 ⟨b, rfl, _, hbel⟩
    obtain ⟨hg1, hs1⟩ := H.out.below hbel
    have H1 := Lib.hid hg1
    have HS1 := Lib.hid hs1
    clear hg1 hs1 hbel HT c12
    cases b
    case' true =>
      go_wp2
      refine bodyPost_ret (results_none rfl _ _ _) rfl ⟨rfl, _, H1.out, HS1.out, by rw [HX.out]; exact hne, by omega, rfl, rfl⟩
  case' neg =>
    have hd : (((S : Int) - (ht : Int)) == (m : Int)) = false := by simp; omega
    have H1 := H
    have HS1 := Lib.hid (Step.refl F w x)
    clear HT c12
    have c12 := H1.out.c12
    rw [HSV.out] at c12
  all_goals
    go_wp2_with fail
    clear e1 hd
    try clear c12
    go_loopw [23] (fun _ wr => ∃ y : St, Hid (Gen F wr y) ∧ Hid (Step F w x wr y) ∧ ht ≤ y.s.length ∧ Hid (y.s.length + y.c.length ≤ x.s.length + x.c.length ∧ y.nl = x.nl ∧ y.left = x.left)) (fun _ wr => slenW F.G wr)
    case atStart => exact ⟨x, H1, HS1, by rw [HX.out]; omega, Lib.hid ⟨Nat.le_refl _, rfl, rfl⟩⟩
    case round =>
      clear H1 HS1
      obtain ⟨y, HY, HSY, hty, HZ⟩ := hrel
      obtain ⟨Ay, cy, hsy, hcy, _⟩ := HY.out.sform
      have c12 := HY.out.c12
      rw [hsy] at c12
      have HC12 := Lib.hid c12
      have HSLY := Lib.hid hsy
      clear hsy
      have hmy : Most y 870000 := by have h1 := HZ.out.1; unfold Most at hm ⊢; omega
      have hmys := hmy.s
      generalize hYS : y.s.length = Y at *
      have HYS := Lib.hid hYS
      clear hYS
      by_cases hlt : ht < Y
      · have hd : decide ((ht : Int) < (Y : Int)) = true := by simp; omega
        obtain ⟨d, hdY⟩ : ∃ d : Nat, Y = d + 1 := ⟨Y - 1, by omega⟩
        go_wp2_with fail
        go_at_call 17
        refine (put_any HY.out _ _ _ _ _ ⟨[], IntsK.nil _ _⟩ (hmy.le (by omega))).mono ?_
        rintro e w2 ⟨rfl, x2, hg2, hs2, hn2⟩
        have hm2 := hmy.num hn2
        obtain ⟨A2, c2, h2v, h2c, _⟩ := hg2.sform
        have hl2 : x2.s.length = Y := by rw [hn2.1, HYS.out, Nat.add_zero]
        have c12' := hg2.c12
        have f12' := hg2.frozen 12
        rw [h2v, hl2] at c12'
        rw [hl2] at h2c
        have hpop := hg2.pop (d := d) h2v (by omega)
        have HP := Lib.hid hpop
        have HS2 := Lib.hid (HSY.out.trans hs2)
        have HN2 := Lib.hid hn2
        have HL2 := Lib.hid hl2
        have HDY := Lib.hid hdY
        have e1 : IntKind.i64.wrap ((Y : Int) - 1) = (d : Int) := by rw [show (Y : Int) - 1 = (d : Int) by omega]; exact IntWalk.i64_in _ (by omega)
        have hdc : d ≤ c2 := by omega
        clear hpop h2v hl2 hdY hg2 hs2 hn2 c12 HY HSY
        go_wp2_with fail
        go_region
        go_wp2
        have hl3 : (x2.s.take d).length = d := by rw [List.length_take, HL2.out]; have := HDY.out; omega
        go_roundw
        case rel =>
          refine ⟨_, HP.out.1.drew.1, HS2.out.trans (HP.out.2.trans HP.out.1.drew.2), ?_, ?_⟩
          · show ht ≤ (x2.s.take d).length
            rw [hl3]; have := HDY.out; omega
          · obtain ⟨z1, z2, z3⟩ := HZ.out
            obtain ⟨n1, n2, n3, n4⟩ := HN2.out
            refine ⟨?_, n3.trans z2, n4.trans z3⟩
            show (x2.s.take d).length + x2.c.length ≤ _
            rw [hl3, n2]; have := HDY.out; have := HYS.out; omega
        case measure =>
          have m1 := HP.out.1.drew.1.c12
          have m2 := HC12.out
          have := HDY.out
          unfold slenW
          rw [m1, m2]
          show d < Y
          omega
      · have hd : decide ((ht : Int) < (Y : Int)) = false := by simp; omega
        obtain rfl : Y = ht := by omega
        have hx := HSY.out.ints HHV.out
        have HX2 := Lib.hid hx
        clear hx HC12
        go_wp2_with fail
        clear hd c12
        go_loopw [6] (fun i wr => ∃ (k : Nat) (z : St), k ≤ m ∧ i = .int .i64 (k : Int) ∧ Hid (Gen F wr z) ∧ Hid (Step F w x wr z) ∧ Hid (Num y z k k)) (fun i _ => m - (intOf i).toNat)
        case atStart => exact ⟨0, y, Nat.zero_le _, rfl, HY, HSY, Lib.hid ⟨rfl, rfl, rfl, rfl⟩⟩
        case round =>
          clear HY HSY HX2
          obtain ⟨k, z, hk, rfl, HZ1, HSZ, HNZ⟩ := hrel
          have hmz := hmy.num HNZ.out
          by_cases hlt2 : k < m
          · have hkn : (0 : Int) ≤ k := Int.natCast_nonneg _
            have hd : decide ((k : Int) < (m : Int)) = true := by simp; omega
            obtain ⟨gl, ol, c2, he, _, _⟩ := HHV.out.some_ (by rw [HQ.out]; omega)
            simp only [Value.slice.injEq] at he
            obtain ⟨rfl, -, -⟩ := he
            have k2 := (HSZ.out.ints HHV.out).at_ k (by omega)
            generalize q.getD k 0 = t at k2
            go_wp2_with (go_at_call 27; refine (value_any HZ1.out t (hmz.le (by omega))).mono ?_; rintro e w2 ⟨rfl, x2, hg2, hs2, hn2⟩; have H2 := Lib.hid hg2; have HS2 := Lib.hid (HSZ.out.trans hs2); have HN2 := Lib.hid (HNZ.out.trans hn2); clear hg2 hs2 hn2)
            go_roundw
            case rel => exact ⟨k + 1, x2, by omega, by go_num, H2, HS2, HN2⟩
            case measure => simp [intOf]; omega
          · have hd : decide ((k : Int) < (m : Int)) = false := by simp; omega
            obtain rfl : k = m := by omega
            go_wp2
            obtain ⟨n1, n2, n3, n4⟩ := HNZ.out
            obtain ⟨z1, z2, z3⟩ := HZ.out
            have h9 := HYS.out
            refine bodyPost_end (results_none rfl _ _ _) rfl ⟨rfl, _, HZ1.out, HSZ.out, by rw [n1, h9], by omega, n3.trans z2, n4.trans z3⟩
end Go.Proofs.YtinljaobdnkifaaDoor
