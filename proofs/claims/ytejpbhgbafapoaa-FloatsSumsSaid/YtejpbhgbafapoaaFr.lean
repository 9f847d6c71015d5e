/-
  How the model's own operations on floats run: what they give up to which NaN it is, and how many answers they draw.
-/
import Derived.Test.YtejpbhgbafapoaaFw
import Derived.Deep.Draws
namespace Go.Proofs.Ytejpbhgbafapoaa
open Go.RowKit

/-- A NaN that is drawn is one. -/
theorem drawn_nan (t : Nat) : isNaN ((t % 2) * 2 ^ 63 + 0x7ff0000000000000 + 1 + (t / 2) % (2 ^ 52 - 1)) = true ∧ (t % 2) * 2 ^ 63 + 0x7ff0000000000000 + 1 + (t / 2) % (2 ^ 52 - 1) < 18446744073709551616 := by
  rw [isNaN_iff]; unfold rung
  rcases Nat.mod_two_eq_zero_or_one t with h | h <;> rw [h] <;> omega
theorem qz_nan {z : Nat} (h : isNaN z = true) : qz (some z) = qz none := by
  change (if isNaN z = true then 9221120237041090560 else z) = 9221120237041090560
  rw [if_pos h]

theorem arith_run {P : Program} (op : BinOp) (hop : op = .add ∨ op = .sub ∨ op = .mul ∨ op = .quo) (x y : Nat) (w : World) :
    ∃ z k, (∀ t, (binOp op t (.float .f64 x) (.float .f64 y)).run P w = .ok (.float .f64 z) (w.drewN k)) ∧ z < 18446744073709551616 ∧ qz (some z) = qz (floatBits op .f64 x y) := by
  cases h : floatBits op .f64 x y with
  | some r =>
    refine ⟨r, 0, fun t => run_float_arith w op t .f64 x y r h, ?_, rfl⟩
    have := floatBits_wf h
    simpa [Lit.wf] using this
  | none =>
    obtain ⟨d1, d2⟩ := drawn_nan (w.tape w.drawn (.nanBits .f64 x y))
    refine ⟨_, 1, ?_, d2, qz_nan d1⟩
    intro t
    unfold floatBits at h
    rcases hop with rfl | rfl | rfl | rfl <;> simp only at h <;> simp [binOp, Op.floatArith, h, Question.forced, Question.cut, World.drew_is_drewN]

def minBits (x y : Nat) : Option Nat := match Ieee.double.order x y with
  | none => none | some .lt => some x | some .gt => some y | some .eq => some (if sgn x then x else y)
def maxBits (x y : Nat) : Option Nat := match Ieee.double.order x y with
  | none => none | some .lt => some y | some .gt => some x | some .eq => some (if sgn x then y else x)
theorem neg_read (x : Nat) : (FloatKind.f64.decode x).neg = sgn x := by
  change (Ieee.double.read x).neg = sgn x
  by_cases h : rung x < 9218868437227405312
  · rw [read_fin x h]; rfl
  · by_cases h1 : rung x = 9218868437227405312
    · rw [read_inf x h1]; rfl
    · rw [read_nan x (by omega)]; rfl
theorem min_run {P : Program} (x y : Nat) (hx : x < 18446744073709551616) (hy : y < 18446744073709551616) (w : World) :
    ∃ z k, (∀ ts t, (Builtin.min_ ts t #[.float .f64 x, .float .f64 y]).run P w = .ok (.float .f64 z) (w.drewN k)) ∧ z < 18446744073709551616 ∧ qz (some z) = qz (minBits x y) := by
  unfold minBits
  have hn := neg_read x
  cases h : Ieee.double.order x y with
  | none =>
    obtain ⟨d1, d2⟩ := drawn_nan (w.tape w.drawn (.nanMinMax .f64 false x y))
    refine ⟨_, 1, ?_, d2, qz_nan d1⟩
    intro ts t
    have h2 : FloatKind.f64.format.order x y = none := h
    simp [Builtin.min_, Builtin.min2, h2, Question.forced, Question.cut, World.drew_is_drewN]
  | some c =>
    cases c with
    | lt => exact ⟨x, 0, fun ts t => by have h2 : FloatKind.f64.format.order x y = some .lt := h; simp [Builtin.min_, Builtin.min2, h2, World.drewN_zero], hx, rfl⟩
    | gt => exact ⟨y, 0, fun ts t => by have h2 : FloatKind.f64.format.order x y = some .gt := h; simp [Builtin.min_, Builtin.min2, h2, World.drewN_zero], hy, rfl⟩
    | eq => exact ⟨if sgn x then x else y, 0, fun ts t => by have h2 : FloatKind.f64.format.order x y = some .eq := h; simp [Builtin.min_, Builtin.min2, h2, World.drewN_zero, hn], by split <;> assumption, rfl⟩
theorem max_run {P : Program} (x y : Nat) (hx : x < 18446744073709551616) (hy : y < 18446744073709551616) (w : World) :
    ∃ z k, (∀ ts t, (Builtin.max_ ts t #[.float .f64 x, .float .f64 y]).run P w = .ok (.float .f64 z) (w.drewN k)) ∧ z < 18446744073709551616 ∧ qz (some z) = qz (maxBits x y) := by
  unfold maxBits
  have hn := neg_read x
  cases h : Ieee.double.order x y with
  | none =>
    obtain ⟨d1, d2⟩ := drawn_nan (w.tape w.drawn (.nanMinMax .f64 true x y))
    refine ⟨_, 1, ?_, d2, qz_nan d1⟩
    intro ts t
    have h2 : FloatKind.f64.format.order x y = none := h
    simp [Builtin.max_, Builtin.max2, h2, Question.forced, Question.cut, World.drew_is_drewN]
  | some c =>
    cases c with
    | lt => exact ⟨y, 0, fun ts t => by have h2 : FloatKind.f64.format.order x y = some .lt := h; simp [Builtin.max_, Builtin.max2, h2, World.drewN_zero], hy, rfl⟩
    | gt => exact ⟨x, 0, fun ts t => by have h2 : FloatKind.f64.format.order x y = some .gt := h; simp [Builtin.max_, Builtin.max2, h2, World.drewN_zero], hx, rfl⟩
    | eq => exact ⟨if sgn x then y else x, 0, fun ts t => by have h2 : FloatKind.f64.format.order x y = some .eq := h; simp [Builtin.max_, Builtin.max2, h2, World.drewN_zero, hn], by split <;> assumption, rfl⟩

/-- What the four ways to whole numbers give: none of a NaN. -/
def intBits (way : Ieee.Toward) (x : Nat) : Option Nat := if isNaN x then none else some (integ way x)
theorem quiet_bd (t : Nat) (h0 : 0 < t) (h : t < 4503599627370496) : 0 < FloatKind.f64.format.quiet t ∧ FloatKind.f64.format.quiet t < 4503599627370496 := by
  change 0 < t ||| 2 ^ 51 ∧ t ||| 2 ^ 51 < 4503599627370496
  refine ⟨Nat.lt_of_lt_of_le h0 Nat.left_le_or, ?_⟩
  exact Nat.or_lt_two_pow (n := 52) h (by decide)
theorem toIntegral_num (name : String) (way : Ieee.Toward) (x : Nat) (d : Ieee.Datum) (hd : FloatKind.f64.decode x = d) (hn : d.isNaN = false) :
    Extern.MathFloor.toIntegral name way #[.float .f64 x] = pure (.float .f64 (Ieee.double.write (d.integral way))) := by
  cases d with
  | nan => cases hn
  | infinity s =>
    change ((match FloatKind.f64.decode x with
      | .nan s t => if FloatKind.f64.format.quiet t = t then pure (.float .f64 x) else do
          let kept ← choose _
          pure (.float .f64 (if kept == 1 then x else FloatKind.f64.encode (.nan s (FloatKind.f64.format.quiet t))))
      | d => pure (.float .f64 (FloatKind.f64.encode (d.integral way)))) : Sem Value) = _
    rw [hd]; rfl
  | number s m e =>
    change ((match FloatKind.f64.decode x with
      | .nan s t => if FloatKind.f64.format.quiet t = t then pure (.float .f64 x) else do
          let kept ← choose _
          pure (.float .f64 (if kept == 1 then x else FloatKind.f64.encode (.nan s (FloatKind.f64.format.quiet t))))
      | d => pure (.float .f64 (FloatKind.f64.encode (d.integral way)))) : Sem Value) = _
    rw [hd]; rfl
theorem toIntegral_nan {P : Program} (name : String) (way : Ieee.Toward) (x s t : Nat) (b : Bool) (hd : FloatKind.f64.decode x = .nan b t) (w : World) (hs : s = FloatKind.f64.encode (.nan b (FloatKind.f64.format.quiet t))) :
    ∃ z k, (Extern.MathFloor.toIntegral name way #[.float .f64 x]).run P w = .ok (.float .f64 z) (w.drewN k) ∧ (z = x ∨ z = s) := by
  have e : ∃ q, q.forced = false ∧ Extern.MathFloor.toIntegral name way #[.float .f64 x] = (if FloatKind.f64.format.quiet t = t then pure (.float .f64 x) else do
          let kept ← choose q
          pure (.float .f64 (if kept == 1 then x else s))) := by
    subst hs
    refine ⟨?q, ?h1, ?h2⟩
    case h2 =>
      change ((match FloatKind.f64.decode x with
        | .nan s t => if FloatKind.f64.format.quiet t = t then pure (.float .f64 x) else do
            let kept ← choose _
            pure (.float .f64 (if kept == 1 then x else FloatKind.f64.encode (.nan s (FloatKind.f64.format.quiet t))))
        | d => pure (.float .f64 (FloatKind.f64.encode (d.integral way)))) : Sem Value) = _
      rw [hd]
    case h1 => rfl
  obtain ⟨q, hq, e⟩ := e
  rw [e]
  by_cases hc : FloatKind.f64.format.quiet t = t
  · rw [if_pos hc]; exact ⟨x, 0, rfl, .inl rfl⟩
  · rw [if_neg hc]
    simp only [Sem.run_bind, run_choose_drew, hq, Sem.run_pure, Bool.false_eq_true, if_false, Result.andThen]
    generalize (Question.cut q (w.tape w.drawn q) == 1) = c
    cases c
    · exact ⟨s, 1, rfl, .inr rfl⟩
    · exact ⟨x, 1, rfl, .inl rfl⟩
theorem toIntegral_run {P : Program} (name : String) (way : Ieee.Toward) (x : Nat) (hx : x < 18446744073709551616) (w : World) :
    ∃ z k, (Extern.MathFloor.toIntegral name way #[.float .f64 x]).run P w = .ok (.float .f64 z) (w.drewN k) ∧ z < 18446744073709551616 ∧ qz (some z) = qz (intBits way x) := by
  unfold intBits
  by_cases h : 9218868437227405312 < rung x
  · have hn := (isNaN_iff x).mpr h
    have hl := rung_lt x
    rw [if_pos hn]
    obtain ⟨z, k, h1, h2⟩ := toIntegral_nan (P := P) name way x _ _ _ (read_nan x h) w rfl
    have hq := quiet_bd (rung x - 9218868437227405312) (by omega) (by omega)
    refine ⟨z, k, h1, ?_⟩
    generalize FloatKind.f64.format.quiet (rung x - 9218868437227405312) = q at hq h2
    have he : isNaN (FloatKind.f64.encode (.nan (sgn x) q)) = true := by
      change isNaN (Ieee.double.word (sgn x) (Ieee.double.infRung + q % Ieee.double.binade)) = true
      rw [d_inf, d_binade, Nat.mod_eq_of_lt hq.2, isNaN_iff, (word_rung _ _ (by omega)).1]
      omega
    rcases h2 with rfl | rfl
    · exact ⟨hx, qz_nan hn⟩
    · exact ⟨Ieee.double.write_lt _, qz_nan he⟩
  · have hn := (isNaN_not x).mpr (by omega)
    rw [hn]
    refine ⟨integ way x, 0, ?_, integ_lt _ _, rfl⟩
    by_cases h1 : rung x < 9218868437227405312
    · rw [toIntegral_num name way x _ (read_fin x h1) rfl]
      unfold integ
      rw [read_fin x h1]; rfl
    · rw [toIntegral_num name way x _ (read_inf x (by omega)) rfl]
      unfold integ
      rw [read_inf x (by omega)]; rfl

theorem archfloor_run (x : Nat) (hx : x < 18446744073709551616) (w : World) :
    ∃ z k, (callFunc 33 #[.float .f64 x]).run Try.prog w = .ok (.value (.float .f64 z)) (w.drewN k) ∧ z < 18446744073709551616 ∧ qz (some z) = qz (intBits .down x) := by
  obtain ⟨z, k, h, h1, h2⟩ := toIntegral_run (P := Try.prog) "math.archFloor" .down x hx w
  refine ⟨z, k, ?_, h1, h2⟩
  rw [run_callFunc_extern Try.func33 (by kernel_rfl) (by kernel_rfl) (by kernel_rfl) (e := Extern.MathFloor.toIntegral "math.archFloor" .down) (by kernel_rfl), h]
  rfl
theorem archceil_run (x : Nat) (hx : x < 18446744073709551616) (w : World) :
    ∃ z k, (callFunc 31 #[.float .f64 x]).run Try.prog w = .ok (.value (.float .f64 z)) (w.drewN k) ∧ z < 18446744073709551616 ∧ qz (some z) = qz (intBits .up x) := by
  obtain ⟨z, k, h, h1, h2⟩ := toIntegral_run (P := Try.prog) "math.archCeil" .up x hx w
  refine ⟨z, k, ?_, h1, h2⟩
  rw [run_callFunc_extern Try.func31 (by kernel_rfl) (by kernel_rfl) (by kernel_rfl) (e := Extern.MathFloor.toIntegral "math.archCeil" .up) (by kernel_rfl), h]
  rfl
theorem archtrunc_run (x : Nat) (hx : x < 18446744073709551616) (w : World) :
    ∃ z k, (callFunc 35 #[.float .f64 x]).run Try.prog w = .ok (.value (.float .f64 z)) (w.drewN k) ∧ z < 18446744073709551616 ∧ qz (some z) = qz (intBits .zero x) := by
  obtain ⟨z, k, h, h1, h2⟩ := toIntegral_run (P := Try.prog) "math.archTrunc" .zero x hx w
  refine ⟨z, k, ?_, h1, h2⟩
  rw [run_callFunc_extern Try.func35 (by kernel_rfl) (by kernel_rfl) (by kernel_rfl) (e := Extern.MathFloor.toIntegral "math.archTrunc" .zero) (by kernel_rfl), h]
  rfl
theorem even_run (x : Nat) (hx : x < 18446744073709551616) (w : World) :
    ∃ z k, (callFunc 25 #[.float .f64 x]).run Try.prog w = .ok (.value (.float .f64 z)) (w.drewN k) ∧ z < 18446744073709551616 ∧ qz (some z) = qz (intBits .even x) := by
  obtain ⟨z, k, h, h1, h2⟩ := toIntegral_run (P := Try.prog) "math.RoundToEven" .even x hx w
  refine ⟨z, k, ?_, h1, h2⟩
  rw [run_callFunc_extern Try.func25 (by kernel_rfl) (by kernel_rfl) (by kernel_rfl) (e := Extern.MathFloor.toIntegral "math.RoundToEven" .even) (by kernel_rfl), h]
  rfl
/-- For what is no NaN the way towards nought gives one word and draws nothing. -/
theorem archtrunc_num (x : Nat) (h : rung x ≤ 9218868437227405312) (w : World) :
    (callFunc 35 #[.float .f64 x]).run Try.prog w = .ok (.value (.float .f64 (integ .zero x))) w := by
  rw [run_callFunc_extern Try.func35 (by kernel_rfl) (by kernel_rfl) (by kernel_rfl) (e := Extern.MathFloor.toIntegral "math.archTrunc" .zero) (by kernel_rfl)]
  have e : (Extern.MathFloor.toIntegral "math.archTrunc" .zero #[.float .f64 x]).run Try.prog w = .ok (.float .f64 (integ .zero x)) w := by
    by_cases h1 : rung x < 9218868437227405312
    · rw [toIntegral_num _ _ x _ (read_fin x h1) rfl]
      unfold integ
      rw [read_fin x h1]; rfl
    · rw [toIntegral_num _ _ x _ (read_inf x (by omega)) rfl]
      unfold integ
      rw [read_inf x (by omega)]; rfl
  rw [e]; rfl
end Go.Proofs.Ytejpbhgbafapoaa
