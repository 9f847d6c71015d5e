/-
  Any calls of two memories: 'play' is true.
-/
import Derived.Test.YtljhdibnnaepdaaPgd
import Derived.Test.YtljhdibnnaepdaaPgg
import Derived.Lib.Hide
namespace Go.Proofs.Ytljhdibnnaepdaa
open Go.RowKit
variable {w0 w w' : World} {f : Feet} {la lb lo l2 : List Nat} {mx : Nat}

/-! ### A text as bytes -/
def pmark (w : World) (l : List Nat) : World := (w.alloc (.cells (l.map byt).toArray 5)).freeze ⟨w.heap.size, l.length, none⟩ 1
theorem conv_text (w : World) (l : List Nat) (n c : Nat) : (convert 27 27 (.slice (some ⟨w.heap.size, 0, none⟩) n c)).run Try.prog (w.alloc (.cells (l.map byt).toArray 5)) = .ok (.slice (some ⟨w.heap.size, 0, none⟩) n c) (pmark w l) := by
  have hsh : (w.alloc (.cells (l.map byt).toArray 5)).shape? w.heap.size = some (5, l.length) := by
    simp [World.shape?, World.alloc, -World.alloc_eq]
  simp [convert, run_underlying Try.underlying27, run_underlying Try.underlying5, markStringish, pmark, hsh, Result.andThen]
theorem below_pmark (w : World) (l : List Nat) : Below w.heap.size w (pmark w l) := by
  unfold pmark
  exact Lib.below_freeze ((Below.refl _ _).alloc (Nat.le_refl _) _) (p := ⟨w.heap.size, _, none⟩) (Nat.le_refl _) 1
theorem pmark_at (w : World) (l : List Nat) : (pmark w l).heap[w.heap.size]? = some (.cells (l.map byt).toArray 5 (l.length, l.length + 1)) := by
  simp [pmark, World.freeze, World.alloc, -World.alloc_eq]
  rw [Array.getElem_modify_self]
  simp
theorem bytes_pmark (w : World) (l : List Nat) (hl : ∀ x ∈ l, x < 256) : Bytes (pmark w l) (some ⟨w.heap.size, 0, none⟩) l := by
  refine ⟨hl, fun _ => ⟨w.heap.size, 0, rfl, ?_, fun j hj => ?_⟩⟩
  · exact (Array.getElem?_eq_some_iff.1 (pmark_at w l)).1
  · simp [World.cell?, pmark_at, hj, byt]
def otherT : List Nat := [116, 104, 101, 32, 111, 116, 104, 101, 114, 32, 109, 101, 109, 111, 114, 121]
theorem conv_other (w : World) : (convert 27 27 (.slice (some ⟨w.heap.size, 0, none⟩) 16 16)).run Try.prog (w.alloc (.cells #[.int .u8 116, .int .u8 104, .int .u8 101, .int .u8 32, .int .u8 111, .int .u8 116, .int .u8 104, .int .u8 101, .int .u8 114, .int .u8 32, .int .u8 109, .int .u8 101, .int .u8 109, .int .u8 111, .int .u8 114, .int .u8 121] 5)) = .ok (.slice (some ⟨w.heap.size, 0, none⟩) 16 16) (pmark w otherT) := conv_text w otherT 16 16

/-! ### The four memories, made -/
theorem Four.puts {w5 w6 w7 w8 : World} {lo2 : List Nat} (h : Four w0 f la lb lo mx w5) (h1 : But [f 5] w5 w6) (g1 : Pg 52 (f 4) (f 5) lo2 1 w6) (h2 : Below w6.heap.size w6 w7) (h3 : But [f 7] w7 w8) (g3 : Pg 46 (f 6) (f 7) lo2 1 w8) : Four w0 f la lb lo2 mx w8 := by
  have hne : ∀ {i j : Nat}, i < 8 → j < 8 → i ≠ j → f i ∉ [f j] := fun {i j} hi hj hij hm => hij (h.inj i j hi hj (by simpa using hm))
  refine ⟨((h.a.next h1 (hne (by decide) (by decide) (by decide)) (hne (by decide) (by decide) (by decide))).next (but_of h2 []) (by simp) (by simp)).next h3 (hne (by decide) (by decide) (by decide)) (hne (by decide) (by decide) (by decide)),
    ((h.b.next h1 (hne (by decide) (by decide) (by decide)) (hne (by decide) (by decide) (by decide))).next (but_of h2 []) (by simp) (by simp)).next h3 (hne (by decide) (by decide) (by decide)) (hne (by decide) (by decide) (by decide)),
    (g1.next (but_of h2 []) (by simp) (by simp)).next h3 (hne (by decide) (by decide) (by decide)) (hne (by decide) (by decide) (by decide)), g3, h.inj, h.lo_, ?_⟩
  have b1 := h.acc.trans (h1.below (by simp; exact h.lo_ 5 (by decide)) h.acc.size)
  have b2 := below_then b1 h2
  exact b2.trans (h3.below (by simp; exact h.lo_ 7 (by decide)) b2.size)
theorem Four.x_at {w5 w6 w7 : World} (h : Four w0 f la lb lo mx w5) (h1 : But [f 5] w5 w6) (h2 : Below w6.heap.size w6 w7) : Pg 46 (f 6) (f 7) lo 1 w7 := by
  have hne : ∀ {i j : Nat}, i < 8 → j < 8 → i ≠ j → f i ∉ [f j] := fun {i j} hi hj hij hm => hij (h.inj i j hi hj (by simpa using hm))
  exact (h.x.next h1 (hne (by decide) (by decide) (by decide)) (hne (by decide) (by decide) (by decide))).next (but_of h2 []) (by simp) (by simp)
def feetOf (p B p2 B2 pO BO pX BX : Nat) : Feet := fun i => if i = 0 then p else if i = 1 then B else if i = 2 then p2 else if i = 3 then B2 else if i = 4 then pO else if i = 5 then BO else if i = 6 then pX else BX
theorem four_new {w1 w2 w3 w4 : World} {p B p2 B2 pO BO pX BX : Nat} (a1 : w.heap.size ≤ p) (a2 : w.heap.size ≤ B) (ga : Pg 52 p B la mx w1) (h1 : Below w.heap.size w w1)
    (o1 : w1.heap.size ≤ pO) (o2 : w1.heap.size ≤ BO) (go : Pg 52 pO BO lo 1 w2) (h2 : Below w1.heap.size w1 w2)
    (b1 : w2.heap.size ≤ p2) (b2 : w2.heap.size ≤ B2) (gb : Pg 46 p2 B2 la mx w3) (h3 : Below w2.heap.size w2 w3)
    (x1 : w3.heap.size ≤ pX) (x2 : w3.heap.size ≤ BX) (gx : Pg 46 pX BX lo 1 w4) (h4 : Below w3.heap.size w3 w4) :
    Four w (feetOf p B p2 B2 pO BO pX BX) la la lo mx w4 := by
  have s1 := h1.size
  have s2 := h2.size
  have s3 := h3.size
  have s4 := h4.size
  have pa := ga.ltP
  have qa := ga.ltB
  have po := go.ltP
  have qo := go.ltB
  have pb := gb.ltP
  have qb := gb.ltB
  have px := gx.ltP
  have qx := gx.ltB
  have na := ga.ne
  have no := go.ne
  have nb := gb.ne
  have nx := gx.ne
  have hf : ∀ i, i < 8 → (i = 0 ∧ feetOf p B p2 B2 pO BO pX BX i = p) ∨ (i = 1 ∧ feetOf p B p2 B2 pO BO pX BX i = B) ∨ (i = 2 ∧ feetOf p B p2 B2 pO BO pX BX i = p2) ∨ (i = 3 ∧ feetOf p B p2 B2 pO BO pX BX i = B2) ∨ (i = 4 ∧ feetOf p B p2 B2 pO BO pX BX i = pO) ∨ (i = 5 ∧ feetOf p B p2 B2 pO BO pX BX i = BO) ∨ (i = 6 ∧ feetOf p B p2 B2 pO BO pX BX i = pX) ∨ (i = 7 ∧ feetOf p B p2 B2 pO BO pX BX i = BX) := fun i hi =>
    match i, hi with
    | 0, _ => .inl ⟨rfl, rfl⟩
    | 1, _ => .inr (.inl ⟨rfl, rfl⟩)
    | 2, _ => .inr (.inr (.inl ⟨rfl, rfl⟩))
    | 3, _ => .inr (.inr (.inr (.inl ⟨rfl, rfl⟩)))
    | 4, _ => .inr (.inr (.inr (.inr (.inl ⟨rfl, rfl⟩))))
    | 5, _ => .inr (.inr (.inr (.inr (.inr (.inl ⟨rfl, rfl⟩)))))
    | 6, _ => .inr (.inr (.inr (.inr (.inr (.inr (.inl ⟨rfl, rfl⟩))))))
    | 7, _ => .inr (.inr (.inr (.inr (.inr (.inr (.inr ⟨rfl, rfl⟩))))))
    | _ + 8, h => absurd h (by omega)
  refine ⟨((ga.next (but_of h2 []) (by simp) (by simp)).next (but_of h3 []) (by simp) (by simp)).next (but_of h4 []) (by simp) (by simp), gb.next (but_of h4 []) (by simp) (by simp), (go.next (but_of h3 []) (by simp) (by simp)).next (but_of h4 []) (by simp) (by simp), gx, ?_, ?_, below_then (below_then (below_then h1 h2) h3) h4⟩
  · intro i j hi hj he
    rcases hf i hi with ⟨rfl, e⟩ | ⟨rfl, e⟩ | ⟨rfl, e⟩ | ⟨rfl, e⟩ | ⟨rfl, e⟩ | ⟨rfl, e⟩ | ⟨rfl, e⟩ | ⟨rfl, e⟩ <;> rcases hf j hj with ⟨rfl, e'⟩ | ⟨rfl, e'⟩ | ⟨rfl, e'⟩ | ⟨rfl, e'⟩ | ⟨rfl, e'⟩ | ⟨rfl, e'⟩ | ⟨rfl, e'⟩ | ⟨rfl, e'⟩ <;> first | rfl | (exfalso; omega)
  · intro i hi
    rcases hf i hi with ⟨rfl, e⟩ | ⟨rfl, e⟩ | ⟨rfl, e⟩ | ⟨rfl, e⟩ | ⟨rfl, e⟩ | ⟨rfl, e⟩ | ⟨rfl, e⟩ | ⟨rfl, e⟩ <;> omega

/-! ### What is asked -/
/-- Bytes that came in. -/
def BytesIn (w : World) (b : Value) : Prop := ∃ (A : Option Addr) (n c : Nat) (ys : List Nat), b = .slice A n c ∧ ys.length = n ∧ n ≤ c ∧ n ≤ 9223372036854775807 ∧ Bytes w A ys
/-- Calls that came in: N of them. -/
def AsksIn (w : World) (v : Value) (N : Nat) : Prop := ∃ (A : Option Addr) (c : Nat), v = .slice A N c ∧ N ≤ 9223372036854775807 ∧ (0 < N → ∃ g o : Nat, A = some ⟨g, o, none⟩ ∧ g < w.heap.size ∧ ∀ j, j < N → ∃ (kd n : Int) (q s v : Nat) (b : Value),
  w.cell? ⟨g, o + j * 6, none⟩ = some (.int .i64 kd) ∧ w.cell? ⟨g, o + j * 6 + 1, none⟩ = some (.int .i64 n) ∧ w.cell? ⟨g, o + j * 6 + 2, none⟩ = some (.int .u64 (q : Int)) ∧ w.cell? ⟨g, o + j * 6 + 3, none⟩ = some (.int .u64 (s : Int)) ∧ w.cell? ⟨g, o + j * 6 + 4, none⟩ = some (.int .u64 (v : Int)) ∧ w.cell? ⟨g, o + j * 6 + 5, none⟩ = some b ∧ BytesIn w b)
theorem do_in (h : Four w0 f la la lo mx w) {b : Value} (hb : BytesIn w0 b) (kd n : Int) (q s v : Nat) : Calls Try.prog 19 #[.pointer (some ⟨f 0, 0, none⟩), .pointer (some ⟨f 4, 0, none⟩), .pointer (some ⟨f 2, 0, none⟩), .pointer (some ⟨f 6, 0, none⟩), .agg #[.int .i64 kd, .int .i64 n, .int .u64 (q : Int), .int .u64 (s : Int), .int .u64 (v : Int), b]] w (DoPost w0 f lo mx) := by
  obtain ⟨A, n0, c, ys, rfl, hn, hc, hm, hy⟩ := hb
  exact do_any h A n0 c ys hn hc hm hy kd n q s v
theorem below_asks {w w' : World} {v : Value} {N : Nat} (h : AsksIn w v N) (hb : Below w.heap.size w w') : AsksIn w' v N := by
  obtain ⟨A, c, rfl, hm, h0⟩ := h
  refine ⟨A, c, rfl, hm, fun h1 => ?_⟩
  obtain ⟨g, o, rfl, hg, hc⟩ := h0 h1
  refine ⟨g, o, rfl, Nat.lt_of_lt_of_le hg hb.size, fun j hj => ?_⟩
  obtain ⟨kd, n, q, s, v, b, e0, e1, e2, e3, e4, e5, A', n0, c', ys, rfl, hn, hc', hm', hy⟩ := hc j hj
  have e : ∀ i, w'.cell? ⟨g, i, none⟩ = w.cell? ⟨g, i, none⟩ := fun i => hb.cell (p := ⟨g, i, none⟩) hg
  exact ⟨kd, n, q, s, v, _, by rw [e, e0], by rw [e, e1], by rw [e, e2], by rw [e, e3], by rw [e, e4], by rw [e, e5], A', n0, c', ys, rfl, hn, hc', hm', hy.below hb⟩
end Go.Proofs.Ytljhdibnnaepdaa
