/-
  Chapter 5 as plain functions on rows of bytes: characters, names, numbers behind names.
-/
namespace Go.Proofs.YtinljaobdnkifaaDoor

/-! ### Characters -/
/-- A byte behind a character's first one. -/
def contB (x : Nat) : Bool := decide (128 ≤ x) && decide (x < 192)
/-- How many more bytes the first one asks for; 0: a character of more than one byte does not begin so. -/
def moreB (x : Nat) : Nat := if 192 ≤ x ∧ x < 224 then 1 else if 224 ≤ x ∧ x < 240 then 2 else if 240 ≤ x ∧ x < 248 then 3 else 0
def maskB (k : Nat) : Nat := if k = 1 then 32 else if k = 2 then 16 else 8
def leastB (k : Nat) : Nat := if k = 1 then 128 else if k = 2 then 2048 else 65536
def taccB (v : Nat) : List Nat → Nat
  | [] => v
  | y :: l => taccB (v * 64 + y % 64) l
def badV (k v : Nat) : Bool := decide (v < leastB k ∨ (55296 ≤ v ∧ v < 57344) ∨ 1114112 ≤ v)
/-- What the first byte and those behind it make. -/
def tvalB (x k : Nat) (t : List Nat) : Nat := taccB (x % maskB k) (t.take k)
/-- How many bytes the character at the start has, 0: none is there. -/
def charB : List Nat → Nat
  | [] => 0
  | x :: t => if x < 128 then 1 else if moreB x = 0 ∨ t.length < moreB x ∨ (t.take (moreB x)).all contB = false ∨ badV (moreB x) (tvalB x (moreB x) t) = true then 0 else moreB x + 1
def charsB (l : List Nat) : Option Nat :=
  if l = [] then some 0 else if h : charB l = 0 then none else (charsB (l.drop (charB l))).map (· + 1)
termination_by l.length
decreasing_by
  rename_i h0
  have : 0 < l.length := List.length_pos_iff.2 h0
  rw [List.length_drop]; omega
/-- The count, m before it; -1: none. -/
def joinI (m : Nat) : Option Nat → Int
  | none => -1
  | some t => ((m + t : Nat) : Int)
/-- What Count gives. -/
def cntI (l : List Nat) : Int := joinI 0 (charsB l)

theorem charB_cons (x : Nat) (t : List Nat) : charB (x :: t) = if x < 128 then 1 else if moreB x = 0 ∨ t.length < moreB x ∨ (t.take (moreB x)).all contB = false ∨ badV (moreB x) (tvalB x (moreB x) t) = true then 0 else moreB x + 1 := rfl
theorem charB_more {x : Nat} {t : List Nat} (hx : ¬ x < 128) (hc : charB (x :: t) ≠ 0) :
    charB (x :: t) = moreB x + 1 ∧ moreB x ≠ 0 ∧ moreB x ≤ t.length ∧ (t.take (moreB x)).all contB = true ∧ badV (moreB x) (tvalB x (moreB x) t) = false := by
  rw [charB_cons, if_neg hx] at hc ⊢
  split at hc
  · exact absurd rfl hc
  · rename_i h
    rw [if_neg h]
    refine ⟨rfl, fun h0 => h (.inl h0), ?_, ?_, ?_⟩
    · rcases Nat.lt_or_ge t.length (moreB x) with h1 | h1
      · exact absurd (.inr (.inl h1)) h
      · exact h1
    · cases h1 : (t.take (moreB x)).all contB with
      | true => rfl
      | false => exact absurd (.inr (.inr (.inl h1))) h
    · cases h1 : badV (moreB x) (tvalB x (moreB x) t) with
      | false => rfl
      | true => exact absurd (.inr (.inr (.inr h1))) h
theorem charB_good {x : Nat} {t : List Nat} (hx : ¬ x < 128) (h1 : moreB x ≠ 0) (h2 : moreB x ≤ t.length) (h3 : (t.take (moreB x)).all contB = true) (h4 : badV (moreB x) (tvalB x (moreB x) t) = false) :
    charB (x :: t) = moreB x + 1 := by
  rw [charB_cons, if_neg hx, if_neg]
  rintro (h | h | h | h)
  · exact h1 h
  · omega
  · rw [h3] at h; cases h
  · rw [h4] at h; cases h
theorem charB_one {x : Nat} {t : List Nat} (hx : x < 128) : charB (x :: t) = 1 := by rw [charB_cons, if_pos hx]
theorem charB_none {x : Nat} {t : List Nat} (hx : ¬ x < 128) (h : moreB x = 0 ∨ t.length < moreB x ∨ (t.take (moreB x)).all contB = false ∨ badV (moreB x) (tvalB x (moreB x) t) = true) : charB (x :: t) = 0 := by
  rw [charB_cons, if_neg hx, if_pos h]
theorem moreB_le (x : Nat) : moreB x ≤ 3 := by unfold moreB; split; · omega
                                               · split; · omega
                                                 · split <;> omega
theorem charB_le (l : List Nat) : charB l ≤ l.length ∧ charB l ≤ 4 := by
  cases l with
  | nil => exact ⟨Nat.le_refl _, Nat.zero_le _⟩
  | cons x t =>
    by_cases hx : x < 128
    · rw [charB_one hx]; simp
    · by_cases h : charB (x :: t) = 0
      · rw [h]; simp
      · obtain ⟨h1, h2, h3, _⟩ := charB_more hx h
        have := moreB_le x
        rw [h1]; simp; omega

/-- l's first byte and the others. -/
theorem cons_of {l : List Nat} (h : 0 < l.length) : l = l.getD 0 0 :: l.drop 1 := by
  cases l with
  | nil => simp at h
  | cons x t => simp

theorem accB_snoc (l : List Nat) : ∀ (v y : Nat), taccB v (l ++ [y]) = taccB v l * 64 + y % 64 := by
  induction l with
  | nil => intro v y; rfl
  | cons a l ih => intro v y; exact ih _ y
theorem accB_take (t : List Nat) (j : Nat) (h : j < t.length) (v : Nat) : taccB v (t.take (j + 1)) = taccB v (t.take j) * 64 + t.getD j 0 % 64 := by
  have e : t.take (j + 1) = t.take j ++ [t.getD j 0] := by
    rw [List.take_succ_eq_append_getElem h]; simp [List.getD, h]
  rw [e, accB_snoc]
theorem accB_lt (l : List Nat) : ∀ v, taccB v l < (v + 1) * 64 ^ l.length := by
  induction l with
  | nil => intro v; simp [taccB]
  | cons y l ih =>
    intro v
    have := ih (v * 64 + y % 64)
    have h2 : v * 64 + y % 64 + 1 ≤ (v + 1) * 64 := by omega
    have h3 : (v * 64 + y % 64 + 1) * 64 ^ l.length ≤ (v + 1) * 64 * 64 ^ l.length := Nat.mul_le_mul_right _ h2
    simp only [taccB, List.length_cons]
    rw [Nat.pow_succ, Nat.mul_comm (64 ^ l.length) 64, ← Nat.mul_assoc]
    omega
theorem accB_small (x k j : Nat) (t : List Nat) (hj : j ≤ 3) : taccB (x % maskB k) (t.take j) < 8388608 := by
  have h := accB_lt (t.take j) (x % maskB k)
  have hm : x % maskB k + 1 ≤ 32 := by
    unfold maskB
    split
    · omega
    · split <;> omega
  have hl : (t.take j).length ≤ 3 := by rw [List.length_take]; omega
  have h2 : (64 : Nat) ^ (t.take j).length ≤ 64 ^ 3 := Nat.pow_le_pow_right (by decide) hl
  have h3 : (x % maskB k + 1) * 64 ^ (t.take j).length ≤ 32 * 64 ^ 3 := Nat.mul_le_mul hm h2
  omega
theorem all_take_succ {t : List Nat} {j : Nat} (h : j < t.length) (ha : (t.take j).all contB = true) (hc : contB (t.getD j 0) = true) : (t.take (j + 1)).all contB = true := by
  have e : t.take (j + 1) = t.take j ++ [t.getD j 0] := by
    rw [List.take_succ_eq_append_getElem h]; simp [List.getD, h]
  rw [e, List.all_append, ha]; simp only [List.all_cons, List.all_nil, hc, Bool.and_self]
theorem all_take_no {t : List Nat} {j k : Nat} (h : j < t.length) (hk : j < k) (hc : contB (t.getD j 0) = false) : (t.take k).all contB = false := by
  rw [Bool.eq_false_iff]
  intro ha
  have h1 := List.all_eq_true.1 ha (t.getD j 0) (List.mem_iff_getElem?.2 ⟨j, by rw [List.getElem?_take, if_pos hk]; simp [List.getD, h]⟩)
  rw [hc] at h1; cases h1

theorem charB_out {x : Nat} {t : List Nat} (h1 : 128 ≤ x) (h2 : x < 194 ∨ 245 ≤ x) (hx : x < 256) : charB (x :: t) = 0 := by
  rcases Nat.eq_zero_or_pos (charB (x :: t)) with h | h
  · exact h
  · obtain ⟨_, hm, hl, _, hb⟩ := charB_more (by omega) (Nat.ne_of_gt h)
    exfalso
    have hc : ((x = 192 ∨ x = 193) ∧ moreB x = 1) ∨ (245 ≤ x ∧ x < 248 ∧ moreB x = 3) := by
      unfold moreB at hm ⊢
      by_cases a : 192 ≤ x ∧ x < 224
      · rw [if_pos a]; left; omega
      · rw [if_neg a] at hm ⊢
        by_cases b : 224 ≤ x ∧ x < 240
        · omega
        · rw [if_neg b] at hm ⊢
          by_cases c : 240 ≤ x ∧ x < 248
          · rw [if_pos c]; right; omega
          · rw [if_neg c] at hm; exact absurd rfl hm
    rcases hc with ⟨hx1, h3⟩ | ⟨h4, h5, h3⟩
    · rw [h3] at hl hb
      match t, hl with
      | y :: _, _ =>
        unfold badV tvalB at hb
        simp only [List.take_succ_cons, List.take_zero, taccB, maskB, leastB, decide_eq_false_iff_not] at hb
        apply hb; left; simp; omega
    · rw [h3] at hl hb
      match t, hl with
      | y1 :: y2 :: y3 :: _, _ =>
        unfold badV tvalB at hb
        simp only [List.take_succ_cons, List.take_zero, taccB, maskB, leastB, decide_eq_false_iff_not] at hb
        apply hb; right; right; simp; omega

/-! ### How they are counted -/
theorem joinI_end (m : Nat) : joinI m (charsB []) = m := by rw [charsB]; simp [joinI]
theorem joinI_bad {l : List Nat} (h : 0 < l.length) (hc : charB l = 0) (m : Nat) : joinI m (charsB l) = -1 := by
  rw [charsB, if_neg (by rintro rfl; simp at h), dif_pos hc]; rfl
theorem joinI_step {l : List Nat} (h : 0 < l.length) (hc : charB l ≠ 0) (m : Nat) : joinI m (charsB l) = joinI (m + 1) (charsB (l.drop (charB l))) := by
  rw [charsB, if_neg (by rintro rfl; simp at h), dif_neg hc]
  cases charsB (l.drop (charB l)) with
  | none => rfl
  | some t => simp only [Option.map_some, joinI]; omega
theorem cntI_ways (l : List Nat) : (charsB l = none ∧ cntI l = -1) ∨ ∃ n : Nat, charsB l = some n ∧ cntI l = n ∧ n ≤ l.length := by
  cases h : charsB l with
  | none => exact .inl ⟨rfl, by unfold cntI; rw [h]; rfl⟩
  | some n =>
    refine .inr ⟨n, rfl, by unfold cntI; rw [h]; simp [joinI], ?_⟩
    suffices H : ∀ (k : Nat) (l : List Nat) (n : Nat), l.length ≤ k → charsB l = some n → n ≤ l.length from H _ l n (Nat.le_refl _) h
    intro k
    induction k with
    | zero =>
      intro l n hl h
      obtain rfl : l = [] := List.eq_nil_of_length_eq_zero (by omega)
      rw [charsB] at h; simp at h; omega
    | succ k ih =>
      intro l n hl h
      rw [charsB] at h
      split at h
      · simp at h; omega
      · split at h
        · cases h
        · rename_i h0 h1
          cases h2 : charsB (l.drop (charB l)) with
          | none => rw [h2] at h; cases h
          | some t =>
            rw [h2] at h
            have h3 := (charB_le l).1
            have := ih (l.drop (charB l)) t (by rw [List.length_drop]; omega) h2
            rw [List.length_drop] at this
            simp at h; omega

/-! ### Two names behind each other; a byte more -/
theorem charB_append {x : List Nat} (y : List Nat) (h : charB x ≠ 0) : charB (x ++ y) = charB x := by
  cases x with
  | nil => exact absurd rfl h
  | cons a t =>
    by_cases ha : a < 128
    · rw [charB_one ha, List.cons_append, charB_one ha]
    · obtain ⟨h1, h2, h3, h4, h5⟩ := charB_more ha h
      have e : (t ++ y).take (moreB a) = t.take (moreB a) := by rw [List.take_append_of_le_length h3]
      rw [h1, List.cons_append]
      refine charB_good ha h2 (by rw [List.length_append]; omega) (by rw [e]; exact h4) ?_
      unfold tvalB at h5 ⊢
      rw [e]; exact h5
theorem map_zero_add (o : Option Nat) : o.map (fun m => 0 + m) = o := by cases o <;> simp
theorem charsB_append (y : List Nat) : ∀ (k : Nat) (x : List Nat) (n : Nat), x.length ≤ k → charsB x = some n → charsB (x ++ y) = (charsB y).map (fun m => n + m) := by
  intro k
  induction k with
  | zero =>
    intro x n hl h
    obtain rfl : x = [] := List.eq_nil_of_length_eq_zero (by omega)
    rw [charsB] at h; simp at h; subst h
    exact (map_zero_add _).symm
  | succ k ih =>
    intro x n hl h
    by_cases hx : x = []
    · subst hx
      rw [charsB] at h; simp at h; subst h
      exact (map_zero_add _).symm
    · have hp : 0 < x.length := List.length_pos_iff.2 hx
      rw [charsB, if_neg hx] at h
      split at h
      · cases h
      · rename_i h1
        cases h2 : charsB (x.drop (charB x)) with
        | none => rw [h2] at h; cases h
        | some t =>
          rw [h2] at h
          have h3 := (charB_le x).1
          have h4 := ih (x.drop (charB x)) t (by rw [List.length_drop]; omega) h2
          have e := charB_append y h1
          rw [charsB, if_neg (by simp [hx]), dif_neg (by rw [e]; exact h1), e, List.drop_append_of_le_length h3, h4]
          simp at h
          subst h
          cases charsB y <;> simp
          omega
theorem cntI_append {x y : List Nat} {n m : Nat} (hx : charsB x = some n) (hy : charsB y = some m) : cntI (x ++ y) = (n : Int) + (m : Int) := by
  unfold cntI
  rw [charsB_append y _ x n (Nat.le_refl _) hx, hy]
  simp [joinI]

/-- What a byte weighs: each that begins asks for some, each behind it is one. -/
def weiB (x : Nat) : Int := if x < 128 then 0 else if x < 192 then -1 else if moreB x = 0 then 1 else moreB x
def sumB (l : List Nat) : Int := (l.map weiB).sum
theorem sumB_append (x y : List Nat) : sumB (x ++ y) = sumB x + sumB y := by simp [sumB]
theorem sumB_cons (a : Nat) (y : List Nat) : sumB (a :: y) = weiB a + sumB y := by simp [sumB]
theorem weiB_high {x : Nat} (h : 128 ≤ x) : weiB x ≠ 0 := by
  unfold weiB
  rw [if_neg (by omega)]
  split
  · omega
  · split <;> omega
theorem sumB_cont (t : List Nat) (h : t.all contB = true) : sumB t = -(t.length : Int) := by
  induction t with
  | nil => rfl
  | cons a t ih =>
    simp only [List.all_cons, Bool.and_eq_true] at h
    have ha := h.1
    unfold contB at ha
    simp only [Bool.and_eq_true, decide_eq_true_eq] at ha
    rw [sumB_cons, ih h.2]
    unfold weiB
    rw [if_neg (by omega), if_pos ha.2, List.length_cons]
    omega
theorem sumB_char {l : List Nat} (h : charB l ≠ 0) : sumB (l.take (charB l)) = 0 := by
  cases l with
  | nil => exact absurd rfl h
  | cons a t =>
    by_cases ha : a < 128
    · rw [charB_one ha]
      simp [sumB, weiB, ha]
    · obtain ⟨h1, h2, h3, h4, _⟩ := charB_more ha h
      rw [h1, List.take_succ_cons, sumB_cons, sumB_cont _ h4, List.length_take, Nat.min_eq_left h3]
      have h5 : 192 ≤ a := by
        unfold moreB at h2
        rcases Nat.lt_or_ge a 192 with h6 | h6
        · rw [if_neg (by omega), if_neg (by omega), if_neg (by omega)] at h2; exact absurd rfl h2
        · exact h6
      unfold weiB
      rw [if_neg ha, if_neg (by omega), if_neg h2]
      omega
theorem sumB_good : ∀ (k : Nat) (l : List Nat) (n : Nat), l.length ≤ k → charsB l = some n → sumB l = 0 := by
  intro k
  induction k with
  | zero =>
    intro l n hl h
    obtain rfl : l = [] := List.eq_nil_of_length_eq_zero (by omega)
    rfl
  | succ k ih =>
    intro l n hl h
    by_cases hx : l = []
    · subst hx; rfl
    · rw [charsB, if_neg hx] at h
      split at h
      · cases h
      · rename_i h1
        cases h2 : charsB (l.drop (charB l)) with
        | none => rw [h2] at h; cases h
        | some t =>
          have h4 := ih (l.drop (charB l)) t (by rw [List.length_drop]; omega) h2
          have h5 := sumB_char h1
          have e : sumB l = sumB (l.take (charB l) ++ l.drop (charB l)) := by rw [List.take_append_drop]
          rw [e, sumB_append, h4, h5]; rfl
theorem charsB_more {x : List Nat} {n : Nat} (hx : charsB x = some n) (k c : Nat) (hc : 128 ≤ c) : charsB (x.take k ++ c :: x.drop k) = none := by
  cases h : charsB (x.take k ++ c :: x.drop k) with
  | none => rfl
  | some m =>
    exfalso
    have h1 := sumB_good _ _ _ (Nat.le_refl _) h
    have h2 := sumB_good _ _ _ (Nat.le_refl _) hx
    have e : sumB x = sumB (x.take k ++ x.drop k) := by rw [List.take_append_drop]
    rw [e, sumB_append] at h2
    rw [sumB_append, sumB_cons] at h1
    have h3 := weiB_high hc
    omega
theorem cntI_none {l : List Nat} (h : charsB l = none) : cntI l = -1 := by unfold cntI; rw [h]; rfl

/-! ### Numbers behind names -/
def decB (n : Nat) : List Nat := if n < 10 then [48 + n] else [48 + n / 10, 48 + n % 10]
/-- The number that is written so, 1 to most; 0: none. -/
def tnumB (l : List Nat) (most : Nat) : Nat :=
  match l with
  | [a] => if 49 ≤ a ∧ a ≤ 57 ∧ a - 48 ≤ most then a - 48 else 0
  | [a, b] => if 49 ≤ a ∧ a ≤ 57 ∧ 48 ≤ b ∧ b ≤ 57 ∧ 10 * (a - 48) + (b - 48) ≤ most then 10 * (a - 48) + (b - 48) else 0
  | _ => 0
theorem decB_inj {n m : Nat} (h : decB n = decB m) : n = m := by
  unfold decB at h
  split at h <;> split at h <;> simp at h <;> omega
theorem numB_dec (l : List Nat) (most n : Nat) (h1 : 1 ≤ n) (h2 : n ≤ most) (h3 : most < 100) : tnumB l most = n ↔ l = decB n := by
  constructor
  · intro h
    unfold tnumB at h
    split at h
    · split at h
      · unfold decB; rw [if_pos (by omega)]; congr 1; omega
      · omega
    · split at h
      · unfold decB; rw [if_neg (by omega)]
        congr 1
        · omega
        · congr 1; omega
      · omega
    · omega
  · rintro rfl
    unfold decB
    split
    · unfold tnumB; dsimp only; rw [if_pos (by omega)]; omega
    · unfold tnumB; dsimp only; rw [if_pos (by omega)]; omega
theorem numB_le (l : List Nat) (most : Nat) : tnumB l most ≤ most := by
  unfold tnumB
  split
  · split <;> omega
  · split <;> omega
  · omega

/-- The digits up to j are v's. -/
def NumAt (l : List Nat) (most j v : Nat) : Prop := (j = 0 ∧ v = 0) ∨ (1 ≤ j ∧ 1 ≤ v ∧ v ≤ most ∧ l.take j = decB v)
theorem num_not {l : List Nat} {most j : Nat} (hj : j < l.length) (hd : l.getD j 0 < 48 ∨ 57 < l.getD j 0) : tnumB l most = 0 := by
  match l, hj with
  | [a], hj =>
    obtain rfl : j = 0 := by simp at hj; exact hj
    simp only [List.getD_cons_zero] at hd
    unfold tnumB; dsimp only; rw [if_neg (by omega)]
  | [a, b], hj =>
    have h01 : j = 0 ∨ j = 1 := by simp at hj; omega
    unfold tnumB; dsimp only
    rcases h01 with rfl | rfl
    · simp only [List.getD_cons_zero] at hd
      rw [if_neg (by omega)]
    · simp only [List.getD_cons_succ, List.getD_cons_zero] at hd
      rw [if_neg (by omega)]
  | a :: b :: c :: t, _ => rfl
theorem num_step {l : List Nat} {most j v y : Nat} (hm : most < 100) (hj : j < l.length) (hy : l.getD j 0 = y) (hd : 48 ≤ y ∧ y ≤ 57) (h0 : l.getD 0 0 ≠ 48) (hrel : NumAt l most j v) :
    (10 * v + (y - 48) ≤ most → NumAt l most (j + 1) (10 * v + (y - 48))) ∧ (most < 10 * v + (y - 48) → tnumB l most = 0) := by
  rcases hrel with ⟨rfl, rfl⟩ | ⟨h1, h2, h3, h4⟩
  · rw [hy] at h0
    match l, hj with
    | a :: t, _ =>
      simp only [List.getD_cons_zero] at hy
      subst hy
      refine ⟨fun hle => .inr ⟨by omega, by omega, hle, ?_⟩, fun hgt => ?_⟩
      · unfold decB
        rw [if_pos (by omega)]
        simp; omega
      · match t with
        | [] => unfold tnumB; dsimp only; rw [if_neg (by omega)]
        | [b] => unfold tnumB; dsimp only; rw [if_neg (by omega)]
        | b :: c :: t => rfl
  · unfold decB at h4
    split at h4
    · have hj1 : j = 1 := by
        have := congrArg List.length h4
        rw [List.length_take] at this
        simp at this; omega
      subst hj1
      match l, hj with
      | a :: b :: t, _ =>
        simp only [List.getD_cons_succ, List.getD_cons_zero] at hy
        simp at h4
        subst hy h4
        refine ⟨fun hle => .inr ⟨by omega, by omega, hle, ?_⟩, fun hgt => ?_⟩
        · unfold decB
          rw [if_neg (by omega)]
          simp; omega
        · match t with
          | [] => unfold tnumB; dsimp only; rw [if_neg (by omega)]
          | c :: t => rfl
    · have hj2 : j = 2 := by
        have := congrArg List.length h4
        rw [List.length_take] at this
        simp at this; omega
      subst hj2
      match l, hj with
      | a :: b :: c :: t, _ => exact ⟨fun hle => by omega, fun _ => rfl⟩
theorem num_end {l : List Nat} {most v : Nat} (hm : most < 100) (hl : 1 ≤ l.length) (hrel : NumAt l most l.length v) : tnumB l most = v := by
  rcases hrel with ⟨h, _⟩ | ⟨_, h2, h3, h4⟩
  · omega
  · rw [List.take_of_length_le (Nat.le_refl _)] at h4
    exact (numB_dec l most v h2 h3 hm).2 h4
theorem num_zero {l : List Nat} {most : Nat} (h : l = [] ∨ l.getD 0 0 = 48) : tnumB l most = 0 := by
  rcases h with rfl | h
  · rfl
  · match l with
    | [] => rfl
    | [a] => simp at h; unfold tnumB; dsimp only; rw [if_neg (by omega)]
    | [a, b] => simp at h; unfold tnumB; dsimp only; rw [if_neg (by omega)]
    | a :: b :: c :: t => rfl

/-- What a name becomes with i behind it. -/
def tnameB (W : List Nat) (i : Nat) : List Nat := if i = 0 then W else W ++ decB i
theorem nameB_inj {W : List Nat} {i j : Nat} (h : tnameB W i = tnameB W j) : i = j := by
  have hp : ∀ n, 0 < (decB n).length := fun n => by unfold decB; split <;> simp
  unfold tnameB at h
  split at h
  · split at h
    · omega
    · have h1 := congrArg List.length h
      have h2 := hp j
      rw [List.length_append] at h1; omega
  · split at h
    · have h1 := congrArg List.length h
      have h2 := hp i
      rw [List.length_append] at h1; omega
    · exact decB_inj (List.append_cancel_left h)
/-- So many names that are not the same: a list that has all of them is as long. -/
theorem names_fit (W : List Nat) : ∀ (i : Nat) (T : List (List Nat)), i ≤ 100 → (∀ j, j < i → tnameB W j ∈ T) → i ≤ T.length := by
  intro i
  induction i with
  | zero => intro T _ _; omega
  | succ i ih =>
    intro T hi h
    have h0 := h i (by omega)
    have h1 := ih (T.erase (tnameB W i)) (by omega) (fun j hj => by
      rw [List.mem_erase_of_ne]
      · exact h j (by omega)
      · intro e
        have := nameB_inj e
        omega)
    rw [List.length_erase_of_mem h0] at h1
    have := List.length_pos_of_mem h0
    omega
end Go.Proofs.YtinljaobdnkifaaDoor
