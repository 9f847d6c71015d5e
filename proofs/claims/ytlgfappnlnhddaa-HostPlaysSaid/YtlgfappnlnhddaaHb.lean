/-
  Contracts of copyList, same, fit.
-/
import Derived.Test.YtlgfappnlnhddaaHa
import Derived.Lib.Hide
namespace Go.Proofs.Ytlgfappnlnhddaa
open Go.RowKit
variable {w w' : World}

/-- Words of its own come back. -/
def WordsPost (n : Nat) (f : Nat → Nat) (w : World) (e : Ending) (w' : World) : Prop := ∃ v, e = .returned v ∧ Below w.heap.size w w' ∧ WordsF (Nw w w') w' v n f
theorem copy_any {K : Nat → Prop} {v : Value} {n : Nat} {f : Nat → Nat} (h : WordsF K w v n f) (hK : ∀ k, K k → k < w.heap.size) : Calls Try.prog 12 #[v] w (WordsPost n f w) := by
  obtain ⟨A, c, rfl⟩ := h.form
  have hn := h.fits
  have hmk := run_make_words n hn w
  have hnew := frow_new n (fun _ => 0) w
  have hb : Below w.heap.size w (w.alloc (.cells (rowF n (fun _ => 0)) 27)) := (Below.refl _ _).alloc (Nat.le_refl _) _
  have hs := h.keep (K' := K) (.below hb hK) fun _ h => h
  have HR := Lib.hid hnew
  have HB := Lib.hid hb
  have HS := Lib.hid hs
  have HLT := Lib.hid h.lt
  clear hnew hb hs h
  go_enter Try.func12, Try.ntmps12
  go_wp2_with (with_reducible refine wpList_copy_words rfl (.tmp 7) (.tmp 8) rfl w.heap.size n _ n _ A rfl rfl (fun _ => 0) f HR.out HS.out ?_; intro w2 hk2 hr2; have HK2 := Lib.hid hk2; have HR2 := Lib.hid hr2; clear hk2 hr2)
  go_ret
  refine ⟨_, rfl, HB.out.trans (HK2.out.to_below fun k hk => by omega), ?_⟩
  refine (HR2.out.words (K := Nw w w2) ⟨Nat.le_refl _, HR2.out.lt⟩ hn ?_).congr ?_
  · intro j hj
    simp only [over]
    split
    · exact HLT.out j hj
    · omega
  · intro j hj; simp only [over]; rw [if_pos (by have : Nat.min n n = n := Nat.min_self n; omega)]

/-! ### same -/
def SameB (b : Bool) (w : World) (e : Ending) (w' : World) : Prop := e = .returned (.bool b) ∧ ∃ m, w' = w.drewN m
theorem same_any {K K' : Nat → Prop} {v v' : Value} {n : Nat} {f f' : Nat → Nat} (h : WordsF K w v n f) (h' : WordsF K' w v' n f') (he : ∀ j, j < n → f j = f' j) : Calls Try.prog 9 #[v, v'] w (SameB true w) := by
  obtain ⟨A, c, rfl⟩ := h.form
  obtain ⟨A', c', rfl⟩ := h'.form
  have hn := h.fits
  have H := Lib.hid h
  have H' := Lib.hid (h'.congr fun j hj => (he j hj).symm)
  clear h h' he
  go_enter Try.func9, Try.ntmps9
  go_wp2
  go_loopw [5] (fun i wr => ∃ k m : Nat, k ≤ n ∧ i = .int .i64 (k : Int) ∧ wr = w.drewN m) (fun i _ => n - (intOf i).toNat)
  case atStart => exact ⟨0, 0, Nat.zero_le _, rfl, rfl⟩
  case round =>
    obtain ⟨k, m, hk, rfl, rfl⟩ := hrel
    by_cases hlt : k < n
    · obtain ⟨g, o, rfl, _, hc⟩ := H.out.at_ (by omega)
      obtain ⟨g', o', rfl, _, hc'⟩ := H'.out.at_ (by omega)
      have c1 := hc k hlt
      have c2 := hc' k hlt
      unfold wrd at c1 c2
      clear hc hc'
      go_wp2_with fail
      go_quiet (fail)
      all_goals
        go_wp2
        go_roundw
        case rel => exact ⟨k + 1, _, by omega, by go_num, rfl⟩
        case measure => simp [intOf]; omega
    · go_wp2
      go_ret
      exact ⟨rfl, m, rfl⟩

/-! ### fit -/
/-- The value at place j, as its type holds it. -/
def fitV (m : Nat) (f : Nat → Nat) (ts : List Int) (j : Nat) : Nat :=
  if ts.getD j 0 = 127 then (if j < m then f j else 0) % 4294967296 else if j < m then f j else 0
theorem u32_of (x : Nat) : IntKind.u32.wrap (x : Int) = ((x % 4294967296 : Nat) : Int) := by
  show ((x : Int) % 4294967296) = _
  omega
theorem u64_of (x : Nat) : IntKind.u64.wrap ((x % 4294967296 : Nat) : Int) = ((x % 4294967296 : Nat) : Int) := by
  show (((x % 4294967296 : Nat) : Int) % 18446744073709551616) = _
  omega
theorem fitV_lt {m : Nat} {f : Nat → Nat} (h : ∀ j, j < m → f j < 18446744073709551616) (ts : List Int) (j : Nat) : fitV m f ts j < 18446744073709551616 := by
  unfold fitV
  have := h j
  split
  · omega
  · split
    · exact this (by assumption)
    · omega
theorem fit_any {K K' : Nat → Prop} {v tv : Value} {m : Nat} {f : Nat → Nat} {ts : List Int} (h : WordsF K w v m f) (hK : ∀ k, K k → k < w.heap.size) (ht : IntsK K' w tv ts) (hts : ts.length ≤ 1000000) :
    Calls Try.prog 14 #[v, tv] w (WordsPost ts.length (fitV m f ts) w) := by
  obtain ⟨A, c, rfl⟩ := h.form
  obtain ⟨At, ct, rfl, _⟩ := ht.form
  obtain ⟨n, hn⟩ : ∃ n, ts.length = n := ⟨_, rfl⟩
  have HN := Lib.hid hn
  rw [hn] at hts ht ⊢
  have hmk := run_make_words n (by omega) w
  have hnew := frow_new n (fun _ => 0) w
  have hb : Below w.heap.size w (w.alloc (.cells (rowF n (fun _ => 0)) 27)) := (Below.refl _ _).alloc (Nat.le_refl _) _
  have hs := h.keep (K' := K) (.below hb hK) fun _ h => h
  have HR := Lib.hid hnew
  have HB := Lib.hid hb
  have HS := Lib.hid hs
  have HLT := Lib.hid h.lt
  have HTS := Lib.hid ht
  clear hnew hb hs h ht hn
  go_enter Try.func14, Try.ntmps14
  go_wp2_with (with_reducible refine wpList_copy_words rfl (.tmp 11) (.tmp 12) rfl w.heap.size n _ m _ A rfl rfl (fun _ => 0) f HR.out HS.out ?_; intro w2 hk2 hr2; have HK2 := Lib.hid hk2; have HR2 := Lib.hid hr2; clear hk2 hr2)
  obtain ⟨f2, hf2⟩ : ∃ f2, f2 = over (fun _ => 0) f (Nat.min m n) := ⟨_, rfl⟩
  have hb2 := HB.out.trans (HK2.out.to_below fun k hk => by omega)
  have HB2 := Lib.hid hb2
  have HF2 := Lib.hid hf2
  rw [← hf2] at HR2
  clear hf2 hb2
  go_loopw [16] (fun i wr => ∃ k : Nat, k ≤ n ∧ i = .int .i64 (k : Int) ∧ Hid (Below w.heap.size w wr) ∧ Hid (FRow wr w.heap.size n (fun j => if j < k then fitV m f ts j else f2 j))) (fun i _ => n - (intOf i).toNat)
  case atStart => exact ⟨0, Nat.zero_le _, rfl, HB2, by simpa using HR2⟩
  case round =>
    clear HB2 HR2 HB HR HS HK2
    obtain ⟨k, hk, rfl, HB, HR⟩ := hrel
    by_cases hlt : k < n
    · obtain ⟨g, o, c2, he, _, hc⟩ : ∃ (g o c2 : Nat), Value.slice At n ct = .slice (some ⟨g, o, none⟩) n c2 ∧ K' g ∧ ∀ j, j < n → w.cell? ⟨g, o + j, none⟩ = some (.int .i64 (ts.getD j 0)) := by
        obtain ⟨A', c', he, _, _, h3⟩ := HTS.out
        rw [HN.out] at he h3
        obtain ⟨g, o, rfl, h4, h5⟩ := h3 (by omega)
        exact ⟨g, o, c', he, h4, h5⟩
      simp only [Value.slice.injEq] at he
      obtain ⟨rfl, -, rfl⟩ := he
      have hgl := World.block_lt_of_cell? w _ (hc k hlt)
      have c1 : wr.cell? ⟨g, o + k, none⟩ = some (.int .i64 (ts.getD k 0)) := (HB.out.cell (p := ⟨g, o + k, none⟩) hgl).trans (hc k hlt)
      have c2 := HR.out.cell k hlt
      have fz := HR.out.frozen k
      simp only [Nat.lt_irrefl, if_false] at c2
      obtain ⟨x, hx⟩ : ∃ x, f2 k = x := ⟨_, rfl⟩
      rw [hx] at c2
      unfold wrd at c2
      obtain ⟨z, hz⟩ : ∃ z, ts.getD k 0 = z := ⟨_, rfl⟩
      rw [hz] at c1
      have HX := Lib.hid hx
      have HZ := Lib.hid hz
      have hfv : (if k < m then f k else 0) = x := by
        rw [← hx, HF2.out]
        simp only [over]
        by_cases hkm : k < m
        · rw [if_pos hkm, if_pos (by have : Nat.min m n = min m n := rfl; omega)]
        · rw [if_neg hkm, if_neg (by have : Nat.min m n = min m n := rfl; omega)]
      have hfit : fitV m f ts k = if z = 127 then x % 4294967296 else x := by
        unfold fitV; rw [hz, hfv]
      have HFIT := Lib.hid hfit
      have u1 := u32_of x
      have u2 := u64_of x
      clear hx hz hfv hfit hc hgl
      have hstep : ∀ y, y = fitV m f ts k → (fun j => if j < k + 1 then fitV m f ts j else f2 j) = upd (fun j => if j < k then fitV m f ts j else f2 j) k y := by
        intro y hy
        funext j
        simp only [upd]
        by_cases hj : j = k
        · subst hj; simp [hy]
        · by_cases hj2 : j < k
          · simp [hj, hj2, show j < k + 1 by omega]
          · simp [hj, hj2, show ¬ j < k + 1 by omega]
      have HSTEP := Lib.hid hstep
      clear hstep
      by_cases hz : z = 127
      · subst hz
        go_wp2
        go_roundw
        case rel =>
          refine ⟨k + 1, by omega, by go_num, Lib.hid (HB.out.trans (Keeps.to_below (Keeps.setCell _ (p := ⟨w.heap.size, k, none⟩) (K := fun j => j < w.heap.size) (by simp) _) fun _ h => h)), Lib.hid ?_⟩
          have h9 := HR.out.set k (x % 4294967296)
          rw [← HSTEP.out _ (by rw [HFIT.out]; simp)] at h9
          exact h9
        case measure => simp [intOf]; omega
      · have d1 : (z == 127) = false := by simpa using hz
        have HNZ := Lib.hid hz
        clear hz
        go_wp2
        go_roundw
        case rel =>
          refine ⟨k + 1, by omega, by go_num, HB, Lib.hid ?_⟩
          have h9 := HR.out
          have e : (fun j => if j < k + 1 then fitV m f ts j else f2 j) = (fun j => if j < k then fitV m f ts j else f2 j) := by
            rw [HSTEP.out _ rfl, HFIT.out, if_neg HNZ.out]
            funext j
            simp only [upd]
            by_cases hj : j = k
            · subst hj; simp [HX.out]
            · simp [hj]
          rw [e]; exact h9
        case measure => simp [intOf]; omega
    · go_wp2
      go_ret
      refine ⟨_, rfl, HB.out, (HR.out.words ⟨Nat.le_refl _, HR.out.lt⟩ (by omega) ?_).congr ?_⟩
      · intro j hj
        rw [if_pos (by omega)]; exact fitV_lt HLT.out ts j
      · intro j hj
        rw [if_pos (by omega)]
end Go.Proofs.Ytlgfappnlnhddaa
