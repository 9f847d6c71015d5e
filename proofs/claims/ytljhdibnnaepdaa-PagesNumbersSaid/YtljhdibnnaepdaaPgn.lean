/-
  The closed sentence of chapter 12: its walk.
-/
import Derived.Test.YtljhdibnnaepdaaPgv
namespace Go.Proofs.Ytljhdibnnaepdaa
open Go.RowKit

def abcdT : List Nat := [97, 98, 99, 100]
/-- Bytes that the sentence made: none, or four in a block that is marked. -/
def ByIn (w : World) (b : Value) : Prop := b = .slice none 0 0 ∨ ∃ g : Nat, b = .slice (some ⟨g, 0, none⟩) 4 4 ∧ w.heap[g]? = some (.cells (abcdT.map byt).toArray 5 (4, 5))
theorem ByIn.bytes {w : World} {b : Value} (h : ByIn w b) : BytesIn w b := by
  rcases h with rfl | ⟨g, rfl, hg⟩
  · exact ⟨none, 0, 0, [], rfl, rfl, Nat.le_refl _, by decide, Bytes.nil w none⟩
  · refine ⟨some ⟨g, 0, none⟩, 4, 4, abcdT, rfl, rfl, Nat.le_refl _, by decide, by decide, fun _ => ⟨g, 0, rfl, (Array.getElem?_eq_some_iff.1 hg).1, fun j hj => ?_⟩⟩
    simp [World.cell?, hg, hj, byt]
theorem ByIn.below {w w' : World} {b : Value} (h : ByIn w b) (hb : Below w.heap.size w w') : ByIn w' b := by
  rcases h with rfl | ⟨g, rfl, hg⟩
  · exact .inl rfl
  · exact .inr ⟨g, rfl, (hb.block g (Array.getElem?_eq_some_iff.1 hg).1).trans hg⟩
/-- An append onto a row that is not marked leaves them. -/
theorem ByIn.grown {w w' : World} {b v : Value} {e : TypeId} {n : Nat} {xs : List Value} (h : ByIn w b) (ho : w.ownsRow 0 e 6 v n xs) (hg : w.grownBy w' v.ownBlock) : ByIn w' b := by
  rcases h with rfl | ⟨g, rfl, hgg⟩
  · exact .inl rfl
  · refine .inr ⟨g, rfl, (hg.block g (Array.getElem?_eq_some_iff.1 hgg).1 fun hk => ?_).trans hgg⟩
    rcases ho.2 with ⟨rfl, _⟩ | ⟨g', cap, cur, rfl, _, hcur, _⟩
    · simp [Value.ownBlock] at hk
    · simp [Value.ownBlock] at hk
      subst hk
      rw [hgg] at hcur
      simp at hcur
/-- The cells of n calls. -/
def AsksL (w : World) (xs : List Value) (n : Nat) : Prop := ∀ j, j < n → ∃ (kd m : Int) (q s v : Nat) (b : Value),
  xs[j * 6]? = some (.int .i64 kd) ∧ xs[j * 6 + 1]? = some (.int .i64 m) ∧ xs[j * 6 + 2]? = some (.int .u64 (q : Int)) ∧ xs[j * 6 + 3]? = some (.int .u64 (s : Int)) ∧ xs[j * 6 + 4]? = some (.int .u64 (v : Int)) ∧ xs[j * 6 + 5]? = some b ∧ ByIn w b
/-- A row of calls that the sentence makes. -/
def AskRow (w0 w : World) (v : Value) (n : Nat) : Prop := ∃ xs, w.ownsRow 0 29 6 v n xs ∧ (∀ k, v.ownBlock = some k → w0.heap.size ≤ k) ∧ AsksL w xs n
theorem AsksL.below {w w' : World} {xs : List Value} {n : Nat} (h : AsksL w xs n) (hb : Below w.heap.size w w') : AsksL w' xs n := fun j hj => by
  obtain ⟨kd, m, q, s, v, b, e0, e1, e2, e3, e4, e5, hbi⟩ := h j hj
  exact ⟨kd, m, q, s, v, b, e0, e1, e2, e3, e4, e5, hbi.below hb⟩
theorem AskRow.below {w0 w w' : World} {v : Value} {n : Nat} (h : AskRow w0 w v n) (hb : Below w.heap.size w w') : AskRow w0 w' v n := by
  obtain ⟨xs, h1, h2, h3⟩ := h
  exact ⟨xs, owns_below h1 hb, h2, h3.below hb⟩
theorem AskRow.nil (w0 w : World) : AskRow w0 w (.slice none 0 0) 0 := ⟨[], World.ownsRow_nil w 0 _ _, fun k h => by simp [Value.ownBlock] at h, fun j h => absurd h (Nat.not_lt_zero _)⟩
/-- A part of the row comes in as calls. -/
theorem AskRow.part {w0 w : World} {A : Option Addr} {n c : Nat} (h : AskRow w0 w (.slice A n c) n) (k m : Nat) (hm : k + m ≤ n) (hn : n ≤ 10000) (A' : Option Addr) (c' : Nat) (hA : ∀ g, A = some ⟨g, 0, none⟩ → A' = some ⟨g, k * 6, none⟩) : AsksIn w (.slice A' m c') m := by
  obtain ⟨xs, h1, _, h3⟩ := h
  refine ⟨A', c', rfl, by omega, fun h0 => ?_⟩
  obtain ⟨g, cap, hv, _, hlt⟩ := h1.form (by omega)
  simp only [Value.slice.injEq] at hv
  obtain ⟨rfl, _, rfl⟩ := hv
  refine ⟨g, k * 6, hA g rfl, hlt, fun j hj => ?_⟩
  obtain ⟨kd, a, q, s, v, b, e0, e1, e2, e3, e4, e5, hb⟩ := h3 (k + j) (by omega)
  have hc : ∀ i u, xs[i]? = some u → w.cell? ⟨g, i, none⟩ = some u := fun i u hu => by
    have := h1.cells (g := g) rfl i u hu
    rwa [add_lit0] at this
  have e : ∀ i, k * 6 + j * 6 + i = (k + j) * 6 + i := fun i => by omega
  have e' : k * 6 + j * 6 = (k + j) * 6 := by omega
  exact ⟨kd, a, q, s, v, b, by rw [e']; exact hc _ _ e0, by rw [e]; exact hc _ _ e1, by rw [e]; exact hc _ _ e2, by rw [e]; exact hc _ _ e3, by rw [e]; exact hc _ _ e4, by rw [e]; exact hc _ _ e5, hb.bytes⟩
/-- Two calls more. -/
theorem AskRow.more {w0 w1 w2 : World} {v v' : Value} {n : Nat} {xs news : List Value} (ho : w1.ownsRow 0 29 6 v n xs) (hv : ∀ k, v.ownBlock = some k → w0.heap.size ≤ k) (hw : w0.heap.size ≤ w1.heap.size) (h3 : AsksL w1 xs n) (hn : AsksL w1 news 2) (h1 : w2.ownsRow 0 29 6 v' (n + 2) (xs ++ news)) (hg : w1.grownBy w2 v.ownBlock)
    (hat : v'.ownBlock = v.ownBlock ∨ v'.ownBlock = some w1.heap.size) : AskRow w0 w2 v' (n + 2) := by
  have hb : ∀ b, ByIn w1 b → ByIn w2 b := fun b h => h.grown ho hg
  have hx : xs.length = n * 6 := ho.1
  refine ⟨_, h1, fun k hk => ?_, fun j hj => ?_⟩
  · rcases hat with hat | hat
    · exact hv k (hat ▸ hk)
    · rw [hat] at hk
      cases hk
      exact hw
  · by_cases hlt : j < n
    · obtain ⟨kd, m, q, s, v, b, e0, e1, e2, e3, e4, e5, hbi⟩ := h3 j hlt
      have e : ∀ i u, xs[i]? = some u → (xs ++ news)[i]? = some u := fun i u hu => by
        rw [List.getElem?_append_left (List.getElem?_eq_some_iff.1 hu).1]; exact hu
      exact ⟨kd, m, q, s, v, b, e _ _ e0, e _ _ e1, e _ _ e2, e _ _ e3, e _ _ e4, e _ _ e5, hb _ hbi⟩
    · obtain ⟨kd, m, q, s, v, b, e0, e1, e2, e3, e4, e5, hbi⟩ := hn (j - n) (by omega)
      have e : ∀ i u, news[(j - n) * 6 + i]? = some u → (xs ++ news)[j * 6 + i]? = some u := fun i u hu => by
        rw [List.getElem?_append_right (by omega), hx, show j * 6 + i - n * 6 = (j - n) * 6 + i by omega]; exact hu
      exact ⟨kd, m, q, s, v, b, e 0 _ e0, e _ _ e1, e _ _ e2, e _ _ e3, e _ _ e4, e _ _ e5, hb _ hbi⟩
theorem Try.infoAsk : (Try.prog.info? 29).map (fun i => (i.zero, i.size, i.bytes)) = some (some (.agg #[.int .i64 0, .int .i64 0, .int .u64 0, .int .u64 0, .int .u64 0, .slice none 0 0]), 6, 64) := by kernel_rfl

def atsL : List Nat := [0, 1020, 1023, 1024, 1025, 4294967295, 9223372036854775807, 18446744073709551615, 18446744073709551612]
def nsL : List Nat := [0, 1, 4, 18446744073709551615]
def u64c (x : Nat) : Value := .int .u64 (x : Int)
theorem row_cell (w : World) (l : List Nat) (T : TypeId) (j : Nat) (hj : j < l.length) : (w.alloc (.cells (l.map u64c).toArray T)).cell? ⟨w.heap.size, j, none⟩ = some (.int .u64 ((l.getD j 0 : Nat) : Int)) := by
  rw [World.cell?_alloc_new]
  simp [hj, u64c]
/-- A literal row of words, as it was laid. -/
def Lit (w : World) (G : Nat) (l : List Nat) : Prop := w.heap[G]? = some (.cells (l.map u64c).toArray 25 (0, 0))
theorem Lit.made (w : World) (l : List Nat) : Lit (w.alloc (.cells (l.map u64c).toArray 25)) w.heap.size l := heap_alloc_new w _
theorem Lit.below {w w' : World} {G : Nat} {l : List Nat} (h : Lit w G l) (hb : Below w.heap.size w w') : Lit w' G l := (hb.block G (Array.getElem?_eq_some_iff.1 h).1).trans h
theorem Lit.cell {w : World} {G : Nat} {l : List Nat} (h : Lit w G l) (j : Nat) (hj : j < l.length) : w.cell? ⟨G, j, none⟩ = some (.int .u64 ((l.getD j 0 : Nat) : Int)) := by
  rw [cell_of_row w G j _ _ _ h]
  simp [hj, u64c]
theorem Lit.grown {w w' : World} {G : Nat} {l : List Nat} {v : Value} {n : Nat} {xs : List Value} (h : Lit w G l) (ho : w.ownsRow 0 29 6 v n xs) (hg : w.grownBy w' v.ownBlock) : Lit w' G l := by
  refine (hg.block G (Array.getElem?_eq_some_iff.1 h).1 fun hk => ?_).trans h
  rcases ho.2 with ⟨rfl, _⟩ | ⟨g', cap, cur, rfl, _, hcur, _⟩
  · simp [Value.ownBlock] at hk
  · simp [Value.ownBlock] at hk
    subst hk
    have h2 : w.heap[G]? = some (.cells (l.map u64c).toArray 25 (0, 0)) := h
    rw [h2] at hcur
    simp at hcur
theorem ints5 (w : World) (j : Nat) (hj : j < 5) : ∃ z : Int, (w.alloc (.cells #[.int .i64 (-1), .int .i64 0, .int .i64 2, .int .i64 512, .int .i64 513] 3)).cell? ⟨w.heap.size, j, none⟩ = some (.int .i64 z) := by
  rw [World.cell?_alloc_new]
  match j, hj with
  | 0, _ => exact ⟨_, rfl⟩
  | 1, _ => exact ⟨_, rfl⟩
  | 2, _ => exact ⟨_, rfl⟩
  | 3, _ => exact ⟨_, rfl⟩
  | 4, _ => exact ⟨_, rfl⟩
  | _ + 5, h => exact absurd h (by omega)

theorem conv_abcd (w : World) : (convert 27 27 (.slice (some ⟨w.heap.size, 0, none⟩) 4 4)).run Try.prog (w.alloc (.cells #[.int .u8 97, .int .u8 98, .int .u8 99, .int .u8 100] 5)) = .ok (.slice (some ⟨w.heap.size, 0, none⟩) 4 4) (pmark w abcdT) := conv_text w abcdT 4 4
theorem abcd_in (w : World) : ByIn (pmark w abcdT) (.slice (some ⟨w.heap.size, 0, none⟩) 4 4) := .inr ⟨_, rfl, pmark_at w abcdT⟩
theorem ns_and (m : Nat) (h : m < 4) : ∃ k : Nat, k ≤ 15 ∧ Go.bits .and .u64 ((nsL.getD m 0 : Nat) : Int) 15 = (k : Int) := by
  match m, h with
  | 0, _ => exact ⟨0, by decide, by decide +kernel⟩
  | 1, _ => exact ⟨1, by decide, by decide +kernel⟩
  | 2, _ => exact ⟨4, by decide, by decide +kernel⟩
  | 3, _ => exact ⟨15, by decide, by decide +kernel⟩
  | _ + 4, h => exact absurd h (by omega)
/-- The two calls of a round. -/
def twoC (kd m : Int) (x y : Nat) (b : Value) : List Value := [.int .i64 kd, .int .i64 m, .int .u64 (x : Int), .int .u64 (x : Int), .int .u64 (y : Int), .slice none 0 0, .int .i64 kd, .int .i64 4, .int .u64 (x : Int), .int .u64 (y : Int), .int .u64 3, b]
theorem two_in {w : World} (kd m : Int) (x y : Nat) {b : Value} (h : ByIn w b) : AsksL w (twoC kd m x y b) 2 := fun j hj => by
  match j, hj with
  | 0, _ => exact ⟨kd, m, x, x, y, _, rfl, rfl, rfl, rfl, rfl, rfl, .inl rfl⟩
  | 1, _ => exact ⟨kd, 4, x, y, 3, b, rfl, rfl, rfl, rfl, rfl, rfl, h⟩
  | _ + 2, h => exact absurd h (by omega)
theorem two_one (kd m : Int) (x y : Nat) {b : Value} (h : b.oneCell' = true) : ∀ u ∈ twoC kd m x y b, u.oneCell' = true := by
  intro u hu
  simp only [twoC, List.mem_cons, List.not_mem_nil, or_false] at hu
  rcases hu with rfl | rfl | rfl | rfl | rfl | rfl | rfl | rfl | rfl | rfl | rfl | rfl <;> first | rfl | exact h
set_option maxHeartbeats 2000000 in
set_option maxRecDepth 100000 in
theorem pnumbers_walk (w : World) : Calls Try.prog 3 #[] w (BoolPost true w) := by
  go_enter Try.func3, Try.ntmps3
  go_upto_block 0 with fail
  go_cut [] from 1 to 25 (fun wx => Hid (Below w.heap.size w wx))
  case first =>
    go_wp2_with fail
    go_loopw [1] (fun va wr => ∃ k : Nat, va = .int .i64 ((k : Int) - 1) ∧ k ≤ 5 ∧ Hid (Below w.heap.size w wr)) (fun va _ => (4 - intOf va).toNat)
    case atStart => exact ⟨0, rfl, by omega, Lib.hid (Below.refl _ _)⟩
    case round =>
      obtain ⟨k, rfl, hk, HB⟩ := hrel
      by_cases hlt : k < 5
      · have hd : decide ((k : Int) - 1 < 4) = true := by simp; omega
        go_wp2_with fail
        have hints := Lib.hid fun j hj => ints5 wr j hj
        have HB1 := Lib.hid (HB.out.alloc HB.out.size (.cells #[.int .i64 (-1), .int .i64 0, .int .i64 2, .int .i64 512, .int .i64 513] 3))
        have HL := Lib.hid (show wr.heap.size < (wr.alloc (.cells #[.int .i64 (-1), .int .i64 0, .int .i64 2, .int .i64 512, .int .i64 513] 3)).heap.size by simp)
        generalize wr.alloc (.cells #[.int .i64 (-1), .int .i64 0, .int .i64 2, .int .i64 512, .int .i64 513] 3) = w1 at *
        generalize wr.heap.size = G at *
        go_loopw [17] (fun vi wr => ∃ i : Nat, vi = .int .i64 (i : Int) ∧ i ≤ 5 ∧ Hid (Below w1.heap.size w1 wr)) (fun vi _ => 5 - (intOf vi).toNat)
        case atStart => exact ⟨0, rfl, by omega, Lib.hid (Below.refl _ _)⟩
        case round =>
          obtain ⟨i, rfl, hi, HB2⟩ := hrel
          by_cases hli : i < 5
          · obtain ⟨z, hz⟩ := hints.out i hli
            have hz2 := (HB2.out.cell (p := ⟨G, i, none⟩) HL.out).trans hz
            clear hz
            go_wp2_with fail
            go_at_call 7
            refine (play_any _ z _ 0 false _ (asks_none _)).mono ?_
            rintro e w3 ⟨rfl, h3⟩
            have HB3 := Lib.hid (below_then HB2.out h3)
            clear h3 hz2
            go_wp2
            go_roundw
            case rel => exact ⟨i + 1, by go_num, by omega, HB3⟩
            case measure => simp [intOf]; omega
          · obtain rfl : i = 5 := by omega
            go_wp2
            go_roundw
            case rel => exact ⟨k + 1, by go_num, by omega, Lib.hid (HB1.out.trans (HB2.out.mono HB1.out.size))⟩
            case measure => simp [intOf]; omega
      · have hd : decide ((k : Int) - 1 < 4) = false := by simp; omega
        go_wp2
        go_meet
        exact HB
  case rest =>
    obtain ⟨w0, rfl⟩ : ∃ w0 : World, w0 = wc := ⟨_, rfl⟩
    have HB0 := hcut
    go_upto_block 4 with fail
    go_cut [4] from 6 to 59 (fun v wx => ∃ A c, v = .slice A 504 c ∧ Hid (AskRow w wx (.slice A 504 c) 504) ∧ Hid (Below w.heap.size w wx))
    case first =>
      have HB1 := Lib.hid (HB0.out.alloc HB0.out.size (.cells (atsL.map u64c).toArray 25))
      have HL := Lib.hid (Lit.made w0 atsL)
      go_wp2_with fail
      change Code.wp _ _ _ _ (w0.alloc (.cells (atsL.map u64c).toArray 25))
      generalize w0.alloc (.cells (atsL.map u64c).toArray 25) = w1 at *
      generalize w0.heap.size = G at *
      go_loopw [4, 28] (fun v vi wr => ∃ (A : Option Addr) (c i : Nat), v = .slice A (56 * i) c ∧ vi = .int .i64 (i : Int) ∧ i ≤ 9 ∧ Hid (AskRow w wr (.slice A (56 * i) c) (56 * i)) ∧ Hid (Lit wr G atsL) ∧ Hid (Below w.heap.size w wr)) (fun _ vi _ => 9 - (intOf vi).toNat)
      case atStart => exact ⟨none, 0, 0, rfl, rfl, by omega, Lib.hid (AskRow.nil w w1), HL, HB1⟩
      case round =>
        obtain ⟨A, c, i, rfl, rfl, hi, HR, HLA, HBL⟩ := hrel
        by_cases hlt : i < 9
        · have hx := HLA.out.cell i hlt
          generalize atsL.getD i 0 = x at hx
          obtain ⟨n0, hn0⟩ : ∃ n0, 56 * i = n0 := ⟨_, rfl⟩
          rw [hn0] at HR ⊢
          have hn0b : n0 ≤ 448 := by omega
          have HN0 := Lib.hid hn0
          clear hn0
          go_wp2_with fail
          go_loopw [4, 7] (fun v vk wr => ∃ (A : Option Addr) (c j : Nat), v = .slice A (n0 + 8 * j) c ∧ vk = .int .i64 ((j : Int) + 1) ∧ j ≤ 7 ∧ Hid (AskRow w wr (.slice A (n0 + 8 * j) c) (n0 + 8 * j)) ∧ Hid (Lit wr G atsL) ∧ Hid (Below w.heap.size w wr)) (fun _ vk _ => (8 - intOf vk).toNat)
          case atStart => exact ⟨A, c, 0, rfl, rfl, by omega, HR, HLA, HBL⟩
          case round =>
            clear HR HLA HBL
            obtain ⟨A, c, j, rfl, rfl, hj, HR, HLA, HBL⟩ := hrel
            by_cases hlj : j < 7
            · have hd : decide ((j : Int) + 1 < 8) = true := by simp; omega
              have hal := (Below.refl wr.heap.size wr).alloc (Nat.le_refl _) (.cells (nsL.map u64c).toArray 25)
              have HLN := Lib.hid (Lit.made wr nsL)
              have HLA2 := Lib.hid (HLA.out.below hal)
              have HR2 := Lib.hid (HR.out.below hal)
              have HB2 := Lib.hid (below_then HBL.out hal)
              obtain ⟨n1, hn1⟩ : ∃ n1, n0 + 8 * j = n1 := ⟨_, rfl⟩
              rw [hn1] at HR2 ⊢
              have hn1b : n1 ≤ 1000 := by omega
              have HN1 := Lib.hid hn1
              clear hn1 HR HBL hal HLA
              go_wp2_with fail
              change Code.wp _ _ _ _ (wr.alloc (.cells (nsL.map u64c).toArray 25))
              generalize wr.alloc (.cells (nsL.map u64c).toArray 25) = w2 at *
              generalize wr.heap.size = G2 at *
              go_loopw [4, 38] (fun v vm wr => ∃ (A : Option Addr) (c m : Nat), v = .slice A (n1 + 2 * m) c ∧ vm = .int .i64 (m : Int) ∧ m ≤ 4 ∧ Hid (AskRow w wr (.slice A (n1 + 2 * m) c) (n1 + 2 * m)) ∧ Hid (Lit wr G atsL) ∧ Hid (Lit wr G2 nsL) ∧ Hid (Below w.heap.size w wr)) (fun _ vm _ => 4 - (intOf vm).toNat)
              case atStart => exact ⟨A, c, 0, rfl, rfl, by omega, HR2, HLA2, HLN, HB2⟩
              case round =>
                clear HR2 HLA2 HLN HB2
                obtain ⟨A, c, m, rfl, rfl, hm, HR, HLA, HLN, HBL⟩ := hrel
                by_cases hlm : m < 4
                · have hy := HLN.out.cell m hlm
                  obtain ⟨z, hz15, hz⟩ := ns_and m hlm
                  generalize nsL.getD m 0 = y at hy hz
                  have hcv := conv_abcd wr
                  obtain ⟨xs, ho, hv0, hxs⟩ := HR.out
                  have hbp := below_pmark wr abcdT
                  have hbq := hbp.alloc hbp.size (.cells (twoC ((j : Int) + 1) (z : Int) x y (.slice (some ⟨wr.heap.size, 0, none⟩) 4 4)).toArray 29)
                  have HO := Lib.hid (owns_below ho hbq)
                  have HNW := Lib.hid (news_new (pmark wr abcdT) (twoC ((j : Int) + 1) (z : Int) x y (.slice (some ⟨wr.heap.size, 0, none⟩) 4 4)).toArray 29 2 2)
                  have HTI := Lib.hid (two_in ((j : Int) + 1) (z : Int) x y ((abcd_in wr).below ((Below.refl _ _).alloc (Nat.le_refl _) (.cells (twoC ((j : Int) + 1) (z : Int) x y (.slice (some ⟨wr.heap.size, 0, none⟩) 4 4)).toArray 29))))
                  have HXS := Lib.hid (hxs.below hbq)
                  have HV0 := Lib.hid hv0
                  have HBW := Lib.hid (below_then HBL.out hbq)
                  have HLA3 := Lib.hid (HLA.out.below hbq)
                  have HLN3 := Lib.hid (HLN.out.below hbq)
                  have hfit : n1 + 2 * m + 2 ≤ 1000000 := by omega
                  clear ho hv0 hxs hbp hbq HR HLA HLN HBL
                  go_wp2_with (first
                    | (at_builtin; refine wpList_append_row rfl (.tmp 42) (.tmp 57) 24 29 rfl _ 6 64 Try.underlying24 Try.infoAsk rfl (by decide) (by decide) (.slice A (n1 + 2 * m) c) (n1 + 2 * m) xs (by rfl) HO.out (.slice (some ⟨(pmark wr abcdT).heap.size, 0, none⟩) 2 2) 2 (twoC ((j : Int) + 1) (z : Int) x y (.slice (some ⟨wr.heap.size, 0, none⟩) 4 4)) (by rfl) rfl HNW.out (two_one _ _ _ _ rfl) hfit ?_; intro v' w9 ho9 hg9 hat9; obtain ⟨A', c', rfl⟩ := owns_slice ho9
                       have HR9 := Lib.hid (AskRow.more HO.out HV0.out HBW.out.size HXS.out HTI.out ho9 hg9 hat9)
                       have HLA9 := Lib.hid (HLA3.out.grown HO.out hg9)
                       have HLN9 := Lib.hid (HLN3.out.grown HO.out hg9)
                       have HB9 := Lib.hid (HBW.out.grown hg9 HBW.out.size HV0.out)
                       clear ho9 hg9 hat9))
                  have e9 : n1 + 2 * m + 2 = n1 + 2 * (m + 1) := by omega
                  rw [e9] at HR9 ⊢
                  refine ⟨⟨_, _, _, ⟨A', c', m + 1, rfl, ?_, by omega, HR9⟩, rfl, rfl, rfl⟩, ?_⟩
                  · go_num
                  · simp [intOf]; omega
                · obtain rfl : m = 4 := by omega
                  have e : n1 + 2 * 4 = n0 + 8 * (j + 1) := by have := HN1.out; omega
                  rw [e] at HR ⊢
                  go_wp2
                  go_roundw
                  case rel => exact ⟨A, c, j + 1, rfl, by go_num, by omega, HR, HLA, HBL⟩
                  case measure => simp [intOf]; omega
            · obtain rfl : j = 7 := by omega
              have e : n0 + 8 * 7 = 56 * (i + 1) := by have := HN0.out; omega
              rw [e] at HR ⊢
              go_wp2
              go_roundw
              case rel => exact ⟨A, c, i + 1, rfl, by go_num, by omega, HR, HLA, HBL⟩
              case measure => simp [intOf]; omega
        · obtain rfl : i = 9 := by omega
          go_wp2
          go_meet
          exact ⟨A, c, rfl, HR, HBL⟩
    case rest =>
      obtain ⟨A, c, rfl, HR, HB1⟩ := hcut
      obtain ⟨w2, rfl⟩ : ∃ w2 : World, w2 = wc := ⟨_, rfl⟩
      obtain ⟨g, cap, hv, hcap⟩ : ∃ g cap, Value.slice A 504 c = .slice (some ⟨g, 0, none⟩) 504 cap ∧ 504 ≤ cap := by
        obtain ⟨xs, ho, _, _⟩ := HR.out
        rcases ho.2 with ⟨_, h0⟩ | ⟨g, cap, cur, hv, _, _, hnc, _⟩
        · omega
        · exact ⟨g, cap, hv, hnc⟩
      simp only [Value.slice.injEq] at hv
      obtain ⟨rfl, _, rfl⟩ := hv
      go_wp2_with fail
      go_loopw [10] (fun vk wr => ∃ k : Nat, vk = .int .i64 (k : Int) ∧ k ≤ 553 ∧ Hid (Below w2.heap.size w2 wr)) (fun vk _ => 553 - (intOf vk).toNat)
      case atStart => exact ⟨0, rfl, by omega, Lib.hid (Below.refl _ _)⟩
      case round =>
        obtain ⟨k, rfl, hk, HBL⟩ := hrel
        by_cases hlt : k < 504
        · by_cases h50 : k + 50 ≤ 504
          · have hp := (HR.out.below HBL.out).part k 50 (by omega) (by omega) (some ⟨g, k * 6, none⟩) (c - k) (fun g' e => by
              simp only [Option.some.injEq, Addr.mk.injEq] at e
              obtain ⟨rfl, _⟩ := e; rfl)
            have hne : ¬ k = c := by omega
            have HPP := Lib.hid hp
            clear hp
            go_wp2_with fail
            go_at_call 7
            refine (play_any 1 3 _ 50 false wr HPP.out).mono ?_
            rintro e w3 ⟨rfl, h3⟩
            have HB3 := Lib.hid (below_then HBL.out h3)
            clear h3
            go_wp2
            go_roundw
            case rel => exact ⟨k + 50, by go_num, by omega, HB3⟩
            case measure => simp [intOf]; omega
          · have hp := (HR.out.below HBL.out).part k (504 - k) (by omega) (by omega) (some ⟨g, k * 6, none⟩) (c - k) (fun g' e => by
              simp only [Option.some.injEq, Addr.mk.injEq] at e
              obtain ⟨rfl, _⟩ := e; rfl)
            have hne : ¬ k = c := by omega
            have HPP := Lib.hid hp
            clear hp
            go_wp2_with fail
            go_at_call 7
            refine (play_any 1 3 _ (504 - k) false wr HPP.out).mono ?_
            rintro e w3 ⟨rfl, h3⟩
            have HB3 := Lib.hid (below_then HBL.out h3)
            clear h3
            go_wp2
            go_roundw
            case rel => exact ⟨k + 50, by go_num, by omega, HB3⟩
            case measure => simp [intOf]; omega
        · have hd : decide ((k : Int) < 504) = false := by simp; omega
          go_wp2_with (go_at_call 8; refine (pknown_any wr).mono ?_; rintro e w3 ⟨rfl, h3⟩)
          go_ret
          exact ⟨rfl, (HB1.out.trans (HBL.out.mono HB1.out.size)).trans (h3.mono (Nat.le_trans HB1.out.size HBL.out.size))⟩
end Go.Proofs.Ytljhdibnnaepdaa
