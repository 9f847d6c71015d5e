/-
  LebBack: the walk.
-/
import Derived.Test.YtebnlblkjdopaaaLBackM
import Derived.Test.YtebnlblkjdopaaaLkn
import Derived.Test.YtebnlblkjdopaaaLbook
import Derived.Deep.CutRange
import Derived.Outline
namespace Go.Proofs.Ytebnlblkjdopaaa
open Go.RowKit

theorem Appended.acc {w w' w0 : World} {B base g g' n m cap' : Nat} {xs ys : List Nat} (h : Appended w w' base g g' n m cap' xs ys) (hb : Below B w0 w) (hB : B ≤ w.heap.size) (hg : B ≤ g) : Below B w0 w' :=
  hb.grown h.grown hB (fun k hk => by cases hk; exact hg)
theorem owns_none (w : World) : (w.alloc (.cells #[] 5)).ownsRow w.heap.size 5 1 (.slice (some ⟨w.heap.size, 0, none⟩) 0 0) 0 (([] : List Nat).map byt) :=
  ⟨rfl, .inr ⟨w.heap.size, 0, #[], rfl, Nat.le_refl _, heap_alloc_new w _, Nat.le_refl _, by unfold maxLen; omega, rfl, rfl⟩⟩
theorem Appended.bytes {w w' : World} {base g g' n m cap' : Nat} {xs ys : List Nat} (h : Appended w w' base g g' n m cap' xs ys) (hn : xs.length = n) (hm : ys.length = m) (hx : ∀ x ∈ xs, x < 256) (hy : ∀ x ∈ ys, x < 256) : Bytes w' (some ⟨g', 0, none⟩) (xs ++ ys) ∧ n + m ≤ cap' := by
  have hl : (xs ++ ys).length = n + m := by rw [List.length_append, hn, hm]
  have ho := h.own
  rw [← hl] at ho
  obtain ⟨A, c, hv, hc, hb⟩ := bytes_owned ho (fun x hxy => (List.mem_append.1 hxy).elim (hx x) (hy x))
  simp only [Value.slice.injEq] at hv
  obtain ⟨rfl, _, rfl⟩ := hv
  exact ⟨hb, by rw [← hl]; exact hc⟩

theorem within_5 (p : Int) (w : World) : Calls Try.prog 14 #[.int .i64 p, .int .i64 0, .int .i64 5] w (IntPost w) := within_some p 0 5 (Nat.zero_le _) (by decide) w
def lenOf : Value → Nat
  | .slice _ n _ => n
  | _ => 0
/-- The row of the upper half, with bytes more than need be. -/
structure Padding (w0 : World) (M B g cap : Nat) (lc : List Nat) (wr : World) : Prop where
  own : wr.ownsRow B 5 1 (.slice (some ⟨g, 0, none⟩) lc.length cap) lc.length (lc.map byt)
  base : w0.heap.size ≤ B
  acc : Below w0.heap.size w0 wr
  row : rowB lc = true
  len : lc.length ≤ 10
  val : valU lc = M
  byte : ∀ x ∈ lc, x < 256
theorem Padding.at_last {w0 wr : World} {M B g cap : Nat} {lc : List Nat} (h : Padding w0 M B g cap lc wr) (q : Nat) (hq : q = lc.length - 1) : wr.cell? ⟨g, q, none⟩ = some (.int .u8 (lastN lc : Nat)) ∧ wr.frozen? ⟨g, q, none⟩ = false := by
  have hp := rowB_pos h.row
  subst hq
  refine ⟨?_, ?_⟩
  · have hx : lc[lc.length - 1]? = some (lastN lc) := by unfold lastN; rw [List.getD_eq_getElem?_getD, List.getElem?_eq_getElem (by omega)]; rfl
    have h3 := h.own.cells (g := g) rfl (lc.length - 1) (byt (lastN lc)) (by rw [List.getElem?_map, hx]; rfl)
    rwa [add_lit0] at h3
  · rcases h.own.2 with ⟨h', _⟩ | ⟨g', cap', cur, h', _, hcur, _⟩
    · cases h'
    · simp only [Value.slice.injEq, Option.some.injEq, Addr.mk.injEq] at h'
      obtain ⟨⟨rfl, _⟩, _⟩ := h'
      simp [World.frozen?, hcur]
/-- The last byte marked, and a nought behind it laid ready. -/
theorem Padding.marked {w0 wr : World} {M B g cap : Nat} {lc : List Nat} (h : Padding w0 M B g cap lc wr) (q : Nat) :
    ((wr.setCell ⟨g, q, none⟩ (.int .u8 ((lastN lc + 128 : Nat) : Int))).alloc (.cells #[.int .u8 0] 5)).ownsRow B 5 1 (.slice (some ⟨g, 0, none⟩) lc.length cap) lc.length ((lc.set q (lastN lc + 128)).map byt) ∧
    Bytes ((wr.setCell ⟨g, q, none⟩ (.int .u8 ((lastN lc + 128 : Nat) : Int))).alloc (.cells #[.int .u8 0] 5)) (some ⟨wr.heap.size, 0, none⟩) [0] ∧
    B ≤ ((wr.setCell ⟨g, q, none⟩ (.int .u8 ((lastN lc + 128 : Nat) : Int))).alloc (.cells #[.int .u8 0] 5)).heap.size := by
  have hg := h.own.lt g rfl
  have h1 := (h.own.stored q (byt (lastN lc + 128))).1
  rw [← List.map_set] at h1
  refine ⟨h1.alloc _, ?_, ?_⟩
  · have h2 := bytes_new (wr.setCell ⟨g, q, none⟩ (.int .u8 ((lastN lc + 128 : Nat) : Int))) [0] (by decide)
    have e : (wr.setCell ⟨g, q, none⟩ (.int .u8 ((lastN lc + 128 : Nat) : Int))).heap.size = wr.heap.size := by simp [World.setCell]
    rw [e] at h2
    exact h2
  · simp [World.setCell]; omega
/-- One byte more than there were. -/
theorem Padding.more {w0 wr w' : World} {M B g g' cap cap' L : Nat} {lc : List Nat} (h : Padding w0 M B g cap lc wr) (q y : Nat) (hq : q = lc.length - 1) (hL : lc.length = L) (hy : lastN lc + 128 = y) (h10 : L < 10)
    (ha : Appended ((wr.setCell ⟨g, q, none⟩ (.int .u8 (y : Int))).alloc (.cells #[.int .u8 0] 5)) w' B g g' L 1 cap' (lc.set q y) [0]) : Padding w0 M B g' cap' (padded lc) w' := by
  subst hL
  subst hy
  have hg := h.own.lt g rfl
  have hx : lastN lc < 128 := rowB_last h.row
  subst hq
  have ho := ha.own
  have e : lc.set (lc.length - 1) (lastN lc + 128) ++ [0] = padded lc := rfl
  rw [e, ← padded_len lc] at ho
  have hb : Below w0.heap.size w0 ((wr.setCell ⟨g, lc.length - 1, none⟩ (.int .u8 ((lastN lc + 128 : Nat) : Int))).alloc (.cells #[.int .u8 0] 5)) :=
    (h.acc.setCell (p := ⟨g, lc.length - 1, none⟩) (Nat.le_trans h.base hg.1) _).alloc (by have := h.acc.size; simpa [World.setCell] using this) _
  exact ⟨ho, h.base, ha.acc hb hb.size (Nat.le_trans h.base hg.1), padded_row lc h.row, by rw [padded_len]; omega, (padded_val lc h.row).trans h.val, padded_byte lc h.byte hx⟩

set_option maxRecDepth 100000 in
set_option maxHeartbeats 4000000 in
theorem back_any (n : Nat) (m : Int) (hn : n < 18446744073709551616) (hm0 : -9223372036854775808 ≤ m) (hm1 : m ≤ 9223372036854775807) (A : Option Addr) (c : Nat) (l0 : List Nat) (pad : Int) (hc : l0.length ≤ c) (hl63 : l0.length ≤ 9223372036854775807) (w : World) (hb0 : Bytes w A l0) :
    Calls Try.prog 5 #[.int .u64 (n : Int), .int .i64 m, .slice A l0.length c, .int .i64 pad] w (BoolPost true w) := by
  obtain ⟨n0, hn0⟩ : ∃ n0, l0.length = n0 := ⟨_, rfl⟩
  rw [hn0] at hc hl63 ⊢
  have HN0 := Lib.hid hn0
  have HB0 := Lib.hid hb0
  have HN := Lib.hid hn
  have HM := Lib.hid (And.intro hm0 hm1)
  clear hn0 hb0 hn hm0 hm1
  go_enter Try.func5, Try.ntmps5
  go_upto_if 27 with fail
  go_cut [2] from 28 to 29 (fun s wx => ∃ (A' : Option Addr) (l : List Nat), s = .slice A' l.length c ∧ l.length ≤ 20 ∧ l.length ≤ c ∧ Bytes w A' l ∧ wx = w)
  case first =>
    by_cases h30 : n0 ≤ 20
    · have hd : decide ((20 : Int) < (n0 : Int)) = false := by simp; omega
      go_wp2
      go_meet
      exact ⟨A, l0, by rw [HN0.out], by rw [HN0.out]; exact h30, by rw [HN0.out]; exact hc, HB0.out, rfl⟩
    · obtain ⟨g, o, rfl, _, _⟩ := HB0.out.2 (by rw [HN0.out]; omega)
      have hd : decide ((20 : Int) < (n0 : Int)) = true := by simp; omega
      have hc0 : ¬ c = 0 := by omega
      go_wp2
      go_meet
      have e : (l0.take 20).length = 20 := by rw [List.length_take, HN0.out]; omega
      have hp := HB0.out.part 0 20 (by rw [HN0.out]; omega) (some ⟨g, o, none⟩) (fun g' o' _ he => by rw [he]; rfl)
      rw [List.drop_zero] at hp
      exact ⟨some ⟨g, o, none⟩, l0.take 20, by rw [e], by omega, by omega, hp, rfl⟩
  case rest =>
    obtain ⟨A', l, rfl, hk20, hkc, hb, rfl⟩ := hcut
    clear HB0 HN0 hc hl63
    -- what U and S write
    have CU := fun w => u_is n HN.out w
    have CS := fun w => s_is m HM.out.1 HM.out.2 w
    have lu10 := encU_len10 n HN.out
    have ls10 := encS_len10 m HM.out.1 HM.out.2
    have lub := encU_bytes n
    have lsb := encS_bytes m
    have lur := encU_row n
    have ra := readU_row l (encU n) (encU_row n) lu10 (by rw [encU_val]; exact HN.out)
    have rb := readS_row l m HM.out.1 HM.out.2
    have rc := readU_short l (encU n) (encU_row n)
    rw [encU_val] at ra
    have lu0 := rowB_pos lur
    have ls0 := rowB_pos (encS_row m)
    generalize encU n = lu at CU lu10 lub lur ra rc lu0
    generalize encS m = ls at CS ls10 lsb rb ls0
    obtain ⟨nu, hnu⟩ : ∃ nu, lu.length = nu := ⟨_, rfl⟩
    obtain ⟨ns, hns⟩ : ∃ ns, ls.length = ns := ⟨_, rfl⟩
    obtain ⟨k, hk⟩ : ∃ k, l.length = k := ⟨_, rfl⟩
    unfold EncIs at CU CS
    rw [hnu] at CU lu10 ra rc lu0
    rw [hns] at CS ls10 rb ls0
    rw [hk] at ra rb rc hk20 hkc ⊢
    have HU := Lib.hid CU
    have HS := Lib.hid CS
    have HNU := Lib.hid hnu
    have HNS := Lib.hid hns
    have HK := Lib.hid hk
    have HLU := Lib.hid lub
    have HLS := Lib.hid lsb
    have HRA := Lib.hid ra
    have HRB := Lib.hid rb
    have HRC := Lib.hid rc
    have HB := Lib.hid hb
    clear CU CS hnu hns hk lub lsb lur ra rb rc hb
    have on := owns_none wc
    have hb1 : Below wc.heap.size wc (wc.alloc (.cells #[] 5)) := (Below.refl _ _).alloc (Nat.le_refl _) _
    have hz1 : wc.heap.size < (wc.alloc (.cells #[] 5)).heap.size := by simp
    go_wp2_with (at_builtin; refine wpList_append_bytes rfl (.tmp 30) (.tmp 31) (by rfl) wc.heap.size wc.heap.size 0 0 [] (by rfl) on A' k c l (by rfl) HK.out (HB.out.below hb1) (by omega) (Nat.le_of_lt hz1) ?_)
    intro g1 cap1 w1 ha
    have own1 := ha.own
    rw [Nat.zero_add, List.nil_append] at own1
    have hg1 : wc.heap.size ≤ g1 := by have := ha.at_; omega
    have hnx := ha.acc hb1 (Nat.le_of_lt hz1) (Nat.le_refl _)
    clear ha on hb1 hz1
    go_wp2_with fail
    go_at_call 7
    refine (HU.out _).mono ?_
    rintro e w2 ⟨gu, cu, rfl, _, _, hu, _, _, hb⟩
    replace own1 := owns_below own1 hb
    replace hnx := below_then hnx hb
    clear hb
    go_wp2_with (at_builtin; refine wpList_append_bytes rfl (.tmp 32) (.tmp 34) (by rfl) wc.heap.size g1 k cap1 l (by rfl) own1 (some ⟨gu, 0, none⟩) nu cu lu (by rfl) HNU.out hu (by omega) hnx.size ?_)
    intro ga capa w3 ha
    obtain ⟨hA, hcapa⟩ := ha.bytes HK.out HNU.out HB.out.1 HLU.out
    replace hnx := ha.acc hnx hnx.size hg1
    clear ha own1 hu hg1
    obtain ⟨T, hT⟩ : ∃ T, k + nu = T := ⟨_, rfl⟩
    have hra := HRA.out
    have hlA : (l ++ lu).length = T := by rw [List.length_append, HK.out, HNU.out]; exact hT
    have hrc := HRC.out
    rw [hT] at hcapa hra hrc ⊢
    have hkT : (k : Int) + 1 ≤ (T : Int) := by omega
    have hT30 : T ≤ 30 := by omega
    have CRA := fun w hb => readU_any (some ⟨ga, 0, none⟩) T capa (l ++ lu) hlA hcapa (by omega) k 64 w hb
    rw [hra] at CRA
    have HCRA := Lib.hid CRA
    have HLA := Lib.hid hlA
    have HRC2 := Lib.hid hrc
    clear CRA hra hT hlA hrc
    go_wp2_with fail
    go_at_call 16
    refine (HCRA.out _ hA).mono ?_
    rintro e w4 ⟨rfl, hb⟩
    replace hA := hA.below hb
    replace hnx := below_then hnx hb
    clear hb HCRA
    -- the signed one
    have on := owns_none w4
    have hb4 : Below w4.heap.size w4 (w4.alloc (.cells #[] 5)) := (Below.refl _ _).alloc (Nat.le_refl _) _
    have hz4 : w4.heap.size < (w4.alloc (.cells #[] 5)).heap.size := by simp
    go_wp2_with (at_builtin; refine wpList_append_bytes rfl (.tmp 44) (.tmp 45) (by rfl) w4.heap.size w4.heap.size 0 0 [] (by rfl) on A' k c l (by rfl) HK.out (HB.out.below (below_then hnx hb4)) (by omega) (Nat.le_of_lt hz4) ?_)
    intro g5 cap5 w5 ha
    have own5 := ha.own
    rw [Nat.zero_add, List.nil_append] at own5
    have hg5 : w4.heap.size ≤ g5 := by have := ha.at_; omega
    have hny := ha.acc hb4 (Nat.le_of_lt hz4) (Nat.le_refl _)
    clear ha on hb4 hz4
    go_wp2_with fail
    go_at_call 9
    refine (HS.out _).mono ?_
    rintro e w6 ⟨gs, cs, rfl, _, _, hs, _, _, hb⟩
    replace own5 := owns_below own5 hb
    replace hny := below_then hny hb
    clear hb
    go_wp2_with (at_builtin; refine wpList_append_bytes rfl (.tmp 46) (.tmp 48) (by rfl) w4.heap.size g5 k cap5 l (by rfl) own5 (some ⟨gs, 0, none⟩) ns cs ls (by rfl) HNS.out hs (by omega) hny.size ?_)
    intro gb capb w7 ha
    obtain ⟨hBb, hcapb⟩ := ha.bytes HK.out HNS.out HB.out.1 HLS.out
    replace hny := ha.acc hny hny.size hg5
    replace hA := hA.below hny
    replace hnx := below_then hnx hny
    clear ha own5 hs hg5 hny
    obtain ⟨R, hR⟩ : ∃ R, k + ns = R := ⟨_, rfl⟩
    have hrb := HRB.out
    have hlB : (l ++ ls).length = R := by rw [List.length_append, HK.out, HNS.out]; exact hR
    rw [hR] at hcapb hrb ⊢
    have CRB := readS_any (some ⟨gb, 0, none⟩) R capb (l ++ ls) hlB hcapb (by omega) k 64 w7 hBb
    rw [hrb] at CRB
    have HCRB := Lib.hid CRB
    clear CRB hrb hR hlB hBb
    go_wp2_with fail
    go_at_call 17
    refine HCRB.out.mono ?_
    rintro e w8 ⟨rfl, hb⟩
    replace hA := hA.below hb
    replace hnx := below_then hnx hb
    clear hb HCRB
    -- a byte less
    obtain ⟨T1, hT1⟩ : ∃ T1 : Nat, (T : Int) - 1 = (T1 : Int) := ⟨T - 1, by omega⟩
    have hT1T : (T1 : Int) ≤ (T : Int) := by omega
    have hT10 : (0 : Int) ≤ (T1 : Int) := Int.natCast_nonneg _
    have hcap0 : ¬ capa = 0 := by omega
    have hTc : (T : Int) ≤ (capa : Int) := by omega
    have hP : Bytes w8 (some ⟨ga, 0, none⟩) ((l ++ lu).take T1) := by
      have h := hA.part 0 T1 (by rw [HLA.out]; omega) (some ⟨ga, 0, none⟩) (fun g o _ he => by rw [he]; rfl)
      rw [List.drop_zero] at h
      exact h
    have CRC := readU_any (some ⟨ga, 0, none⟩) T1 capa ((l ++ lu).take T1) (by rw [List.length_take, HLA.out]; omega) (by omega) (by omega) k 64 w8 hP
    have hrc := HRC2.out
    rw [show T - 1 = T1 by omega] at hrc
    rw [hrc] at CRC
    have HCRC := Lib.hid CRC
    clear CRC hrc hP HRC2 HRC hA
    -- the number's upper half
    obtain ⟨M, hM⟩ : ∃ M : Nat, (n : Int) / 4294967296 = (M : Int) := ⟨n / 4294967296, by omega⟩
    have hM2 : M < 4294967296 := by have := HN.out; omega
    have CM := fun w => u_is M (by omega) w
    have HCM := Lib.hid CM
    have HM2 := Lib.hid hM2
    clear CM hM2
    go_wp2_with fail
    go_at_call 16
    refine HCRC.out.mono ?_
    rintro e w9 ⟨rfl, hb⟩
    replace hnx := below_then hnx hb
    clear hb HCRC hT1 hT1T hT10 hcap0 hTc
    go_wp2_with fail
    go_at_call 7
    refine (HCM.out _).mono ?_
    rintro e w10 ⟨gc, cc, rfl, own, hcc, hcb, _, _, hb⟩
    have hB9 := hnx.size
    replace hnx := below_then hnx hb
    have hl10 := encU_len10 M (by have := HM2.out; omega)
    have hl0 := rowB_pos (encU_row M)
    clear hb HCM hcb
    generalize w9.heap.size = B at own hB9
    go_wp2_with (go_at_call 14; refine (within_5 _ _).mono ?_; rintro e w' ⟨⟨r1, rfl⟩, rfl⟩)
    go_loopw [20, 21] (fun v i wr => ∃ (r : Int) (lc : List Nat) (g cap : Nat), v = .slice (some ⟨g, 0, none⟩) lc.length cap ∧ i = .int .i64 r ∧ Padding wc M B g cap lc wr) (fun v _ _ => 11 - lenOf v)
    case atStart => exact ⟨r1, encU M, gc, cc, rfl, rfl, ⟨own, hB9, hnx, encU_row M, hl10, encU_val M, encU_bytes M⟩⟩
    case round =>
      clear own hcc hl10 hl0 hnx
      obtain ⟨r, lc, g, cap, rfl, rfl, hp⟩ := hrel
      by_cases hgo : 0 < r ∧ lc.length < 10
      · obtain ⟨hr, h10⟩ := hgo
        have h0 := rowB_pos hp.row
        obtain ⟨q, hq⟩ : ∃ q : Nat, (lc.length : Int) - 1 = (q : Int) := ⟨lc.length - 1, by omega⟩
        have hqn : q = lc.length - 1 := by omega
        have hql : (q : Int) < (lc.length : Int) := by omega
        obtain ⟨hcell, hfz⟩ := hp.at_last q hqn
        have hx : lastN lc < 128 := rowB_last hp.row
        have hor : Go.bits .or .u8 ((lastN lc : Nat) : Int) 128 = ((lastN lc + 128 : Nat) : Int) := or_last ⟨lastN lc, hx⟩
        have hp2 := hp.marked q
        obtain ⟨L, hL⟩ : ∃ L, lc.length = L := ⟨_, rfl⟩
        obtain ⟨y, hy⟩ : ∃ y : Nat, lastN lc + 128 = y := ⟨_, rfl⟩
        rw [hy] at hor hp2
        have HY := Lib.hid hy
        clear hy
        generalize lastN lc = x at hcell hor hx
        rw [hL] at hp2 h10 h0 hq hql ⊢
        have HP := Lib.hid hp
        have HP2 := Lib.hid hp2
        have HL := Lib.hid hL
        have HQ := Lib.hid hqn
        clear hp hp2 hL hqn
        go_wp2_with (at_builtin; refine wpList_append_bytes rfl (.tmp 123) (.tmp 124) (by rfl) B g L cap (lc.set q y) (by rfl) HP2.out.1 (some ⟨wr.heap.size, 0, none⟩) 1 1 [0] (by rfl) rfl HP2.out.2.1 (by omega) HP2.out.2.2 ?_)
        intro g2 cap2 w' ha
        have hp3 := HP.out.more q y HQ.out HL.out HY.out h10 ha
        have hl3 : (padded lc).length = L + 1 := by rw [padded_len, HL.out]
        have HL3 := Lib.hid hl3
        clear ha HP2 hl3
        go_wp2
        go_roundw
        case rel => exact ⟨_, padded lc, g2, cap2, by rw [HL3.out], rfl, hp3⟩
        case measure => simp [lenOf]; omega
      · have hl10 := hp.len
        have hl0 := rowB_pos hp.row
        obtain ⟨A3, c3, hv, hc3, hby⟩ := bytes_owned hp.own hp.byte
        simp only [Value.slice.injEq] at hv
        obtain ⟨rfl, _, rfl⟩ := hv
        have hacc := hp.acc
        have hrd := readU_row [] lc hp.row hl10 (by rw [hp.val]; have := HM2.out; omega)
        rw [List.nil_append, hp.val, List.length_nil, Nat.zero_add] at hrd
        have CR := readU_any (some ⟨g, 0, none⟩) lc.length cap lc rfl hc3 (by omega) 0 64 wr hby
        have hrd' : rU lc 0 64 = .tuple #[.int .u64 (M : Int), .int .i64 (lc.length : Int), .bool true] := hrd
        rw [hrd'] at CR
        have HCR := Lib.hid CR
        clear CR hrd hrd' hby hp
        have hnx := hacc
        clear hacc
        by_cases hr : 0 < r
        · have h10 : ¬ lc.length < 10 := fun h => hgo ⟨hr, h⟩
          clear hgo
          generalize lc.length = L at *
          go_wp2_with (first
            | (go_at_call 16; refine HCR.out.mono ?_; rintro e w11 ⟨rfl, hb⟩; replace hnx := below_then hnx hb; clear hb)
            | (go_at_call 12; refine (known_any _).mono ?_; rintro e w12 ⟨rfl, hb⟩; replace hnx := below_then hnx hb; clear hb))
          go_ret
          exact ⟨rfl, hnx⟩
        · clear hgo
          generalize lc.length = L at *
          go_wp2_with (first
            | (go_at_call 16; refine HCR.out.mono ?_; rintro e w11 ⟨rfl, hb⟩; replace hnx := below_then hnx hb; clear hb)
            | (go_at_call 12; refine (known_any _).mono ?_; rintro e w12 ⟨rfl, hb⟩; replace hnx := below_then hnx hb; clear hb))
          go_ret
          exact ⟨rfl, hnx⟩
end Go.Proofs.Ytebnlblkjdopaaa
