/-
  LebTells: the walk.
-/
import Derived.Test.YtebnlblkjdopaaaLkn
import Derived.Test.YtebnlblkjdopaaaLreads
import Derived.Test.YtebnlblkjdopaaaLbook
import Derived.Deep.RegionHeld3
import Derived.Deep.CutRange
namespace Go.Proofs.Ytebnlblkjdopaaa
open Go.RowKit
set_option linter.unusedSimpArgs false

/-! ### What an append leaves -/
theorem Appended.old_bytes {w w' : World} {base g g' n m cap' : Nat} {xs ys : List Nat} (h : Appended w w' base g g' n m cap' xs ys) (hb : Bytes w (some ⟨g, 0, none⟩) xs) (hn : xs.length = n) : Bytes w' (some ⟨g, 0, none⟩) xs :=
  ⟨hb.1, fun hl => by
    obtain ⟨q, o, he, hq, hc⟩ := hb.2 hl
    simp only [Option.some.injEq, Addr.mk.injEq] at he
    obtain ⟨rfl, rfl, _⟩ := he
    refine ⟨g, 0, rfl, Nat.lt_of_lt_of_le hq h.grown.size, fun j hj => ?_⟩
    rw [Nat.zero_add, h.kept j (by omega)]
    have := hc j hj
    rwa [Nat.zero_add] at this⟩
theorem Appended.far_bytes {w w' : World} {base g g' n m cap' q : Nat} {xs ys zs : List Nat} (h : Appended w w' base g g' n m cap' xs ys) (hb : Bytes w (some ⟨q, 0, none⟩) zs) (hq : q ≠ g) : Bytes w' (some ⟨q, 0, none⟩) zs :=
  ⟨hb.1, fun hl => by
    obtain ⟨r, o, he, hr, hc⟩ := hb.2 hl
    simp only [Option.some.injEq, Addr.mk.injEq] at he
    obtain ⟨rfl, rfl, _⟩ := he
    refine ⟨q, 0, rfl, Nat.lt_of_lt_of_le hr h.grown.size, fun j hj => ?_⟩
    rw [h.grown.cell_far _ hr (by simpa using hq)]
    exact hc j hj⟩
theorem Appended.far_held {w w' w0 : World} {base g g' n m cap' F : Nat} {xs ys lf : List Nat} (h : Appended w w' base g g' n m cap' xs ys) (hh : HeldB w0 F lf w) (hF : F ≠ g) (hg : w0.heap.size ≤ g) : HeldB w0 F lf w' :=
  ⟨(h.grown.block F hh.lt (by simpa using hF)).trans hh.blk, hh.new, hh.acc.grown h.grown hh.acc.size (fun k hk => by cases hk; exact hg), hh.byte⟩
theorem Appended.far_own {w w' : World} {base g g' n m cap' base2 q k c : Nat} {xs ys : List Nat} {zs : List Value} (h : Appended w w' base g g' n m cap' xs ys) (ho : w.ownsRow base2 5 1 (.slice (some ⟨q, 0, none⟩) k c) k zs) (hq : q ≠ g) : w'.ownsRow base2 5 1 (.slice (some ⟨q, 0, none⟩) k c) k zs :=
  ho.kept h.grown (.inr (by simpa [Value.ownBlock] using hq))
theorem Appended.new_bytes {w w' : World} {base g g' n m cap' : Nat} {xs ys : List Nat} (h : Appended w w' base g g' n m cap' xs ys) (hn : xs.length = n) (hm : ys.length = m) (hx : ∀ x ∈ xs, x < 256) (hy : ∀ x ∈ ys, x < 256) : Bytes w' (some ⟨g', 0, none⟩) (xs ++ ys) ∧ n + m ≤ cap' := by
  have hl : (xs ++ ys).length = n + m := by rw [List.length_append, hn, hm]
  have ho := h.own
  rw [← hl] at ho
  obtain ⟨A, c, hv, hc, hb⟩ := bytes_owned ho (fun x hxy => (List.mem_append.1 hxy).elim (hx x) (hy x))
  simp only [Value.slice.injEq] at hv
  obtain ⟨rfl, _, rfl⟩ := hv
  exact ⟨hb, by rw [← hl]; exact hc⟩

/-- What two rows say as strings. -/
def SB (vu vs : Value) (lu ls : List Nat) (w : World) : Prop := Says vu lu w ∧ Says vs ls w
theorem sb_of {w : World} {gu gs nu ns cu cs : Nat} {lu ls : List Nat} (hu : Bytes w (some ⟨gu, 0, none⟩) lu) (hs : Bytes w (some ⟨gs, 0, none⟩) ls) (h1 : lu.length = nu) (h2 : ls.length = ns) : SB (.slice (some ⟨gu, 0, none⟩) nu cu) (.slice (some ⟨gs, 0, none⟩) ns cs) lu ls w :=
  ⟨bytes_says hu nu cu h1, bytes_says hs ns cs h2⟩
theorem within_0 (p : Int) (k : Nat) (h : k ≤ 64) (w : World) : Calls Try.prog 14 #[.int .i64 p, .int .i64 0, .int .i64 (k : Int)] w (IntPost w) := within_some p 0 k (Nat.zero_le _) h w
theorem within_1 (p : Int) (w : World) : Calls Try.prog 14 #[.int .i64 p, .int .i64 1, .int .i64 64] w (IntPost w) := within_some p 1 64 (by decide) (by decide) w

set_option maxRecDepth 100000 in
set_option maxHeartbeats 4000000 in
theorem tells_any (n : Nat) (m : Int) (hn : n < 18446744073709551616) (hm0 : -9223372036854775808 ≤ m) (hm1 : m ≤ 9223372036854775807) (A A2 : Option Addr) (c n2 c2 : Nat) (l0 : List Nat) (p bits : Int) (hc : l0.length ≤ c) (hl63 : l0.length ≤ 9223372036854775807) (w : World) (hb0 : Bytes w A l0) :
    Calls Try.prog 4 #[.int .u64 (n : Int), .int .i64 m, .slice A l0.length c, .int .i64 p, .int .i64 bits, .slice A2 n2 c2] w (BoolPost true w) := by
  have CU := fun w => u_is n hn w
  have CV := fun w => ru_is n hn w
  have CS := fun w => s_is m hm0 hm1 w
  have CT := fun w => rs_is m hm0 hm1 w
  have lu10 := encU_len10 n hn
  have ls10 := encS_len10 m hm0 hm1
  have lub := encU_bytes n
  have lsb := encS_bytes m
  generalize encU n = lu at CU CV lu10 lub
  generalize encS m = ls at CS CT ls10 lsb
  obtain ⟨nu, hnu⟩ : ∃ nu, lu.length = nu := ⟨_, rfl⟩
  obtain ⟨ns, hns⟩ : ∃ ns, ls.length = ns := ⟨_, rfl⟩
  unfold EncIs at CU CV CS CT
  rw [hnu] at CU CV lu10
  rw [hns] at CS CT ls10
  have HU := Lib.hid CU
  have HV := Lib.hid CV
  have HS := Lib.hid CS
  have HT := Lib.hid CT
  have HNU := Lib.hid hnu
  have HNS := Lib.hid hns
  have HLU := Lib.hid lub
  have HLS := Lib.hid lsb
  clear CU CV CS CT hnu hns lub lsb hn hm0 hm1
  obtain ⟨n0, hn0⟩ : ∃ n0, l0.length = n0 := ⟨_, rfl⟩
  rw [hn0] at hc hl63 ⊢
  have HN0 := Lib.hid hn0
  have HB0 := Lib.hid hb0
  clear hn0 hb0
  go_enter Try.func4, Try.ntmps4
  go_upto_if 20 with fail
  go_cut [2] from 21 to 22 (fun s wx => ∃ (A' : Option Addr) (l : List Nat), s = .slice A' l.length c ∧ l.length ≤ 30 ∧ l.length ≤ c ∧ Bytes w A' l ∧ wx = w)
  case first =>
    by_cases h30 : n0 ≤ 30
    · have hd : decide ((30 : Int) < (n0 : Int)) = false := by simp; omega
      go_wp2
      go_meet
      exact ⟨A, l0, by rw [HN0.out], by rw [HN0.out]; exact h30, by rw [HN0.out]; exact hc, HB0.out, rfl⟩
    · obtain ⟨g, o, rfl, _, _⟩ := HB0.out.2 (by rw [HN0.out]; omega)
      have hd : decide ((30 : Int) < (n0 : Int)) = true := by simp; omega
      have hc0 : ¬ c = 0 := by omega
      go_wp2
      go_meet
      have e : (l0.take 30).length = 30 := by rw [List.length_take, HN0.out]; omega
      have hp := HB0.out.part 0 30 (by rw [HN0.out]; omega) (some ⟨g, o, none⟩) (fun g' o' _ he => by rw [he]; rfl)
      rw [List.drop_zero] at hp
      exact ⟨some ⟨g, o, none⟩, l0.take 30, by rw [e], by omega, by omega, hp, rfl⟩
  case rest =>
    obtain ⟨A', l, rfl, hk30, hkc, hb, rfl⟩ := hcut
    clear HB0 HN0 hc hl63
    have CR := roomy_any A' c l (by omega) wc hb
    have hi := fun F w hb hh => intact_any A' c F l (by omega) wc w hb hh
    unfold RoomyPost at CR
    obtain ⟨k, hk⟩ : ∃ k, l.length = k := ⟨_, rfl⟩
    obtain ⟨N, hN⟩ : ∃ N : Nat, k + 80 = N := ⟨_, rfl⟩
    rw [hk] at CR hi hk30 hkc ⊢
    rw [hN] at CR hi
    have hkN : (k : Int) ≤ (N : Int) := by omega
    have hk0 : (0 : Int) ≤ (k : Int) := Int.natCast_nonneg _
    have hkN2 : ¬ N = 0 := by omega
    have HCR := Lib.hid CR
    have HI := Lib.hid hi
    have HK := Lib.hid hk
    have HB := Lib.hid hb
    clear CR hi hk hb hN
    go_wp2_with fail
    go_at_call 13
    refine HCR.out.mono ?_
    rintro e w1 ⟨F, rfl, hh⟩
    clear HCR
    go_wp2_with fail
    go_at_call 14
    refine (within_0 _ k (by omega) _).mono ?_
    rintro e w' ⟨⟨r1, rfl⟩, rfl⟩
    go_wp2_with fail
    go_at_call 14
    refine (within_1 _ _).mono ?_
    rintro e w' ⟨⟨r2, rfl⟩, rfl⟩
    go_wp2_with fail
    go_at_call 8
    refine (HV.out _).mono ?_
    rintro e w2 ⟨gu, cu, rfl, un, _, hu, hgu, hgu2, hb⟩
    have hF1 := hh.lt
    have hwF := hh.acc.size
    replace hh := hh.next hb
    clear hb HV
    go_wp2_with fail
    go_at_call 10
    refine (HT.out _).mono ?_
    rintro e w3 ⟨gs, cs, rfl, sn, _, hs, hgs, hgs2, hb⟩
    replace hh := hh.next hb
    replace hu := hu.below hb
    replace un := owns_below un hb
    clear hb HT
    go_upto_region 7 with fail
    have hFu : F ≠ gu := by omega
    have hFs : F ≠ gs := by omega
    have hus : gu ≠ gs := by omega
    have hwu : wc.heap.size ≤ gu := by omega
    have hws : wc.heap.size ≤ gs := by omega
    have hbu : w1.heap.size ≤ w3.heap.size := by omega
    have hbs : w2.heap.size ≤ w3.heap.size := by omega
    generalize w1.heap.size = B1 at un hbu
    generalize w2.heap.size = B2 at sn hbs
    clear hF1 hwF hgu hgu2 hgs hgs2
    refine wp_region_held_drew (S := SB (.slice (some ⟨gu, 0, none⟩) nu cu) (.slice (some ⟨gs, 0, none⟩) ns cs) lu ls) (by kernel_rfl) (sb_of (w := w3.drew) hu hs HNU.out HNS.out) (fun hS => ?_)
    replace hh : HeldB wc F (fillL l 80) w3.drew := ⟨hh.blk, hh.new, hh.acc.drew, hh.byte⟩
    replace hu : Bytes w3.drew (some ⟨gu, 0, none⟩) lu := hu
    replace hs : Bytes w3.drew (some ⟨gs, 0, none⟩) ls := hs
    replace un : w3.drew.ownsRow B1 5 1 (.slice (some ⟨gu, 0, none⟩) nu cu) nu (lu.map byt) := un
    replace sn : w3.drew.ownsRow B2 5 1 (.slice (some ⟨gs, 0, none⟩) ns cs) ns (ls.map byt) := sn
    replace hbu : B1 ≤ w3.drew.heap.size := hbu
    replace hbs : B2 ≤ w3.drew.heap.size := hbs
    generalize w3.drew = W at hh hu hs un sn hS hbu hbs ⊢
    show wpAnyH _ _ _ _ _ 52 #[false, false, false, false, false, false, false, false, false, false, false, false, false, false, false, false, false, false, false, false, false, false, false, false, false, false, false, false, false, false, false, false, false, false, false, false, false, false, false, false, false, false, false, false, false, false, false, false, false, false, false, false] _ _
    refine wpAnyH_take (i := 0) (oi := ⟨some 35, _, _, _, _, _⟩) (v := ?_) rfl (by kernel_rfl) (by kernel_rfl) (by kernel_rfl) (fun _ _ _ h => h) (Or.inl ⟨by rfl, ?_⟩) hS ?_
    rotate_left
    · intro w' hSw; go_simp; try with_reducible rfl
    try simp only [Act.put, List.setIfInBounds_toArray, List.set]
    refine wpAnyH_take (i := 3) (oi := ⟨some 38, _, _, _, _, _⟩) (v := ?_) rfl (by kernel_rfl) (by kernel_rfl) (by kernel_rfl) (fun _ _ _ h => h) (Or.inl ⟨by rfl, ?_⟩) hS ?_
    rotate_left
    · intro w' hSw; go_simp; try with_reducible rfl
    try simp only [Act.put, List.setIfInBounds_toArray, List.set]
    refine wpAnyH_take (i := 4) (oi := ⟨some 39, _, _, _, _, _⟩) (v := ?_) rfl (by kernel_rfl) (by kernel_rfl) (by kernel_rfl) (fun _ _ _ h => h) (Or.inl ⟨by rfl, ?_⟩) hS ?_
    rotate_left
    · intro w' hSw; have hx := hSw.1; go_simp; try with_reducible rfl
    try simp only [Act.put, List.setIfInBounds_toArray, List.set]
    refine wpAnyH_ready (rs := [1]) (by kernel_rfl) (by simp) ?_
    refine AllReadyH.cons (o := ⟨some 36, _, _, _, _, _⟩) rfl (fun K hK => ?_) AllReadyH.nil
    go_simp
    refine (HU.out _).mono ?_
    rintro e w' ⟨g1, c1, rfl, _, _, hby, _, _, hb⟩
    have hx := bytes_says hby _ c1 HNU.out
    clear hby
    replace hh := hh.next hb
    replace hu := hu.below hb
    replace hs := hs.below hb
    replace un := owns_below un hb
    replace hbu := Nat.le_trans hbu hb.size
    replace sn := owns_below sn hb
    replace hbs := Nat.le_trans hbs hb.size
    clear hb
    go_wp2_with fail
    refine hK.out _ _ (sb_of hu hs HNU.out HNS.out) (fun hS' => ?_)
    clear hK K
    clear hS
    have hS := hS'
    clear hS'
    try simp only [Act.put, List.setIfInBounds_toArray, List.set]
    refine wpAnyH_ready (rs := [2]) (by kernel_rfl) (by simp) ?_
    refine AllReadyH.cons (o := ⟨some 37, _, _, _, _, _⟩) rfl (fun K hK => ?_) AllReadyH.nil
    go_simp
    refine hK.out _ _ hS (fun hS' => ?_)
    clear hK K
    clear hS
    have hS := hS'
    clear hS'
    try simp only [Act.put, List.setIfInBounds_toArray, List.set]
    clear hx
    refine wpAnyH_take (i := 5) (oi := ⟨some 40, _, _, _, _, _⟩) (v := ?_) rfl (by kernel_rfl) (by kernel_rfl) (by kernel_rfl) (fun _ _ _ h => h) (Or.inl ⟨by rfl, ?_⟩) hS ?_
    rotate_left
    · intro w' hSw; go_simp; try with_reducible rfl
    try simp only [Act.put, List.setIfInBounds_toArray, List.set]
    refine wpAnyH_take (i := 6) (oi := ⟨some 41, _, _, _, _, _⟩) (v := ?_) rfl (by kernel_rfl) (by kernel_rfl) (by kernel_rfl) (fun _ _ _ h => h) (Or.inl ⟨by rfl, ?_⟩) hS ?_
    rotate_left
    · intro w' hSw; go_simp; try with_reducible rfl
    try simp only [Act.put, List.setIfInBounds_toArray, List.set]
    refine wpAnyH_take (i := 7) (oi := ⟨some 42, _, _, _, _, _⟩) (v := ?_) rfl (by kernel_rfl) (by kernel_rfl) (by kernel_rfl) (fun _ _ _ h => h) (Or.inl ⟨by rfl, ?_⟩) hS ?_
    rotate_left
    · intro w' hSw; go_simp; try with_reducible rfl
    try simp only [Act.put, List.setIfInBounds_toArray, List.set]
    refine wpAnyH_take (i := 10) (oi := ⟨some 45, _, _, _, _, _⟩) (v := ?_) rfl (by kernel_rfl) (by kernel_rfl) (by kernel_rfl) (fun _ _ _ h => h) (Or.inl ⟨by rfl, ?_⟩) hS ?_
    rotate_left
    · intro w' hSw; go_simp; try with_reducible rfl
    try simp only [Act.put, List.setIfInBounds_toArray, List.set]
    refine wpAnyH_take (i := 11) (oi := ⟨some 46, _, _, _, _, _⟩) (v := ?_) rfl (by kernel_rfl) (by kernel_rfl) (by kernel_rfl) (fun _ _ _ h => h) (Or.inl ⟨by rfl, ?_⟩) hS ?_
    rotate_left
    · intro w' hSw; have hx := hSw.2; go_simp; try with_reducible rfl
    try simp only [Act.put, List.setIfInBounds_toArray, List.set]
    refine wpAnyH_ready (rs := [8]) (by kernel_rfl) (by simp) ?_
    refine AllReadyH.cons (o := ⟨some 43, _, _, _, _, _⟩) rfl (fun K hK => ?_) AllReadyH.nil
    go_simp
    refine (HS.out _).mono ?_
    rintro e w' ⟨g1, c1, rfl, _, _, hby, _, _, hb⟩
    have hx := bytes_says hby _ c1 HNS.out
    clear hby
    replace hh := hh.next hb
    replace hu := hu.below hb
    replace hs := hs.below hb
    replace un := owns_below un hb
    replace hbu := Nat.le_trans hbu hb.size
    replace sn := owns_below sn hb
    replace hbs := Nat.le_trans hbs hb.size
    clear hb
    go_wp2_with fail
    refine hK.out _ _ (sb_of hu hs HNU.out HNS.out) (fun hS' => ?_)
    clear hK K
    clear hS
    have hS := hS'
    clear hS'
    try simp only [Act.put, List.setIfInBounds_toArray, List.set]
    refine wpAnyH_ready (rs := [9]) (by kernel_rfl) (by simp) ?_
    refine AllReadyH.cons (o := ⟨some 44, _, _, _, _, _⟩) rfl (fun K hK => ?_) AllReadyH.nil
    go_simp
    refine hK.out _ _ hS (fun hS' => ?_)
    clear hK K
    clear hS
    have hS := hS'
    clear hS'
    try simp only [Act.put, List.setIfInBounds_toArray, List.set]
    clear hx
    refine wpAnyH_take (i := 12) (oi := ⟨some 47, _, _, _, _, _⟩) (v := ?_) rfl (by kernel_rfl) (by kernel_rfl) (by kernel_rfl) (fun _ _ _ h => h) (Or.inl ⟨by rfl, ?_⟩) hS ?_
    rotate_left
    · intro w' hSw; go_simp; try with_reducible rfl
    try simp only [Act.put, List.setIfInBounds_toArray, List.set]
    refine wpAnyH_take (i := 13) (oi := ⟨some 48, _, _, _, _, _⟩) (v := ?_) rfl (by kernel_rfl) (by kernel_rfl) (by kernel_rfl) (fun _ _ _ h => h) (Or.inl ⟨by rfl, ?_⟩) hS ?_
    rotate_left
    · intro w' hSw; go_simp; try with_reducible rfl
    try simp only [Act.put, List.setIfInBounds_toArray, List.set]
    refine wpAnyH_take (i := 14) (oi := ⟨some 49, _, _, _, _, _⟩) (v := ?_) rfl (by kernel_rfl) (by kernel_rfl) (by kernel_rfl) (fun _ _ _ h => h) (Or.inl ⟨by rfl, ?_⟩) hS ?_
    rotate_left
    · intro w' hSw; go_simp; try with_reducible rfl
    try simp only [Act.put, List.setIfInBounds_toArray, List.set]
    refine wpAnyH_take (i := 15) (oi := ⟨some 50, _, _, _, _, _⟩) (v := ?_) rfl (by kernel_rfl) (by kernel_rfl) (by kernel_rfl) (fun _ _ _ h => h) (Or.inl ⟨by rfl, ?_⟩) hS ?_
    rotate_left
    · intro w' hSw; go_simp; try with_reducible rfl
    try simp only [Act.put, List.setIfInBounds_toArray, List.set]
    refine wpAnyH_take (i := 16) (oi := ⟨some 51, _, _, _, _, _⟩) (v := ?_) rfl (by kernel_rfl) (by kernel_rfl) (by kernel_rfl) (fun _ _ _ h => h) (Or.inl ⟨by rfl, ?_⟩) hS ?_
    rotate_left
    · intro w' hSw; go_simp; try with_reducible rfl
    try simp only [Act.put, List.setIfInBounds_toArray, List.set]
    refine wpAnyH_take (i := 17) (oi := ⟨some 52, _, _, _, _, _⟩) (v := ?_) rfl (by kernel_rfl) (by kernel_rfl) (by kernel_rfl) (fun _ _ _ h => h) (Or.inl ⟨by rfl, ?_⟩) hS ?_
    rotate_left
    · intro w' hSw; go_simp; try with_reducible rfl
    try simp only [Act.put, List.setIfInBounds_toArray, List.set]
    refine wpAnyH_take (i := 18) (oi := ⟨some 53, _, _, _, _, _⟩) (v := ?_) rfl (by kernel_rfl) (by kernel_rfl) (by kernel_rfl) (fun _ _ _ h => h) (Or.inl ⟨by rfl, ?_⟩) hS ?_
    rotate_left
    · intro w' hSw; go_simp; try with_reducible rfl
    try simp only [Act.put, List.setIfInBounds_toArray, List.set]
    refine wpAnyH_take (i := 19) (oi := ⟨some 54, _, _, _, _, _⟩) (v := ?_) rfl (by kernel_rfl) (by kernel_rfl) (by kernel_rfl) (fun _ _ _ h => h) (Or.inl ⟨by rfl, ?_⟩) hS ?_
    rotate_left
    · intro w' hSw; go_simp; try with_reducible rfl
    try simp only [Act.put, List.setIfInBounds_toArray, List.set]
    refine wpAnyH_take (i := 20) (oi := ⟨some 55, _, _, _, _, _⟩) (v := ?_) rfl (by kernel_rfl) (by kernel_rfl) (by kernel_rfl) (fun _ _ _ h => h) (Or.inl ⟨by rfl, ?_⟩) hS ?_
    rotate_left
    · intro w' hSw; go_simp; try with_reducible rfl
    try simp only [Act.put, List.setIfInBounds_toArray, List.set]
    have hp := hh.bytes.part 0 k (by rw [fillL_len l 80 (Nat.le_refl _), HK.out]; omega) (some ⟨F, 0, none⟩) (fun g o _ he => by rw [he]; rfl)
    rw [List.drop_zero, ← HK.out, fillL_take] at hp
    refine wpAnyH_ready (rs := [21]) (by kernel_rfl) (by simp) ?_
    refine AllReadyH.cons (o := ⟨some 56, _, _, _, _, _⟩) rfl (fun K hK => ?_) AllReadyH.nil
    go_simp
    refine (reads_any (some ⟨F, 0, none⟩) k N l HK.out (by omega) (by omega) _ _ _ hp).mono ?_
    rintro e w' ⟨rfl, hb⟩
    clear hp
    replace hh := hh.next hb
    replace hu := hu.below hb
    replace hs := hs.below hb
    replace un := owns_below un hb
    replace hbu := Nat.le_trans hbu hb.size
    replace sn := owns_below sn hb
    replace hbs := Nat.le_trans hbs hb.size
    clear hb
    go_wp2_with fail
    refine hK.out _ _ (sb_of hu hs HNU.out HNS.out) (fun hS' => ?_)
    clear hK K
    clear hS
    have hS := hS'
    clear hS'
    try simp only [Act.put, List.setIfInBounds_toArray, List.set]
    refine wpAnyH_take (i := 22) (oi := ⟨some 57, _, _, _, _, _⟩) (v := ?_) rfl (by kernel_rfl) (by kernel_rfl) (by kernel_rfl) (fun _ _ _ h => h) (Or.inl ⟨by rfl, ?_⟩) hS ?_
    rotate_left
    · intro w' hSw; go_simp; try with_reducible rfl
    try simp only [Act.put, List.setIfInBounds_toArray, List.set]
    refine wpAnyH_take (i := 23) (oi := ⟨some 58, _, _, _, _, _⟩) (v := ?_) rfl (by kernel_rfl) (by kernel_rfl) (by kernel_rfl) (fun _ _ _ h => h) (Or.inl ⟨by rfl, ?_⟩) hS ?_
    rotate_left
    · intro w' hSw; go_simp; try with_reducible rfl
    try simp only [Act.put, List.setIfInBounds_toArray, List.set]
    refine wpAnyH_take (i := 24) (oi := ⟨some 59, _, _, _, _, _⟩) (v := ?_) rfl (by kernel_rfl) (by kernel_rfl) (by kernel_rfl) (fun _ _ _ h => h) (Or.inl ⟨by rfl, ?_⟩) hS ?_
    rotate_left
    · intro w' hSw; go_simp; try with_reducible rfl
    try simp only [Act.put, List.setIfInBounds_toArray, List.set]
    refine wpAnyH_take (i := 25) (oi := ⟨some 60, _, _, _, _, _⟩) (v := ?_) rfl (by kernel_rfl) (by kernel_rfl) (by kernel_rfl) (fun _ _ _ h => h) (Or.inl ⟨by rfl, ?_⟩) hS ?_
    rotate_left
    · intro w' hSw; go_simp; try with_reducible rfl
    try simp only [Act.put, List.setIfInBounds_toArray, List.set]
    refine wpAnyH_take (i := 26) (oi := ⟨some 61, _, _, _, _, _⟩) (v := ?_) rfl (by kernel_rfl) (by kernel_rfl) (by kernel_rfl) (fun _ _ _ h => h) (Or.inl ⟨by rfl, ?_⟩) hS ?_
    rotate_left
    · intro w' hSw; go_simp; try with_reducible rfl
    try simp only [Act.put, List.setIfInBounds_toArray, List.set]
    refine wpAnyH_ready (rs := [27]) (by kernel_rfl) (by simp) ?_
    refine AllReadyH.cons (o := ⟨some 62, _, _, _, _, _⟩) rfl (fun K hK => ?_) AllReadyH.nil
    go_simp
    refine (reads_any A' k c l HK.out hkc (by omega) _ _ _ (HB.out.below hh.acc)).mono ?_
    rintro e w' ⟨rfl, hb⟩
    replace hh := hh.next hb
    replace hu := hu.below hb
    replace hs := hs.below hb
    replace un := owns_below un hb
    replace hbu := Nat.le_trans hbu hb.size
    replace sn := owns_below sn hb
    replace hbs := Nat.le_trans hbs hb.size
    clear hb
    go_wp2_with fail
    refine hK.out _ _ (sb_of hu hs HNU.out HNS.out) (fun hS' => ?_)
    clear hK K
    clear hS
    have hS := hS'
    clear hS'
    try simp only [Act.put, List.setIfInBounds_toArray, List.set]
    refine wpAnyH_take (i := 28) (oi := ⟨some 63, _, _, _, _, _⟩) (v := ?_) rfl (by kernel_rfl) (by kernel_rfl) (by kernel_rfl) (fun _ _ _ h => h) (Or.inl ⟨by rfl, ?_⟩) hS ?_
    rotate_left
    · intro w' hSw; go_simp; try with_reducible rfl
    try simp only [Act.put, List.setIfInBounds_toArray, List.set]
    refine wpAnyH_take (i := 29) (oi := ⟨some 64, _, _, _, _, _⟩) (v := ?_) rfl (by kernel_rfl) (by kernel_rfl) (by kernel_rfl) (fun _ _ _ h => h) (Or.inl ⟨by rfl, ?_⟩) hS ?_
    rotate_left
    · intro w' hSw; go_simp; try with_reducible rfl
    try simp only [Act.put, List.setIfInBounds_toArray, List.set]
    refine wpAnyH_take (i := 30) (oi := ⟨some 65, _, _, _, _, _⟩) (v := ?_) rfl (by kernel_rfl) (by kernel_rfl) (by kernel_rfl) (fun _ _ _ h => h) (Or.inl ⟨by rfl, ?_⟩) hS ?_
    rotate_left
    · intro w' hSw; go_simp; try with_reducible rfl
    try simp only [Act.put, List.setIfInBounds_toArray, List.set]
    refine wpAnyH_take (i := 31) (oi := ⟨some 66, _, _, _, _, _⟩) (v := ?_) rfl (by kernel_rfl) (by kernel_rfl) (by kernel_rfl) (fun _ _ _ h => h) (Or.inl ⟨by rfl, ?_⟩) hS ?_
    rotate_left
    · intro w' hSw; go_simp; try with_reducible rfl
    try simp only [Act.put, List.setIfInBounds_toArray, List.set]
    refine wpAnyH_take (i := 33) (oi := ⟨some 68, _, _, _, _, _⟩) (v := ?_) rfl (by kernel_rfl) (by kernel_rfl) (by kernel_rfl) (fun _ _ _ h => h) (Or.inl ⟨by rfl, ?_⟩) hS ?_
    rotate_left
    · intro w' hSw; go_simp; try with_reducible rfl
    try simp only [Act.put, List.setIfInBounds_toArray, List.set]
    refine wpAnyH_ready (rs := [32]) (by kernel_rfl) (by simp) ?_
    refine AllReadyH.cons (o := ⟨some 67, _, _, _, _, _⟩) rfl (fun K hK => ?_) AllReadyH.nil
    rw [if_pos (by rfl)]
    refine wp_append_bytes (.tmp 65) (.tmp 66) (by rfl) B1 gu nu cu lu (by rfl) un A' k c l (by rfl) HK.out (HB.out.below hh.acc) (by omega) hbu ?_
    intro g' cap' w' ha
    obtain ⟨hp, hcap⟩ := ha.new_bytes HNU.out HK.out HLU.out HB.out.1
    replace hh := ha.far_held hh hFu hwu
    replace hu := ha.old_bytes hu HNU.out
    replace hs := ha.far_bytes hs (Ne.symm hus)
    replace sn := ha.far_own sn (Ne.symm hus)
    replace hbs := Nat.le_trans hbs ha.grown.size
    clear ha un hbu
    refine hK.out _ _ (sb_of hu hs HNU.out HNS.out) (fun hS' => ?_)
    clear hK K
    clear hS
    have hS := hS'
    clear hS'
    try simp only [Act.put, List.setIfInBounds_toArray, List.set]
    refine wpAnyH_ready (rs := [34]) (by kernel_rfl) (by simp) ?_
    refine AllReadyH.cons (o := ⟨some 69, _, _, _, _, _⟩) rfl (fun K hK => ?_) AllReadyH.nil
    go_simp
    refine (reads_any (some ⟨g', 0, none⟩) (nu + k) cap' (lu ++ l) (by rw [List.length_append, HNU.out, HK.out]) hcap (by omega) _ _ _ hp).mono ?_
    rintro e w' ⟨rfl, hb⟩
    clear hp hcap
    replace hh := hh.next hb
    replace hu := hu.below hb
    replace hs := hs.below hb
    replace sn := owns_below sn hb
    replace hbs := Nat.le_trans hbs hb.size
    clear hb
    go_wp2_with fail
    refine hK.out _ _ (sb_of hu hs HNU.out HNS.out) (fun hS' => ?_)
    clear hK K
    clear hS
    have hS := hS'
    clear hS'
    try simp only [Act.put, List.setIfInBounds_toArray, List.set]
    refine wpAnyH_take (i := 35) (oi := ⟨some 70, _, _, _, _, _⟩) (v := ?_) rfl (by kernel_rfl) (by kernel_rfl) (by kernel_rfl) (fun _ _ _ h => h) (Or.inl ⟨by rfl, ?_⟩) hS ?_
    rotate_left
    · intro w' hSw; go_simp; try with_reducible rfl
    try simp only [Act.put, List.setIfInBounds_toArray, List.set]
    refine wpAnyH_take (i := 36) (oi := ⟨some 71, _, _, _, _, _⟩) (v := ?_) rfl (by kernel_rfl) (by kernel_rfl) (by kernel_rfl) (fun _ _ _ h => h) (Or.inl ⟨by rfl, ?_⟩) hS ?_
    rotate_left
    · intro w' hSw; go_simp; try with_reducible rfl
    try simp only [Act.put, List.setIfInBounds_toArray, List.set]
    refine wpAnyH_take (i := 37) (oi := ⟨some 72, _, _, _, _, _⟩) (v := ?_) rfl (by kernel_rfl) (by kernel_rfl) (by kernel_rfl) (fun _ _ _ h => h) (Or.inl ⟨by rfl, ?_⟩) hS ?_
    rotate_left
    · intro w' hSw; go_simp; try with_reducible rfl
    try simp only [Act.put, List.setIfInBounds_toArray, List.set]
    refine wpAnyH_take (i := 38) (oi := ⟨some 73, _, _, _, _, _⟩) (v := ?_) rfl (by kernel_rfl) (by kernel_rfl) (by kernel_rfl) (fun _ _ _ h => h) (Or.inl ⟨by rfl, ?_⟩) hS ?_
    rotate_left
    · intro w' hSw; go_simp; try with_reducible rfl
    try simp only [Act.put, List.setIfInBounds_toArray, List.set]
    refine wpAnyH_take (i := 40) (oi := ⟨some 75, _, _, _, _, _⟩) (v := ?_) rfl (by kernel_rfl) (by kernel_rfl) (by kernel_rfl) (fun _ _ _ h => h) (Or.inl ⟨by rfl, ?_⟩) hS ?_
    rotate_left
    · intro w' hSw; go_simp; try with_reducible rfl
    try simp only [Act.put, List.setIfInBounds_toArray, List.set]
    refine wpAnyH_ready (rs := [39]) (by kernel_rfl) (by simp) ?_
    refine AllReadyH.cons (o := ⟨some 74, _, _, _, _, _⟩) rfl (fun K hK => ?_) AllReadyH.nil
    rw [if_pos (by rfl)]
    refine wp_append_bytes (.tmp 72) (.tmp 73) (by rfl) B2 gs ns cs ls (by rfl) sn A' k c l (by rfl) HK.out (HB.out.below hh.acc) (by omega) hbs ?_
    intro g' cap' w' ha
    obtain ⟨hp, hcap⟩ := ha.new_bytes HNS.out HK.out HLS.out HB.out.1
    replace hh := ha.far_held hh hFs hws
    replace hs := ha.old_bytes hs HNS.out
    replace hu := ha.far_bytes hu hus
    clear ha sn hbs
    refine hK.out _ _ (sb_of hu hs HNU.out HNS.out) (fun hS' => ?_)
    clear hK K
    clear hS
    have hS := hS'
    clear hS'
    try simp only [Act.put, List.setIfInBounds_toArray, List.set]
    refine wpAnyH_ready (rs := [41]) (by kernel_rfl) (by simp) ?_
    refine AllReadyH.cons (o := ⟨some 76, _, _, _, _, _⟩) rfl (fun K hK => ?_) AllReadyH.nil
    go_simp
    refine (reads_any (some ⟨g', 0, none⟩) (ns + k) cap' (ls ++ l) (by rw [List.length_append, HNS.out, HK.out]) hcap (by omega) _ _ _ hp).mono ?_
    rintro e w' ⟨rfl, hb⟩
    clear hp hcap
    replace hh := hh.next hb
    replace hu := hu.below hb
    replace hs := hs.below hb
    clear hb
    go_wp2_with fail
    refine hK.out _ _ (sb_of hu hs HNU.out HNS.out) (fun hS' => ?_)
    clear hK K
    clear hS
    have hS := hS'
    clear hS'
    try simp only [Act.put, List.setIfInBounds_toArray, List.set]
    refine wpAnyH_take (i := 42) (oi := ⟨some 77, _, _, _, _, _⟩) (v := ?_) rfl (by kernel_rfl) (by kernel_rfl) (by kernel_rfl) (fun _ _ _ h => h) (Or.inl ⟨by rfl, ?_⟩) hS ?_
    rotate_left
    · intro w' hSw; go_simp; try with_reducible rfl
    try simp only [Act.put, List.setIfInBounds_toArray, List.set]
    refine wpAnyH_take (i := 43) (oi := ⟨some 78, _, _, _, _, _⟩) (v := ?_) rfl (by kernel_rfl) (by kernel_rfl) (by kernel_rfl) (fun _ _ _ h => h) (Or.inl ⟨by rfl, ?_⟩) hS ?_
    rotate_left
    · intro w' hSw; go_simp; try with_reducible rfl
    try simp only [Act.put, List.setIfInBounds_toArray, List.set]
    refine wpAnyH_take (i := 44) (oi := ⟨some 79, _, _, _, _, _⟩) (v := ?_) rfl (by kernel_rfl) (by kernel_rfl) (by kernel_rfl) (fun _ _ _ h => h) (Or.inl ⟨by rfl, ?_⟩) hS ?_
    rotate_left
    · intro w' hSw; go_simp; try with_reducible rfl
    try simp only [Act.put, List.setIfInBounds_toArray, List.set]
    refine wpAnyH_take (i := 45) (oi := ⟨some 80, _, _, _, _, _⟩) (v := ?_) rfl (by kernel_rfl) (by kernel_rfl) (by kernel_rfl) (fun _ _ _ h => h) (Or.inl ⟨by rfl, ?_⟩) hS ?_
    rotate_left
    · intro w' hSw; go_simp; try with_reducible rfl
    try simp only [Act.put, List.setIfInBounds_toArray, List.set]
    refine wpAnyH_ready (rs := [46]) (by kernel_rfl) (by simp) ?_
    refine AllReadyH.cons (o := ⟨some 81, _, _, _, _, _⟩) rfl (fun K hK => ?_) AllReadyH.nil
    go_simp
    refine (HI.out F _ (HB.out.below hh.acc) hh).mono ?_
    rintro e w' ⟨rfl, hb⟩
    replace hh := hh.next hb
    replace hu := hu.below hb
    replace hs := hs.below hb
    clear hb
    go_wp2_with fail
    refine hK.out _ _ (sb_of hu hs HNU.out HNS.out) (fun hS' => ?_)
    clear hK K
    clear hS
    have hS := hS'
    clear hS'
    try simp only [Act.put, List.setIfInBounds_toArray, List.set]
    refine wpAnyH_take (i := 47) (oi := ⟨some 82, _, _, _, _, _⟩) (v := ?_) rfl (by kernel_rfl) (by kernel_rfl) (by kernel_rfl) (fun _ _ _ h => h) (Or.inl ⟨by rfl, ?_⟩) hS ?_
    rotate_left
    · intro w' hSw; go_simp; try with_reducible rfl
    try simp only [Act.put, List.setIfInBounds_toArray, List.set]
    refine wpAnyH_take (i := 48) (oi := ⟨some 83, _, _, _, _, _⟩) (v := ?_) rfl (by kernel_rfl) (by kernel_rfl) (by kernel_rfl) (fun _ _ _ h => h) (Or.inl ⟨by rfl, ?_⟩) hS ?_
    rotate_left
    · intro w' hSw; go_simp; try with_reducible rfl
    try simp only [Act.put, List.setIfInBounds_toArray, List.set]
    refine wpAnyH_ready (rs := [49]) (by kernel_rfl) (by simp) ?_
    refine AllReadyH.cons (o := ⟨some 84, _, _, _, _, _⟩) rfl (fun K hK => ?_) AllReadyH.nil
    go_simp
    refine (known_any _).mono ?_
    rintro e w' ⟨rfl, hb⟩
    replace hh := hh.next hb
    replace hu := hu.below hb
    replace hs := hs.below hb
    clear hb
    go_wp2_with fail
    refine hK.out _ _ (sb_of hu hs HNU.out HNS.out) (fun hS' => ?_)
    clear hK K
    clear hS
    have hS := hS'
    clear hS'
    try simp only [Act.put, List.setIfInBounds_toArray, List.set]
    refine wpAnyH_take (i := 50) (oi := ⟨some 85, _, _, _, _, _⟩) (v := ?_) rfl (by kernel_rfl) (by kernel_rfl) (by kernel_rfl) (fun _ _ _ h => h) (Or.inl ⟨by rfl, ?_⟩) hS ?_
    rotate_left
    · intro w' hSw; go_simp; try with_reducible rfl
    try simp only [Act.put, List.setIfInBounds_toArray, List.set]
    refine wpAnyH_take (i := 51) (oi := ⟨some 12, _, _, _, _, _⟩) (v := ?_) rfl (by kernel_rfl) (by kernel_rfl) (by kernel_rfl) (fun _ _ _ h => h) (Or.inl ⟨by rfl, ?_⟩) hS ?_
    rotate_left
    · intro w' hSw; go_simp; try with_reducible rfl
    try simp only [Act.put, List.setIfInBounds_toArray, List.set]
    refine wpAnyH_done (by kernel_rfl) ?_ _
    go_wp2
    go_ret
    exact ⟨rfl, hh.acc⟩
end Go.Proofs.Ytebnlblkjdopaaa
