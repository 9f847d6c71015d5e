/-
  The statement that memories are copied: its walk.
-/
import Derived.Test.YtljhdibnnaepdaaPgg
import Derived.StillTailTactics
import Derived.Deep.RegionHeld3
namespace Go.Proofs.Ytljhdibnnaepdaa
open Go.RowKit
variable {p B : Nat} {l : List Nat} {mx : Nat} {w w' : World}

def fullL (ys : List Nat) : List Nat := ys ++ List.replicate (2048 - ys.length) 0
theorem fullL_len (ys : List Nat) (h : ys.length ≤ 2048) : (fullL ys).length = 2048 := by simp [fullL]; omega
theorem fullL_of (ys : List Nat) : splice (List.replicate (1024 * 2) 0) 0 ys = fullL ys := by
  unfold splice fullL
  rw [List.take_zero, List.nil_append, Nat.zero_add, List.drop_replicate]
theorem pg_put2 (hg : Pg 52 p B (List.replicate (1024 * 2) 0) mx w) (A : Option Addr) (ys : List Nat) (c n : Nat) (hn : ys.length = n) (hb : Bytes w A ys) (h : n ≤ 2048) :
    Calls Try.prog 11 #[.pointer (some ⟨p, 0, none⟩), .int .u64 0, .slice A n c] w (Wrote 52 p B (.bool true) (fullL ys) mx w) := by
  subst hn
  have h2 := put_yes hg 0 A ys c hb (by rw [List.length_replicate]; omega)
  rw [fullL_of ys] at h2
  exact h2

theorem u64_mod (x m : Nat) : Value.int .u64 ((x : Int) % (m : Int)) = .int .u64 ((x % m : Nat) : Int) := by rw [Int.natCast_emod]
theorem u64_left (z x : Nat) (h : x < 2048) : Value.int .u64 ((z : Int) % (2049 - (x : Int))) = .int .u64 ((z % (2049 - x) : Nat) : Int) := by
  have e : (2049 : Int) - (x : Int) = ((2049 - x : Nat) : Int) := by omega
  rw [e, Int.natCast_emod]
theorem splice_same (l ys : List Nat) (r : List Value) (q : Nat) (h : q + ys.length ≤ l.length) : splice (l.map byt ++ r) q (ys.map byt) = (splice l q ys).map byt ++ r := splice_byte l r q ys h
set_option maxHeartbeats 2000000 in
set_option maxRecDepth 10000 in
theorem pcopies_walk (A0 : Option Addr) (l1 : List Nat) (n0 c0 : Nat) (hn0 : l1.length = n0) (hc0 : n0 ≤ c0) (hm0 : n0 ≤ 9223372036854775807) (x y z : Nat) (w : World) (hb : Bytes w A0 l1) :
    Calls Try.prog 5 #[.slice A0 n0 c0, .int .u64 (x : Int), .int .u64 (y : Int), .int .u64 (z : Int)] w (BoolPost true w) := by
  have HB := Lib.hid hb
  have HN0 := Lib.hid hn0
  clear hb hn0
  go_enter Try.func5, Try.ntmps5
  go_wp2_with fail
  go_at_call 10
  refine (show Calls Try.prog 10 #[.int .i64 2, .int .i64 2] w (NewYes 52 2 2 w) from new_yes 2 2 (by decide) (by decide) w).mono ?_
  rintro e w1 ⟨p, B, rfl, hp, hB, hg, hw⟩
  have HP := Lib.hid hp
  have HBB := Lib.hid hB
  have G := Lib.hid hg
  have HW := Lib.hid hw
  clear hp hB hg hw
  go_upto_if 20 with fail
  go_cut [0] from 18 to 22 (fun v wx => ∃ (A : Option Addr) (ys : List Nat) (k c : Nat), v = .slice A k c ∧ Hid (ys.length = k) ∧ k ≤ 2048 ∧ k ≤ c ∧ Hid (Bytes w A ys) ∧ wx = w1)
  case first =>
    by_cases h60 : n0 ≤ 2048
    · have hd : decide ((2048 : Int) < (n0 : Int)) = false := by simp; omega
      go_wp2
      go_meet
      exact ⟨A0, l1, n0, c0, rfl, HN0, h60, hc0, HB, rfl⟩
    · have hd : decide ((2048 : Int) < (n0 : Int)) = true := by simp; omega
      obtain ⟨g, o, rfl, _, _⟩ := HB.out.2 (by have := HN0.out; omega)
      have hpart := HB.out.part 0 2048 (by rw [HN0.out]; omega) (some ⟨g, o, none⟩) (fun g' o' _ e => by simpa using e)
      rw [List.drop_zero] at hpart
      have HPT := Lib.hid hpart
      clear hpart
      go_wp2
      go_meet
      refine ⟨_, l1.take 2048, 2048, _, rfl, ?_, Nat.le_refl _, ?_, HPT, rfl⟩
      · show _ = _; rw [List.length_take, HN0.out]; omega
      · omega
  case rest =>
    obtain ⟨A, ys, k, c, rfl, HK, hk, hkc, HY, rfl⟩ := hcut
    obtain ⟨w2, rfl⟩ : ∃ w2 : World, w2 = wc := ⟨_, rfl⟩
    clear HB HN0 hc0 hm0
    go_wp2_with fail
    go_at_call 11
    refine (pg_put2 G.out A ys c k HK.out (HY.out.below HW.out) hk).mono ?_
    rintro e w3 ⟨rfl, hb, hg⟩
    have HW3 := Lib.hid (own_step HW.out hb (by intro k hk; simp at hk; subst hk; exact HBB.out))
    have hl := fullL_len ys (by rw [HK.out]; exact hk)
    obtain ⟨l, hl0⟩ : ∃ l, fullL ys = l := ⟨_, rfl⟩
    rw [hl0] at hg hl
    have G3 := Lib.hid hg
    have HL := Lib.hid hl
    clear hb hg hl hl0 G HW HK HY
    go_wp2_with fail
    go_at_call 12
    refine (bytes_out G3.out).mono ?_
    rintro e w4 ⟨F, rfl, hF, hFb, hb⟩
    rw [HL.out]
    have G4 := Lib.hid (G3.out.next (but_of hb []) (by simp) (by simp))
    have HW4 := Lib.hid (below_then HW3.out hb)
    have HF := Lib.hid (Nat.le_trans HW3.out.size hF)
    have hFB : F ≠ B := by have := G3.out.ltB; omega
    have hFp : F ≠ p := by have := G3.out.ltP; omega
    have HFB := Lib.hid hFb
    have HNE := Lib.hid hFB
    clear hb hF hFb hFB hFp G3 HW3
    go_upto_region 9 with fail
    go_cut [11, 12, 13] from 28 to 37 (fun a b d wx => ∃ t s k2 : Nat, a = .int .u64 (t : Int) ∧ b = .int .u64 (s : Int) ∧ d = .int .u64 (k2 : Int) ∧ t < 2048 ∧ s < 2048 ∧ t + k2 ≤ 2048 ∧ s + k2 ≤ 2048 ∧ wx = w4)
    case first =>
      have tx : x % 2048 < 2048 := Nat.mod_lt _ (by decide)
      have ty : y % 2048 < 2048 := Nat.mod_lt _ (by decide)
      go_wp2
      · go_meet
        refine ⟨x % 2048, y % 2048, z % (2049 - y % 2048), u64_mod x 2048, u64_mod y 2048, ?_, tx, ty, ?_, ?_, rfl⟩
        · have h := u64_left z (y % 2048) ty
          rw [Int.natCast_emod] at h
          exact h
        all_goals
          have tz : z % (2049 - y % 2048) < 2049 - y % 2048 := Nat.mod_lt _ (by omega)
          omega
      · go_meet
        refine ⟨x % 2048, y % 2048, z % (2049 - x % 2048), u64_mod x 2048, u64_mod y 2048, ?_, tx, ty, ?_, ?_, rfl⟩
        · have h := u64_left z (x % 2048) tx
          rw [Int.natCast_emod] at h
          exact h
        all_goals
          have tz : z % (2049 - x % 2048) < 2049 - x % 2048 := Nat.mod_lt _ (by omega)
          omega
    case rest =>
      obtain ⟨t, s, k2, rfl, rfl, rfl, ht, hs, htk, hsk, rfl⟩ := hcut
      obtain ⟨w4, rfl⟩ : ∃ w4 : World, w4 = wc := ⟨_, rfl⟩
      go_wp2_with fail
      go_at_call 13
      refine (copy_yes G4.out G4.out t s k2 (by rw [HL.out]; exact htk) (by rw [HL.out]; exact hsk)).mono ?_
      rintro e w5 ⟨rfl, hb, hg⟩
      have HW5 := Lib.hid (own_step HW4.out hb (by intro k hk; simp at hk; subst hk; exact HBB.out))
      have hF5 : w5.heap[F]? = some (.cells (l.map byt).toArray 5 (0, 0)) := (hb.block F (Array.getElem?_eq_some_iff.1 HFB.out).1 (by simpa using HNE.out)).trans HFB.out
      have hby : Bytes w5 (some ⟨F, 0, none⟩) l := ⟨G4.out.byte, fun _ => ⟨F, 0, rfl, (Array.getElem?_eq_some_iff.1 hF5).1, fun j hj => by
        rw [Nat.zero_add, cell_of_row w5 F j _ _ _ hF5]; simp [hj, byt]⟩⟩
      have HBY := Lib.hid hby
      have G5 := Lib.hid hg
      clear hb hg hF5 hby G4 HW4 HFB
      go_upto_region 13 with (with_reducible refine wpList_fresh_bytes rfl (.tmp 50) (.tmp 51) rfl w5 _ rfl rfl (some ⟨F, 0, none⟩) 2048 2048 l rfl 2048 rfl HL.out HBY.out (by omega) ?_; intro g' cap' w6 hb6 hg6 hr6)
      obtain ⟨r, e1, e2, e3⟩ := hr6.out
      rw [HL.out] at e2
      have HW6 := Lib.hid (below_then HW5.out (hb6.below (by simp) (Nat.le_refl _)))
      have HG6 := Lib.hid (Nat.le_trans HW5.out.size hg6)
      have G6 := Lib.hid (G5.out.next hb6 (by simp) (by simp))
      have hgB : g' ≠ B := by have := G5.out.ltB; omega
      have hgp : g' ≠ p := by have := G5.out.ltP; omega
      have hpart := (hb6.bytes HBY.out (by simp)).part s k2 (by rw [HL.out]; exact hsk) (some ⟨F, s, none⟩) (fun g o _ e => by
        simp only [Option.some.injEq, Addr.mk.injEq] at e
        obtain ⟨rfl, rfl, _⟩ := e
        rw [Nat.zero_add])
      have hylen : ((l.drop s).take k2).length = k2 := by simp [HL.out]; omega
      have hcap : 2048 ≤ cap' := by omega
      have E1 := Lib.hid e1
      have HPT := Lib.hid hpart
      have HYL := Lib.hid hylen
      have HGB := Lib.hid hgB
      have HGP := Lib.hid hgp
      have HR := Lib.hid e2
      clear e1 e2 e3 hr6 hb6 hg6 hgB hgp hpart hylen HW5 G5 HBY
      have d1 : ¬ t = cap' := by omega
      have d2 : ¬ s = 2048 := by omega
      have a1 : (0 : Int) ≤ (s : Int) + (k2 : Int) := by omega
      have a2 : ((s : Int) + (k2 : Int)).toNat = s + k2 := by omega
      have a3 : IntKind.u64.wrap ((s : Int) + (k2 : Int)) = (s : Int) + (k2 : Int) := by rw [IntKind.wrap_u64]; omega
      have b1 : (t : Int) ≤ 2048 := by omega
      have b2 : t ≤ 2048 := by omega
      have b3 : (s : Int) + (k2 : Int) ≤ 2048 := by omega
      have b4 : (s : Int) ≤ (s : Int) + (k2 : Int) := by omega
      have b5 : s + k2 ≤ 2048 := by omega
      have b6 : ¬ cap' = t := by omega
      have b7 : ¬ 2048 = s := by omega
      go_still_tail 9, (by kernel_rfl)
      change wpList _ _ _ _ _ w6.drew
      have E7 : Hid (w6.drew.heap[g']? = some (.cells (l.map byt ++ r).toArray 5 (0, 0))) := Lib.hid E1.out
      have HPT7 : Hid (Bytes w6.drew (some ⟨F, s, none⟩) ((l.drop s).take k2)) := Lib.hid (HPT.out.below (Below.refl _ _).drew)
      have HW7 := Lib.hid (HW6.out.drew)
      have G7 := Lib.hid (G6.out.next (But.drew [] w6) (by simp) (by simp))
      have HQ : Hid (t + k2.min (2048 - t) ≤ (l.map byt ++ r).length) := Lib.hid (by
        have h1 : k2.min (2048 - t) ≤ 2048 - t := Nat.min_le_right _ _
        rw [List.length_append, List.length_map, HL.out]; omega)
      have HYL2 : Hid (((l.drop s).take k2).length = s + k2 - s) := Lib.hid (by rw [HYL.out]; omega)
      have HQ2 : Hid (t + (s + k2 - s).min (2048 - t) ≤ (l.map byt ++ r).length) := Lib.hid (by rw [show s + k2 - s = k2 by omega]; exact HQ.out)
      clear E1 HPT HW6 G6 b1 b2 b3 b4 b5 b6 b7 a1 a2 a3 d1 d2
      generalize w6.drew = w7 at *
      go_wp2_with (first
        | (with_reducible refine wpList_copy_bytes rfl (.tmp 55) (.tmp 61) rfl g' t (2048 - t) _ k2 _ _ (some ⟨F, s, none⟩) rfl rfl (l.map byt ++ r) ((l.drop s).take k2) E7.out HYL.out HPT7.out (fun _ => rfl) HQ.out ?_; intro w8 hb8 hw8)
        | (with_reducible refine wpList_copy_bytes rfl (.tmp 55) (.tmp 61) rfl g' t (2048 - t) _ (s + k2 - s) _ _ (some ⟨F, s, none⟩) rfl rfl (l.map byt ++ r) ((l.drop s).take k2) E7.out HYL2.out HPT7.out (fun _ => rfl) HQ2.out ?_; intro w8 hb8 hw8))
      have hw9 : w8.heap[g']? = some (.cells ((splice l t ((l.drop s).take k2)).map byt ++ r).toArray 5 (0, 0)) := by
        rw [hw8.out, List.take_of_length_le (by rw [HYL.out]; omega), splice_same l _ r t (by rw [HYL.out, HL.out]; exact htk)]
      have hlen : (splice l t ((l.drop s).take k2)).length = 2048 := by rw [length_splice _ _ _ (by rw [HYL.out, HL.out]; exact htk), HL.out]
      have G8 := Lib.hid (G7.out.next hb8 (by simpa using Ne.symm HGP.out) (by simpa using Ne.symm HGB.out))
      have HW8 := Lib.hid (HW7.out.trans (hb8.below (by intro k hk; simp at hk; subst hk; exact HG6.out) HW7.out.size))
      generalize splice l t ((l.drop s).take k2) = L at *
      have hby : Bytes w8 (some ⟨g', 0, none⟩) L := ⟨G8.out.byte, fun _ => ⟨g', 0, rfl, (Array.getElem?_eq_some_iff.1 hw9).1, fun j hj => by
        rw [Nat.zero_add, cell_of_row w8 g' j _ _ _ hw9]
        simp [hj, byt, List.getElem?_append]⟩⟩
      have HS := Lib.hid fun (w' : World) (h : Below w8.heap.size w8 w') => says_any (hby.below h) 2048 cap' hlen
      have CB := Lib.hid fun (w' : World) (h : Below w8.heap.size w8 w') => bytes_out (G8.out.next (but_of h []) (by simp) (by simp))
      have HLN := Lib.hid hlen
      clear hb8 hw8 hw9 hlen hby HW7 G7 E7 HPT7 HYL HYL2 HQ HQ2
      have s0 := HS.out w8.drew (Below.refl _ _).drew
      unfold SaysP at s0 HS
      go_region_with (first
          | (go_at_call 12; (first | (refine (CB.out w8 (Below.refl _ _)).mono ?_) | (refine (CB.out w8.drew (Below.refl _ _).drew).mono ?_)); rintro e w9 ⟨F2, rfl, hF2, hFb2, hb9⟩
             have hq9 : Below w8.heap.size w8 w9 := below_then (by first | exact Below.refl _ _ | exact (Below.refl _ _).drew) hb9
             have hby9 : Bytes w9 (some ⟨F2, 0, none⟩) L := ⟨G8.out.byte, fun _ => ⟨F2, 0, rfl, (Array.getElem?_eq_some_iff.1 hFb2).1, fun j hj => by rw [Nat.zero_add, cell_of_row w9 F2 j _ _ _ hFb2]; simp [hj, byt]⟩⟩
             have s9 := says_any hby9 L.length L.length rfl
             unfold SaysP at s9
             have s8 := HS.out w9 hq9
             clear hby9 hFb2)
          | (go_at_call 8; refine (pknown_any _).mono ?_; rintro e w10 ⟨rfl, hb10⟩))
      all_goals
        go_wp2
        go_ret
        exact ⟨rfl, HW8.out.trans ((below_then hq9 hb10).mono HW8.out.size)⟩
end Go.Proofs.Ytljhdibnnaepdaa
