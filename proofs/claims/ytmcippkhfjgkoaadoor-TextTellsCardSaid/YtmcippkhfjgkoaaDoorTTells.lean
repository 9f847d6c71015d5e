/-
  TextTells: the walk.
-/
import Derived.Test.YtmcippkhfjgkoaaDoorTkn
import Derived.Test.YtmcippkhfjgkoaaDoorTsame
import Derived.Test.YtmcippkhfjgkoaaDoorTapp
import Derived.Deep.CutRange
namespace Go.Proofs.YtmcippkhfjgkoaaDoor
open Go.RowKit
set_option linter.unusedSimpArgs false

set_option maxRecDepth 100000 in
set_option maxHeartbeats 4000000 in
theorem tells_any (A : Option Addr) (c : Nat) (l0 : List Nat) (s0 : ByteArray) (hc : l0.length ≤ c) (hl63 : l0.length ≤ 9223372036854775807) (hs63 : s0.size ≤ 9223372036854775807) (w : World) (ht : Tab w) (hb0 : Bytes w A l0) :
    Calls Tryd.prog 4 #[.slice A l0.length c, .string s0] w (BoolPost true w) := by
  obtain ⟨n0, hn0⟩ : ∃ n0, l0.length = n0 := ⟨_, rfl⟩
  rw [hn0] at hc hl63 ⊢
  have HN0 := Lib.hid hn0
  have HB0 := Lib.hid hb0
  have HT := Lib.hid ht
  clear hn0 hb0 ht
  go_enter Tryd.func4, Tryd.ntmps4
  go_upto_if 7 with fail
  go_cut [0] from 8 to 9 (fun v wx => ∃ (A' : Option Addr) (l : List Nat), v = .slice A' l.length c ∧ l.length ≤ 60 ∧ l.length ≤ c ∧ Bytes w A' l ∧ wx = w)
  case first =>
    by_cases h60 : n0 ≤ 60
    · have hd : decide ((60 : Int) < (n0 : Int)) = false := by simp; omega
      go_wp2
      go_meet
      exact ⟨A, l0, by rw [HN0.out], by rw [HN0.out]; exact h60, by rw [HN0.out]; exact hc, HB0.out, rfl⟩
    · obtain ⟨g, o, rfl, _, _⟩ := HB0.out.2 (by rw [HN0.out]; omega)
      have hd : decide ((60 : Int) < (n0 : Int)) = true := by simp; omega
      have hc0 : ¬ c = 0 := by omega
      go_wp2
      go_meet
      have e : (l0.take 60).length = 60 := by rw [List.length_take, HN0.out]; omega
      have hp := HB0.out.part 0 60 (by rw [HN0.out]; omega) (some ⟨g, o, none⟩) (fun g' o' _ he => by rw [he]; rfl)
      rw [List.drop_zero] at hp
      exact ⟨some ⟨g, o, none⟩, l0.take 60, by rw [e], by omega, by omega, hp, rfl⟩
  case rest =>
    obtain ⟨A', l, rfl, hk60, hkc, hb, rfl⟩ := hcut
    clear HB0 HN0 hc hl63
    obtain ⟨k, hk⟩ : ∃ k, l.length = k := ⟨_, rfl⟩
    rw [hk] at hk60 hkc ⊢
    have HK := Lib.hid hk
    have HB := Lib.hid hb
    clear hk hb
    go_upto_if 12 with fail
    go_cut [1] from 13 to 14 (fun v wx => ∃ s : ByteArray, v = .string s ∧ s.size ≤ 60 ∧ wx = wc)
    case first =>
      by_cases h60 : s0.size ≤ 60
      · have hd : decide ((60 : Int) < (s0.size : Int)) = false := by simp; omega
        go_wp2
        go_meet
        exact ⟨s0, rfl, h60, rfl⟩
      · have hd : decide ((60 : Int) < (s0.size : Int)) = true := by simp; omega
        go_wp2
        go_meet
        exact ⟨s0.extract 0 60, rfl, by rw [ByteArray.size_extract]; omega, rfl⟩
    case rest =>
      obtain ⟨s, rfl, hs60, rfl⟩ := hcut
      have hconv := fun w => conv_any w s
      have hgc := fun (w : World) => grownCap_ge w s.size 0 5
      have HG := Lib.hid hgc
      clear hgc
      have hnx : Below wc.heap.size wc wc := Below.refl _ _
      go_wp2_with fail
      go_at_call 7
      refine (same_any A' k c l HK.out hkc (by omega) _ (HT.out.below hnx) (HB.out.below hnx)).mono ?_
      rintro e w1 ⟨rfl, hb⟩
      replace hnx := below_then hnx hb
      clear hb
      go_wp2_with fail
      go_at_call 7
      refine (same_any _ s.size _ (nums s) (nums_length s) (HG.out w1) (by omega) _ ((HT.out.below hnx).below (below_bytes w1 _ s)) (bytes_conv w1 s)).mono ?_
      rintro e w2 ⟨rfl, hb⟩
      replace hnx := below_then (below_then hnx (below_bytes w1 _ s)) hb
      clear hb
      have hsrc := (HB.out.below hnx).below (below_bytes w2 5 s)
      have hrm := conv_room w2 s
      have hbw := below_bytes w2 5 s
      have HS := Lib.hid hsrc
      have HR := Lib.hid hrm
      clear hsrc hrm
      go_wp2_with (at_builtin; refine wpList_room_append (by rfl) (.tmp 24) (.tmp 25) rfl w2.heap.size w2.heap.size s.size _ (nums s) rfl HR.out (Nat.le_refl _) A' k c l rfl HK.out HS.out (by omega) ?_; intro g' cap' w3 hby hcap hb3)
      go_at_call 7
      replace hnx := below_then hnx (hbw.trans hb3)
      refine (same_any _ (s.size + k) cap' (nums s ++ l) (by rw [List.length_append, nums_length, HK.out]) hcap (by omega) _ (HT.out.below hnx) hby).mono ?_
      rintro e w4 ⟨rfl, hb⟩
      replace hnx := below_then hnx hb
      clear hb
      go_wp2_with fail
      go_at_call 8
      refine (known_any _ (HT.out.below hnx)).mono ?_
      rintro e w5 ⟨rfl, hb⟩
      replace hnx := below_then hnx hb
      clear hb
      go_wp2
      go_ret
      exact ⟨rfl, hnx⟩
end Go.Proofs.YtmcippkhfjgkoaaDoor
