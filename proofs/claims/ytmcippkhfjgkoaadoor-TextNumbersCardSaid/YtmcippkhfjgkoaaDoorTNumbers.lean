/-
  TextNumbers: the walk. Written by wip/tools/gen_tnum.py.
-/
import Derived.Test.YtmcippkhfjgkoaaDoorTkn
import Derived.Test.YtmcippkhfjgkoaaDoorTsame
import Derived.Laws.AppendOwn
namespace Go.Proofs.YtmcippkhfjgkoaaDoor
open Go.RowKit
set_option linter.unusedSimpArgs false

theorem same_new (W : World) (ht : Tab W) (l : List Nat) (n : Nat) (hl : l.length = n) (hn : n ≤ 1000) (hb : ∀ x ∈ l, x < 256) :
    Calls Tryd.prog 7 #[.slice (some ⟨W.heap.size, 0, none⟩) n n] (W.alloc (.cells (l.map byt).toArray 5)) (BoolPost true (W.alloc (.cells (l.map byt).toArray 5))) :=
  same_any _ n n l hl (Nat.le_refl _) (by omega) _ (tab_new ht _) (bytes_new W l hb)
theorem same_two (W : World) (ht : Tab W) (a b : Nat) (ha : a < 256) (hb : b < 256) :
    Calls Tryd.prog 7 #[.slice (some ⟨W.heap.size, 0, none⟩) 2 2] (W.alloc (.cells #[.int .u8 (a : Int), .int .u8 (b : Int)] 5)) (BoolPost true (W.alloc (.cells #[.int .u8 (a : Int), .int .u8 (b : Int)] 5))) :=
  same_new W ht [a, b] 2 rfl (by decide) (by intro x hx; simp only [List.mem_cons, List.not_mem_nil, or_false] at hx; omega)
theorem same_three (W : World) (ht : Tab W) (a b : Nat) (ha : a < 256) (hb : b < 256) :
    Calls Tryd.prog 7 #[.slice (some ⟨W.heap.size, 0, none⟩) 3 3] (W.alloc (.cells #[.int .u8 (a : Int), .int .u8 (b : Int), .int .u8 191] 5)) (BoolPost true (W.alloc (.cells #[.int .u8 (a : Int), .int .u8 (b : Int), .int .u8 191] 5))) :=
  same_new W ht [a, b, 191] 3 rfl (by decide) (by intro x hx; simp only [List.mem_cons, List.not_mem_nil, or_false] at hx; omega)
theorem same_four (W : World) (ht : Tab W) (a b : Nat) (ha : a < 256) (hb : b < 256) :
    Calls Tryd.prog 7 #[.slice (some ⟨W.heap.size, 0, none⟩) 4 4] (W.alloc (.cells #[.int .u8 (a : Int), .int .u8 (b : Int), .int .u8 128, .int .u8 128] 5)) (BoolPost true (W.alloc (.cells #[.int .u8 (a : Int), .int .u8 (b : Int), .int .u8 128, .int .u8 128] 5))) :=
  same_new W ht [a, b, 128, 128] 4 rfl (by decide) (by intro x hx; simp only [List.mem_cons, List.not_mem_nil, or_false] at hx; omega)
theorem same_conv (W : World) (ht : Tab W) (x : ByteArray) (m : Nat) (hm : x.size = m) (hx : m ≤ 1000) :
    Calls Tryd.prog 7 #[.slice (some ⟨W.heap.size, 0, none⟩) m (grownCap W m 0 5)] (Lib.bytesWorld W 5 x) (BoolPost true (Lib.bytesWorld W 5 x)) := by
  subst hm
  exact same_any _ _ _ (nums x) (nums_length x) (grownCap_ge W x.size 0 _) (by omega) _ (ht.below (below_bytes W _ x)) (bytes_conv W x)
def litT : List ByteArray := [⟨#[127]⟩, ⟨#[194, 128]⟩, ⟨#[223, 191]⟩, ⟨#[224, 160, 128]⟩, ⟨#[237, 159, 191]⟩, ⟨#[238, 128, 128]⟩, ⟨#[239, 191, 191]⟩, ⟨#[240, 144, 128, 128]⟩, ⟨#[244, 143, 191, 191]⟩, ⟨#[237, 160, 128]⟩, ⟨#[244, 144, 128, 128]⟩, ⟨#[224, 159, 191]⟩, ⟨#[240, 143, 191, 191]⟩]
theorem lit_small (i : Nat) : (litT.getD i ByteArray.empty).size ≤ 4 := by
  by_cases h : i < 13
  · exact (by decide +kernel : ∀ k : Fin 13, (litT.getD k.val ByteArray.empty).size ≤ 4) ⟨i, h⟩
  · have e : litT.getD i ByteArray.empty = ByteArray.empty := by
      rw [List.getD_eq_getElem?_getD, List.getElem?_eq_none (by show 13 ≤ i; omega)]; rfl
    rw [e]; decide
theorem names_lit (W : World) (T : List ByteArray) : Names (W.alloc (.cells (T.map Value.string).toArray 9)) (some ⟨W.heap.size, 0, none⟩) T := by
  refine fun _ => ⟨W.heap.size, 0, rfl, by simp, fun j hj => ?_⟩
  rw [Nat.zero_add, World.cell?_alloc_new]
  simp [hj]
theorem lit_names (W : World) : Names (W.alloc (.cells #[.string ⟨#[127]⟩, .string ⟨#[194, 128]⟩, .string ⟨#[223, 191]⟩, .string ⟨#[224, 160, 128]⟩, .string ⟨#[237, 159, 191]⟩, .string ⟨#[238, 128, 128]⟩, .string ⟨#[239, 191, 191]⟩, .string ⟨#[240, 144, 128, 128]⟩, .string ⟨#[244, 143, 191, 191]⟩, .string ⟨#[237, 160, 128]⟩, .string ⟨#[244, 144, 128, 128]⟩, .string ⟨#[224, 159, 191]⟩, .string ⟨#[240, 143, 191, 191]⟩] 9)) (some ⟨W.heap.size, 0, none⟩) litT := names_lit W litT

set_option maxRecDepth 100000 in
set_option maxHeartbeats 8000000 in
theorem numbers_any (w : World) (ht : Tab w) : Calls Tryd.prog 3 #[] w (BoolPost true w) := by
  have HT := Lib.hid ht
  clear ht
  go_enter Tryd.func3, Tryd.ntmps3
  go_wp2
  go_loopw [1, 2] (fun a _ wr => ∃ a' : Nat, a' ≤ 256 ∧ a = .int .i64 (a' : Int) ∧ Below w.heap.size w wr) (fun a _ _ => 256 - (intOf a).toNat)
  case atStart => exact ⟨0, by omega, rfl, Below.refl _ _⟩
  case round =>
    obtain ⟨wo, rfl⟩ : ∃ wo : World, wo = wr := ⟨_, rfl⟩
    obtain ⟨a, ha, rfl, hnx⟩ := hrel
    by_cases hlt : a < 256
    · have d1 : decide ((a : Int) < 256) = true := by simp; omega
      go_wp2
      go_loopw [2] (fun b wr => ∃ b' : Nat, b' ≤ 256 ∧ b = .int .i64 (b' : Int) ∧ Below w.heap.size w wr) (fun b _ => 256 - (intOf b).toNat)
      case atStart => exact ⟨0, by omega, rfl, hnx⟩
      case round =>
        clear hnx d1
        obtain ⟨wp, rfl⟩ : ∃ wp : World, wp = wr := ⟨_, rfl⟩
        obtain ⟨b, hb, rfl, hnx⟩ := hrel
        by_cases hlt2 : b < 256
        · have d2 : decide ((b : Int) < 256) = true := by simp; omega
          have H2 := Lib.hid (fun W ht => same_two W ht a b hlt hlt2)
          have H3 := Lib.hid (fun W ht => same_three W ht a b hlt hlt2)
          have H4 := Lib.hid (fun W ht => same_four W ht a b hlt hlt2)
          have hb0 : (0 : Int) ≤ (b : Int) := Int.natCast_nonneg _
          go_wp2_with fail
          go_at_call 7
          refine (H2.out _ (HT.out.below hnx)).mono ?_
          rintro e w1 ⟨rfl, hb1⟩
          replace hnx : Below w.heap.size w w1 := below_then (below_then hnx (below_alloc _ _)) hb1
          clear hb1
          by_cases h7 : b % 8 = 7
          · have d3 : ((b : Int) % 8 == 7) = true := by simp; omega
            clear h7
            go_wp2_with fail
            go_at_call 7
            refine (H3.out _ (HT.out.below hnx)).mono ?_
            rintro e w2 ⟨rfl, hb1⟩
            replace hnx : Below w.heap.size w w2 := below_then (below_then hnx (below_alloc _ _)) hb1
            clear hb1
            go_wp2_with fail
            go_at_call 7
            refine (H4.out _ (HT.out.below hnx)).mono ?_
            rintro e w3 ⟨rfl, hb1⟩
            replace hnx : Below w.heap.size w w3 := below_then (below_then hnx (below_alloc _ _)) hb1
            clear hb1
            go_wp2
            go_roundw
            case rel => exact ⟨b + 1, by omega, by go_num, hnx⟩
            case measure => simp [intOf]; omega
          · have d3 : ((b : Int) % 8 == 7) = false := by simp; omega
            clear h7
            go_wp2
            go_roundw
            case rel => exact ⟨b + 1, by omega, by go_num, hnx⟩
            case measure => simp [intOf]; omega
        · have d2 : decide ((b : Int) < 256) = false := by simp; omega
          go_wp2
          go_roundw
          case rel => exact ⟨a + 1, by omega, by go_num, hnx⟩
          case measure => simp [intOf]; omega
    · have d1 : decide ((a : Int) < 256) = false := by simp; omega
      have hN := lit_names wo
      have hacc : Below w.heap.size w (wo.alloc (.cells #[.string ⟨#[127]⟩, .string ⟨#[194, 128]⟩, .string ⟨#[223, 191]⟩, .string ⟨#[224, 160, 128]⟩, .string ⟨#[237, 159, 191]⟩, .string ⟨#[238, 128, 128]⟩, .string ⟨#[239, 191, 191]⟩, .string ⟨#[240, 144, 128, 128]⟩, .string ⟨#[244, 143, 191, 191]⟩, .string ⟨#[237, 160, 128]⟩, .string ⟨#[244, 144, 128, 128]⟩, .string ⟨#[224, 159, 191]⟩, .string ⟨#[240, 143, 191, 191]⟩] 9)) := below_then hnx (below_alloc _ _)
      have HN := Lib.hid hN
      have HACC := Lib.hid hacc
      clear hN hacc hnx hlt ha
      go_wp2_with fail
      generalize wo.alloc (.cells #[.string ⟨#[127]⟩, .string ⟨#[194, 128]⟩, .string ⟨#[223, 191]⟩, .string ⟨#[224, 160, 128]⟩, .string ⟨#[237, 159, 191]⟩, .string ⟨#[238, 128, 128]⟩, .string ⟨#[239, 191, 191]⟩, .string ⟨#[240, 144, 128, 128]⟩, .string ⟨#[244, 143, 191, 191]⟩, .string ⟨#[237, 160, 128]⟩, .string ⟨#[244, 144, 128, 128]⟩, .string ⟨#[224, 159, 191]⟩, .string ⟨#[240, 143, 191, 191]⟩] 9) = wl at HN HACC ⊢
      clear d1
      go_loopw [46] (fun i wr => ∃ i' : Nat, i' ≤ 13 ∧ i = .int .i64 (i' : Int) ∧ Below wl.heap.size wl wr) (fun i _ => 13 - (intOf i).toNat)
      case atStart => exact ⟨0, by omega, rfl, Below.refl _ _⟩
      case round =>
        obtain ⟨wp, rfl⟩ : ∃ wp : World, wp = wr := ⟨_, rfl⟩
        obtain ⟨i, hi, rfl, hnx⟩ := hrel
        by_cases hlt : i < 13
        · have d1 : decide ((i : Int) < 13) = true := by simp; omega
          obtain ⟨g, o, hgo, _, hc⟩ := HN.out.below hnx (by decide)
          simp only [Option.some.injEq, Addr.mk.injEq] at hgo
          obtain ⟨rfl, rfl, _⟩ := hgo
          have c0 := hc i hlt
          rw [Nat.zero_add] at c0
          have hx4 := lit_small i
          generalize litT.getD i ByteArray.empty = x at c0 hx4
          clear hc
          go_wp2_with fail
          go_loopw [5] (fun k wr => ∃ k' : Nat, k' ≤ x.size + 1 ∧ k = .int .i64 (k' : Int) ∧ Below wl.heap.size wl wr) (fun k _ => x.size + 1 - (intOf k).toNat)
          case atStart => exact ⟨0, by omega, rfl, hnx⟩
          case round =>
            clear hnx d1 c0
            obtain ⟨wq, rfl⟩ : ∃ wq : World, wq = wr := ⟨_, rfl⟩
            obtain ⟨k, hk, rfl, hnx⟩ := hrel
            by_cases hlt2 : k ≤ x.size
            · have d2 : decide ((k : Int) ≤ (x.size : Int)) = true := by simp; omega
              have hy : (x.extract 0 k).size = k := by rw [ByteArray.size_extract]; omega
              have hz : (x.extract k x.size ++ x).size = x.size - k + x.size := by rw [ByteArray.size_append, ByteArray.size_extract]; omega
              have HY := Lib.hid (fun W ht => same_conv W ht _ _ hy (by omega))
              have HZ := Lib.hid (fun W ht => same_conv W ht _ _ hz (by omega))
              have hcv := conv_any
              have HT2 := Lib.hid (HT.out.below HACC.out)
              clear hy hz
              go_wp2_with fail
              go_at_call 7
              refine (HY.out _ (HT2.out.below hnx)).mono ?_
              rintro e w1 ⟨rfl, hb1⟩
              replace hnx := below_then (below_then hnx (below_bytes _ _ _)) hb1
              clear hb1
              go_wp2_with fail
              go_at_call 7
              refine (HZ.out _ (HT2.out.below hnx)).mono ?_
              rintro e w2 ⟨rfl, hb1⟩
              replace hnx := below_then (below_then hnx (below_bytes _ _ _)) hb1
              clear hb1
              go_wp2
              go_roundw
              case rel => exact ⟨k + 1, by omega, by go_num, hnx⟩
              case measure => simp [intOf]; omega
            · have d2 : decide ((k : Int) ≤ (x.size : Int)) = false := by simp; omega
              go_wp2
              go_roundw
              case rel => exact ⟨i + 1, by omega, by go_num, hnx⟩
              case measure => simp [intOf]; omega
        · have d1 : decide ((i : Int) < 13) = false := by simp; omega
          have hacc : Below w.heap.size w wp := below_then HACC.out hnx
          go_wp2_with fail
          go_at_call 8
          refine (known_any _ (HT.out.below hacc)).mono ?_
          rintro e w2 ⟨rfl, hb1⟩
          replace hacc := below_then hacc hb1
          clear hb1
          go_wp2
          go_ret
          exact ⟨rfl, hacc⟩
end Go.Proofs.YtmcippkhfjgkoaaDoor
