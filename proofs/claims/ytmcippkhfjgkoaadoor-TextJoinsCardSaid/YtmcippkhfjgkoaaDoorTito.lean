/-
  Numbers as texts: contract of strconv.Itoa below 100.
-/
import Derived.Test.YtmcippkhfjgkoaaDoorTstr
namespace Go.Proofs.YtmcippkhfjgkoaaDoor
open Go.RowKit

/-- A text comes back whose bytes are these; the world is as it was. -/
def TextPost (l : List Nat) (w : World) (e : Ending) (w' : World) : Prop := (∃ s : ByteArray, e = .returned (.string s) ∧ nums s = l) ∧ w = w'
set_option maxRecDepth 100000 in
theorem small_any (n : Nat) (hn : n < 100) (w : World) : Calls Tryd.prog 28 #[.int .i64 (n : Int)] w (TextPost (decB n) w) := by
  by_cases h : n < 10
  · go_enter Tryd.func28, Tryd.ntmps28
    go_wp2
    go_ret
    refine ⟨⟨_, rfl, ?_⟩, rfl⟩
    exact (by decide +kernel : ∀ k : Fin 10, nums ((⟨#[48, 49, 50, 51, 52, 53, 54, 55, 56, 57, 97, 98, 99, 100, 101, 102, 103, 104, 105, 106, 107, 108, 109, 110, 111, 112, 113, 114, 115, 116, 117, 118, 119, 120, 121, 122]⟩ : ByteArray).extract k.val (k.val + 1)) = decB k.val) ⟨n, h⟩
  · go_enter Tryd.func28, Tryd.ntmps28
    go_wp2
    go_ret
    refine ⟨⟨_, rfl, ?_⟩, rfl⟩
    exact (by decide +kernel : ∀ k : Fin 100, 10 ≤ k.val → nums ((⟨#[48, 48, 48, 49, 48, 50, 48, 51, 48, 52, 48, 53, 48, 54, 48, 55, 48, 56, 48, 57, 49, 48, 49, 49, 49, 50, 49, 51, 49, 52, 49, 53, 49, 54, 49, 55, 49, 56, 49, 57, 50, 48, 50, 49, 50, 50, 50, 51, 50, 52, 50, 53, 50, 54, 50, 55, 50, 56, 50, 57, 51, 48, 51, 49, 51, 50, 51, 51, 51, 52, 51, 53, 51, 54, 51, 55, 51, 56, 51, 57, 52, 48, 52, 49, 52, 50, 52, 51, 52, 52, 52, 53, 52, 54, 52, 55, 52, 56, 52, 57, 53, 48, 53, 49, 53, 50, 53, 51, 53, 52, 53, 53, 53, 54, 53, 55, 53, 56, 53, 57, 54, 48, 54, 49, 54, 50, 54, 51, 54, 52, 54, 53, 54, 54, 54, 55, 54, 56, 54, 57, 55, 48, 55, 49, 55, 50, 55, 51, 55, 52, 55, 53, 55, 54, 55, 55, 55, 56, 55, 57, 56, 48, 56, 49, 56, 50, 56, 51, 56, 52, 56, 53, 56, 54, 56, 55, 56, 56, 56, 57, 57, 48, 57, 49, 57, 50, 57, 51, 57, 52, 57, 53, 57, 54, 57, 55, 57, 56, 57, 57]⟩ : ByteArray).extract (k.val * 2) (k.val * 2 + 2)) = decB k.val) ⟨n, hn⟩ (show 10 ≤ n by omega)
set_option maxRecDepth 10000 in
theorem format_any (n : Nat) (hn : n < 100) (w : World) : Calls Tryd.prog 26 #[.int .i64 (n : Int), .int .i64 10] w (TextPost (decB n) w) := by
  have H := Lib.hid (fun w => small_any n hn w)
  have h1 : decide ((n : Int) < 100) = true := by simp; omega
  have h2 : decide ((0 : Int) ≤ (n : Int)) = true := by simp
  go_enter Tryd.func26, Tryd.ntmps26
  go_wp2_with (go_at_call 28; refine (H.out _).mono ?_; rintro e w' ⟨⟨s, rfl, hs⟩, rfl⟩)
  go_ret
  exact ⟨⟨_, rfl, hs⟩, rfl⟩
theorem itoaIn_any (n : Nat) (hn : n < 100) (w : World) : Calls Tryd.prog 23 #[.int .i64 (n : Int)] w (TextPost (decB n) w) := by
  have H := Lib.hid (fun w => format_any n hn w)
  go_enter Tryd.func23, Tryd.ntmps23
  go_wp2_with (go_at_call 26; refine (H.out _).mono ?_; rintro e w' ⟨⟨s, rfl, hs⟩, rfl⟩)
  go_ret
  exact ⟨⟨_, rfl, hs⟩, rfl⟩
theorem itoa_any (n : Nat) (hn : n < 100) (w : World) : Calls Tryd.prog 18 #[.int .i64 (n : Int)] w (TextPost (decB n) w) := by
  have H := Lib.hid (fun w => itoaIn_any n hn w)
  go_enter Tryd.func18, Tryd.ntmps18
  go_wp2_with (go_at_call 23; refine (H.out _).mono ?_; rintro e w' ⟨⟨s, rfl, hs⟩, rfl⟩)
  go_ret
  exact ⟨⟨_, rfl, hs⟩, rfl⟩
end Go.Proofs.YtmcippkhfjgkoaaDoor
