/-
  Contract of what the statements about ops share: 'same' is always true.
-/
import Derived.Test.YtmcogjfiocfmnaaOkn
import Derived.Test.YtmcogjfiocfmnaaOacc
namespace Go.Proofs.Ytmcogjfiocfmnaa
open Go.RowKit

/-- What 'same' keeps from call to call: its struct's two rows lie in block s, and those of the document too read as they did. -/
structure Kept (w : World) (s : Nat) (p q p' q' : Value) (ps rs : List Int) (wr : World) : Prop where
  c0 : wr.cell? ⟨s, 0, none⟩ = some p
  c1 : wr.cell? ⟨s, 1, none⟩ = some q
  lt : s < wr.heap.size
  rp : RowOf wr p ps
  rq : RowOf wr q rs
  rp' : RowOf wr p' ps
  rq' : RowOf wr q' rs
  acc : Below w.heap.size w wr
theorem Kept.next {w wr w' : World} {s : Nat} {p q p' q' : Value} {ps rs : List Int} (h : Kept w s p q p' q' ps rs wr) (hb : Below wr.heap.size wr w') : Kept w s p q p' q' ps rs w' :=
  ⟨(hb.cell (p := ⟨s, 0, none⟩) h.lt).trans h.c0, (hb.cell (p := ⟨s, 1, none⟩) h.lt).trans h.c1, Nat.lt_of_lt_of_le h.lt hb.size, h.rp.below hb, h.rq.below hb, h.rp'.below hb, h.rq'.below hb, h.acc.trans (hb.mono h.acc.size)⟩
theorem kept_first {w w1 w2 : World} {p q p' q' : Value} {ps rs : List Int} {t : TypeId} (h1 : RowOf w1 p ps) (h2 : RowOf w1 q rs) (h3 : RowOf w2 p' ps) (h4 : RowOf w2 q' rs) (b1 : Below w.heap.size w w1)
    (b2 : Below (w1.alloc (.cells #[p, q] t)).heap.size (w1.alloc (.cells #[p, q] t)) w2) : Kept w w1.heap.size p q p' q' ps rs w2 := by
  have hs : w1.heap.size + 1 ≤ w2.heap.size := by have := b2.size; simpa using this
  have ba : Below w1.heap.size w1 w2 := ((Below.refl _ _).alloc (Nat.le_refl _) _).trans (b2.mono (by simp))
  exact ⟨(b2.cell (p := ⟨w1.heap.size, 0, none⟩) (by simp)).trans (by simp), (b2.cell (p := ⟨w1.heap.size, 1, none⟩) (by simp)).trans (by simp), by omega, h1.below ba, h2.below ba, h3, h4, b1.trans (ba.mono b1.size)⟩

set_option maxRecDepth 100000 in
set_option maxHeartbeats 1000000 in
theorem same_any (op : Int) (w : World) : Calls Try.prog 7 #[.int .i64 op] w (BoolPost true w) := by
  have A := fun w => num_any op w
  have B := fun w => rnum_any op w
  have C := fun w => access_any op w
  have D := fun w => raccess_any op w
  have E := fun w => const_any op w
  have F := fun w => rconst_any op w
  have G := fun w => known_any op w
  have H := fun w => rknown_any op w
  have I := fun w => rich_any op w
  have J := fun w => rrich_any op w
  have K := fun w => opens_any op w
  have L := fun w => ropens_any op w
  have hp := acc_pos op
  unfold NumPost at A
  unfold RNumPost at B
  generalize knownB op = k at G H
  generalize richB op = r at I J
  generalize opensB op = o at K L
  generalize numB op = n at A B
  generalize paramsB op = ps at A B
  generalize resultsB op = rs at A B
  generalize constB op = c at E F
  generalize accB op = p at C D hp
  obtain ⟨x, y, z, d⟩ := p
  have hd : d = decide (0 < x) := hp
  clear hp
  subst hd
  have HA := Lib.hid A
  have HB := Lib.hid B
  have HC := Lib.hid C
  have HD := Lib.hid D
  have HE := Lib.hid E
  have HF := Lib.hid F
  have HG := Lib.hid G
  have HH := Lib.hid H
  have HI := Lib.hid I
  have HJ := Lib.hid J
  have HK := Lib.hid K
  have HL := Lib.hid L
  clear A B C D E F G H I J K L
  go_enter Try.func7, Try.ntmps7
  go_wp2_with fail
  go_at_call 13
  refine (HA.out _).mono ?_
  rintro e w1 ⟨p, q, rfl, hp, hq, hb1⟩
  obtain ⟨ap, np, cp, rfl⟩ := hp.slice
  obtain ⟨aq, nq, cq, rfl⟩ := hq.slice
  go_wp2_with fail
  go_at_call 19
  refine (HB.out _).mono ?_
  rintro e w2 ⟨p', q', rfl, hp', hq', hb2⟩
  obtain ⟨ap', np', cp', rfl⟩ := hp'.slice
  obtain ⟨aq', nq', cq', rfl⟩ := hq'.slice
  have hk := kept_first hp hq hp' hq' hb1 hb2
  clear hp hq hp' hq' hb1 hb2
  generalize w1.heap.size = s at hk ⊢
  have c0 := hk.c0
  have c1 := hk.c1
  go_wp2_with (first
    | (go_at_call 14; refine (HC.out _).mono ?_; rintro e w' ⟨rfl, hb⟩; replace hk := hk.next hb; have c0 := hk.c0; have c1 := hk.c1; clear hb)
    | (go_at_call 20; refine (HD.out _).mono ?_; rintro e w' ⟨rfl, rfl⟩)
    | (go_at_call 15; refine (HE.out _).mono ?_; rintro e w' ⟨rfl, rfl⟩)
    | (go_at_call 21; refine (HF.out _).mono ?_; rintro e w' ⟨rfl, rfl⟩)
    | (go_at_call 9; (first | (with_reducible refine (same_rows hk.rp hk.rp').mono ?_) | (with_reducible refine (same_rows hk.rq hk.rq').mono ?_)); rintro e w' ⟨rfl, hb⟩; replace hk := hk.next hb; have c0 := hk.c0; have c1 := hk.c1; clear hb)
    | (go_at_call 17; refine (HG.out _).mono ?_; rintro e w' ⟨rfl, hb⟩; replace hk := hk.next hb; have c0 := hk.c0; have c1 := hk.c1; clear hb)
    | (go_at_call 8; refine (HH.out _).mono ?_; rintro e w' ⟨rfl, hb⟩; replace hk := hk.next hb; have c0 := hk.c0; have c1 := hk.c1; clear hb)
    | (go_at_call 18; refine (HI.out _).mono ?_; rintro e w' ⟨rfl, hb⟩; replace hk := hk.next hb; have c0 := hk.c0; have c1 := hk.c1; clear hb)
    | (go_at_call 22; refine (HJ.out _).mono ?_; rintro e w' ⟨rfl, rfl⟩)
    | (go_at_call 16; refine (HK.out _).mono ?_; rintro e w' ⟨rfl, rfl⟩)
    | (go_at_call 23; refine (HL.out _).mono ?_; rintro e w' ⟨rfl, rfl⟩))
  go_ret
  exact ⟨rfl, hk.acc⟩
end Go.Proofs.Ytmcogjfiocfmnaa
