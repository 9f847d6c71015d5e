/-
  Contract of branchIf.
-/
import Derived.Test.YtinljaobdnkifaaDoorKdead
namespace Go.Proofs.YtinljaobdnkifaaDoor
open Go.RowKit

/-- At least the height on the stack; at most so many more things made; all else in number as it was. -/
def Fine (x x' : St) (ht d : Nat) : Prop := ht ≤ x'.s.length ∧ x'.s.length + x'.c.length ≤ x.s.length + x.c.length + d ∧ x'.nl = x.nl ∧ x'.left = x.left
theorem Fine.refl {x : St} {ht : Nat} (h : ht ≤ x.s.length) : Fine x x ht 0 := ⟨h, Nat.le_refl _, rfl, rfl⟩
theorem Fine.most {x x' : St} {B ht d : Nat} (hn : Fine x x' ht d) (h : Most x B) : Most x' (B + d) := by
  obtain ⟨_, h2, _⟩ := hn; unfold Most at h ⊢; omega
theorem Fine.trans {x y z : St} {a b d e : Nat} (h : Fine x y a d) (k : Fine y z b e) : Fine x z b (d + e) := by
  obtain ⟨_, h2, h3, h4⟩ := h; obtain ⟨k1, k2, k3, k4⟩ := k
  exact ⟨k1, by omega, k3.trans h3, k4.trans h4⟩
theorem Fine.le {x y : St} {ht d e : Nat} (h : Fine x y ht d) (hd : d ≤ e) : Fine x y ht e := ⟨h.1, by have := h.2.1; omega, h.2.2⟩
theorem Fine.lower {x y : St} {a b d : Nat} (h : Fine x y a d) (hb : b ≤ a) : Fine x y b d := ⟨Nat.le_trans hb h.1, h.2⟩
theorem Num.fine {x y : St} {a b ht : Nat} (h : Num x y a b) (hh : ht ≤ x.s.length) : Fine x y ht (a + b) := by
  obtain ⟨h1, h2, h3, h4⟩ := h; exact ⟨by omega, by omega, h3, h4⟩
theorem Up.fine {x y : St} {d ht : Nat} (h : Up x y d) (hh : ht ≤ y.s.length) : Fine x y ht d := ⟨hh, h.2⟩
theorem Just.fine {x y : St} {n d : Nat} (h : Just x y n d) : Fine x y n d := ⟨Nat.le_of_eq h.1.symm, h.2⟩

/-- The labels, out of the state. -/
theorem Gen.labs {F : Fx} {w : World} {x : St} (h : Gen F w x) (h0 : 0 < x.nl) : ∃ g o c : Nat, x.lv = .slice (some ⟨g, o, none⟩) x.nl c ∧ x.nl ≤ c ∧ c ≤ maxLen ∧ ∀ j, j < x.nl → ∃ u l, w.cell? ⟨g, o + j, none⟩ = some u ∧ l.length ≤ 3 ∧ IntsK (free F w x) w u l := by
  obtain ⟨g, o, c, he, h1, h2⟩ := CellsK.some_ h.reads.labs h0
  refine ⟨g, o, c, he, h1, h2, fun j hj => ?_⟩
  have hl := h.reads.labs
  unfold LabsK at hl
  rw [he] at hl
  obtain ⟨u, k1, l, k2, k3⟩ := hl.at_ j 0 hj (by omega)
  rw [Nat.mul_one, Nat.add_zero] at k1
  exact ⟨u, l, k1, k2, k3.wide⟩

/-- Next upon the maker's tape: the labels stay where they are. -/
theorem next_gen2 {F : Fx} {w : World} {x : St} (h : Gen F w x) (n : Nat) (h0 : 0 < n) (hn : n ≤ 1073741824) :
    Calls Tryd.prog 12 #[.pointer (some ⟨F.T, 0, none⟩), .int .i64 (n : Int)] w fun e w' => ∃ r : Nat, r < n ∧ e = .returned (.int .i64 (r : Int)) ∧ ∃ x', Gen F w' x' ∧ Step F w x w' x' ∧ Num x x' 0 0 ∧ w'.cell? ⟨F.G, 13, none⟩ = w.cell? ⟨F.G, 13, none⟩ :=
  (next_any (rfree F w x) F.T F.tv F.tl x.at_ n w h.ht h.reads.tape (fun hk => hk.1.2 (.inr (.inl rfl))) h.le h0 hn).mono fun _ _ ⟨r, _, he, hr, hk, ht⟩ => ⟨r, hr, he, _, (h.next ht hk).1, (h.next ht hk).2, ⟨rfl, rfl, rfl, rfl⟩, World.cell?_of_block (ht.block F.G h.ne)⟩

set_option maxRecDepth 100000 in
set_option maxHeartbeats 2000000 in
theorem branchIf_any {F : Fx} {w : World} {x : St} (h : Gen F w x) (ht : Nat) (hh : ht ≤ x.s.length) (hn : 0 < x.nl) (hn8 : x.nl ≤ 8) (hm : Most x 860000) :
    Calls Tryd.prog 60 #[.pointer (some ⟨F.G, 0, none⟩), .int .i64 (ht : Int)] w (GPost F w x (.tuple #[]) (fun x' => Fine x x' ht 20)) := by
  obtain ⟨g, o, c, hlv, hlc, hcm⟩ := h.labs hn
  have c0 := h.c0
  have c13 := h.c13
  rw [hlv] at c13
  unfold maxLen at hcm
  have H := Lib.hid h
  have HLV := Lib.hid hlv
  have HH := Lib.hid hh
  clear h hlv hh
  generalize hN : x.nl = n at *
  have HN := Lib.hid hN
  clear hN
  go_enter Tryd.func60, Tryd.ntmps60
  go_wp2_with fail
  go_region_held3 (fun w' => w'.cell? ⟨F.G, 0, none⟩ = some (.pointer (some ⟨F.T, 0, none⟩)) ∧ w'.cell? ⟨F.G, 13, none⟩ = some (.slice (some ⟨g, o, none⟩) n c))
    (first | go_keep | exact ⟨hg1.c0, HC13.out⟩)
    ((go_at_call 12; refine (next_gen2 H.out.drew.1 n (by omega) (by omega)).mono ?_; rintro e w1 ⟨r1, hr1, rfl, x1, hg1, hs1, hn1, hc13⟩; have HC13 : Hid (w1.cell? ⟨F.G, 13, none⟩ = some (.slice (some ⟨g, o, none⟩) n c)) := (by rw [Hid, hc13]; exact c13); clear hc13))
  have H1 := Lib.hid hg1
  have HS1 := Lib.hid (H.out.drew.2.trans hs1)
  have HN1 := Lib.hid hn1
  have hm1 := hm.num hn1
  obtain ⟨j, hj⟩ : ∃ j : Nat, n = j + r1 + 1 := ⟨n - r1 - 1, by omega⟩
  obtain ⟨g1, o1, c1, hlv1, _, _, hlab⟩ := hg1.labs (by rw [hn1.2.2.1, HN.out]; omega)
  obtain ⟨u, l, hu, hl3, hul⟩ := hlab j (by rw [hn1.2.2.1, HN.out]; omega)
  have c13' := hg1.c13
  rw [hlv1, hn1.2.2.1, HN.out] at c13'
  have he := c13'.symm.trans HC13.out
  simp only [Option.some.injEq, Value.slice.injEq, Addr.mk.injEq, and_true, true_and] at he
  obtain ⟨⟨rfl, rfl⟩, rfl⟩ := he
  clear hlab hlv1 hg1 hs1 hn1 c0 c13 HC13
  obtain ⟨Au, cu, hu2, _, _⟩ := hul.form
  rw [hu2] at hu
  have HUL := Lib.hid hul
  have HU2 := Lib.hid hu2
  clear hul hu2
  have e1 : IntKind.i64.wrap ((n : Int) - 1) = (n : Int) - 1 := IntWalk.i64_in _ (by omega)
  have e2 : IntKind.i64.wrap ((n : Int) - 1 - (r1 : Int)) = (j : Int) := by rw [show (n : Int) - 1 - (r1 : Int) = (j : Int) by omega]; exact IntWalk.i64_in _ (by omega)
  have hjn : (j : Int) < (n : Int) := by omega
  have HJ := Lib.hid hj
  clear hj
  have hjn2 : j < n := by omega
  go_wp2_with fail
  go_quiet (fail)
  have hbd : ∀ k, Below w1.heap.size w1 (w1.drewN k) := fun k => below_drewN (Below.refl _ _) k
  have HBD := Lib.hid hbd
  clear hbd
  rename_i nq _
  obtain ⟨hg2, hs2⟩ := H1.out.below (HBD.out nq)
  have hul2 := hs2.ints HUL.out
  have HS2 := Lib.hid (HS1.out.trans hs2)
  rw [HU2.out] at hul2
  go_wp2_with fail
  go_at_call 53
  have hh1 : ht ≤ x1.s.length := by rw [HN1.out.1]; exact HH.out
  refine (need_any hg2 _ l hul2 hl3 ht hh1 (hm1.le (by omega))).mono ?_
  rintro e w3 ⟨rfl, x3, hg3, hs3, hup, hlen⟩
  have hm3 := hm1.up hup
  have hf3 := (HN1.out.fine HH.out).trans (hup.fine (ht := ht) (by omega))
  have HS3 := Lib.hid (HS2.out.trans hs3)
  have HF3 := Lib.hid hf3
  clear hg2 hs2 hul2 hup hf3 hs3 HS1 HS2 HN1 HUL HU2 hu c13'
  go_wp2_with fail
  go_at_call 27
  refine (value_any hg3 127 (hm3.le (by omega))).mono ?_
  rintro e w4 ⟨rfl, x4, hg4, hs4, hn4⟩
  have hm4 := hm3.num hn4
  have h41 : ht + 1 ≤ x4.s.length := by rw [hn4.1]; have := HF3.out.1; omega
  have HF4 := Lib.hid (HF3.out.trans (hn4.fine (ht := ht) HF3.out.1))
  have HS4 := Lib.hid (HS3.out.trans hs4)
  clear hg3 hs4 hn4 HS3 HF3 hlen
  go_wp2_with fail
  go_at_call 17
  refine (put_any hg4 _ _ _ _ _ ⟨[], IntsK.nil _ _⟩ (hm4.le (by omega))).mono ?_
  rintro e w5 ⟨rfl, x5, hg5, hs5, hn5⟩
  have hm5 := (hm4.num hn5).s
  have h51 : ht + 1 ≤ x5.s.length := by rw [hn5.1]; exact h41
  have HF5 := Lib.hid (HF4.out.trans (hn5.fine (ht := ht) (by omega)))
  have HS5 := Lib.hid (HS4.out.trans hs5)
  clear hg4 hs5 hn5 HS4 HF4 h41
  obtain ⟨A5, c5, h5v, h5c, _⟩ := hg5.sform
  obtain ⟨d, hd5⟩ : ∃ d : Nat, x5.s.length = d + 1 := ⟨x5.s.length - 1, by omega⟩
  have c12 := hg5.c12
  have f12 := hg5.frozen 12
  have hpop := hg5.pop (d := d) h5v (by omega)
  have hl5 : (x5.s.take d).length = d := by rw [List.length_take]; omega
  rw [h5v] at c12
  generalize hX : x5.s.length = X at *
  have e3 : IntKind.i64.wrap ((X : Int) - 1) = (d : Int) := by rw [show (X : Int) - 1 = (d : Int) by omega]; exact IntWalk.i64_in _ (by omega)
  have HP := Lib.hid hpop
  have HX := Lib.hid hX
  have HL5 := Lib.hid hl5
  have HD5 := Lib.hid hd5
  have hdc : d ≤ c5 := by omega
  clear hpop hX hl5 hd5 hg5 h5v
  go_wp2_with fail
  go_region
  go_wp2
  obtain ⟨f1, f2, f3, f4⟩ := HF5.out
  have hdd := HD5.out
  refine bodyPost_end (results_none rfl _ _ _) rfl ⟨rfl, _, HP.out.1.drew.1, HS5.out.trans (HP.out.2.trans HP.out.1.drew.2), ?_, ?_, f3, f4⟩
  · show ht ≤ (x5.s.take d).length
    rw [HL5.out]; omega
  · show (x5.s.take d).length + x5.c.length ≤ _
    rw [HL5.out]; have := HX.out; omega
end Go.Proofs.YtinljaobdnkifaaDoor
