/-
  One call of each of the two memories: 'do' says that they answer the same, and leaves them the same.
-/
import Derived.Test.YtljhdibnnaepdaaPgf
import Derived.Deep.RegionHeld3
import Derived.Deep.CutBlock
namespace Go.Proofs.Ytljhdibnnaepdaa
open Go.RowKit
variable {w0 w w' : World} {f : Feet} {la lb lo l2 : List Nat} {mx : Nat}

/-- It answers true; the two memories hold the same. -/
def DoPost (w0 : World) (f : Feet) (lo : List Nat) (mx : Nat) (e : Ending) (w' : World) : Prop :=
  e = .returned (.bool true) ∧ ∃ (f' : Feet) (l' : List Nat), f' 0 = f 0 ∧ f' 2 = f 2 ∧ f' 4 = f 4 ∧ f' 6 = f 6 ∧ Four w0 f' l' l' lo mx w'
/-- The box of the call's own reads so. -/
def AskAt (G : Nat) (kd n : Int) (q s v : Nat) (x : Value) (w : World) : Prop :=
  w.cell? ⟨G, 0, none⟩ = some (.int .i64 kd) ∧ w.cell? ⟨G, 1, none⟩ = some (.int .i64 n) ∧ w.cell? ⟨G, 2, none⟩ = some (.int .u64 (q : Int)) ∧ w.cell? ⟨G, 3, none⟩ = some (.int .u64 (s : Int)) ∧ w.cell? ⟨G, 4, none⟩ = some (.int .u64 (v : Int)) ∧ w.cell? ⟨G, 5, none⟩ = some x
theorem AskAt.but {G : Nat} {kd n : Int} {q s v : Nat} {x : Value} {X : List Nat} (h : AskAt G kd n q s v x w) (hG : G < w.heap.size) (hb : But X w w') (hX : G ∉ X) : AskAt G kd n q s v x w' := by
  obtain ⟨h0, h1, h2, h3, h4, h5⟩ := h
  have e : ∀ j, w'.cell? ⟨G, j, none⟩ = w.cell? ⟨G, j, none⟩ := fun j => hb.cell (p := ⟨G, j, none⟩) hG hX
  exact ⟨by rw [e, h0], by rw [e, h1], by rw [e, h2], by rw [e, h3], by rw [e, h4], by rw [e, h5]⟩
theorem AskAt.made (w : World) (T : TypeId) (kd n : Int) (q s v : Nat) (x : Value) : AskAt w.heap.size kd n q s v x (w.alloc (.cells #[.int .i64 kd, .int .i64 n, .int .u64 (q : Int), .int .u64 (s : Int), .int .u64 (v : Int), x] T)) := by
  refine ⟨?_, ?_, ?_, ?_, ?_, ?_⟩ <;> rw [World.cell?_alloc_new] <;> rfl
/-- What is asked at the end. -/
theorem tail_facts {k p p2 : Nat} (h : Four w0 f la la lo mx w) (hk : la.length = 1024 * k) (e1 : f 0 = p) (e2 : f 2 = p2) (m : Nat) :
    (Calls Try.prog 15 #[.pointer (some ⟨p, 0, none⟩)] (w.drewN m) fun e w' => e = .returned (.int .i64 (k : Int)) ∧ w' = w.drewN m) ∧
    (Calls Try.prog 30 #[.pointer (some ⟨p2, 0, none⟩)] (w.drewN m) fun e w' => e = .returned (.int .i64 (k : Int)) ∧ w' = w.drewN m) ∧
    (Calls Try.prog 16 #[.pointer (some ⟨p, 0, none⟩)] (w.drewN m) fun e w' => e = .returned (.int .i64 (mx : Int)) ∧ w' = w.drewN m) := by
  subst e1
  subst e2
  exact ⟨(pages_any (h.drewN m).a k hk).mono fun _ _ h => ⟨h.1, h.2.symm⟩, (rpages_any (h.drewN m).b k hk).mono fun _ _ h => ⟨h.1, h.2.symm⟩, (max_any (h.drewN m).a).mono fun _ _ h => ⟨h.1, h.2.symm⟩⟩
theorem tail_cell {p2 : Nat} (h : Four w0 f la la lo mx w) (e2 : f 2 = p2) : w.cell? ⟨p2, 1, none⟩ = some (.int .i64 (mx : Int)) := e2 ▸ h.b.cell1
theorem do_post {f' : Feet} {n : Nat} {r : Value} (h : Four w0 f' l2 l2 lo mx w) (hr : r = .bool true) (h0 : f' 0 = f 0) (h2 : f' 2 = f 2) (h4 : f' 4 = f 4) (h6 : f' 6 = f 6) : DoPost w0 f lo mx (.returned r) (w.drewN n) :=
  ⟨by rw [hr], f', l2, h0, h2, h4, h6, h.drewN n⟩

theorem AskAt.drew {G : Nat} {kd n : Int} {q s v : Nat} {x : Value} (h : AskAt G kd n q s v x w) : AskAt G kd n q s v x w.drew := h
set_option maxHeartbeats 2000000 in
set_option maxRecDepth 100000 in
theorem do_grow (h : Four w0 f la la lo mx w) (x : Value) (n : Int) (q s v : Nat) : Calls Try.prog 19 #[.pointer (some ⟨f 0, 0, none⟩), .pointer (some ⟨f 4, 0, none⟩), .pointer (some ⟨f 2, 0, none⟩), .pointer (some ⟨f 6, 0, none⟩), .agg #[.int .i64 0, .int .i64 n, .int .u64 (q : Int), .int .u64 (s : Int), .int .u64 (v : Int), x]] w (DoPost w0 f lo mx) := by
  have hask := AskAt.made w 29 (0) n q s v x
  have hal := (Below.refl w.heap.size w).alloc (Nat.le_refl _) (.cells #[.int .i64 0, .int .i64 n, .int .u64 (q : Int), .int .u64 (s : Int), .int .u64 (v : Int), x] 29)
  have h1 := h.below hal.drew
  have h10 := h.below hal
  have hfar : ∀ i, i < 8 → f i ≠ w.heap.size := fun i hi => by have := h.lt i hi; omega
  have hG : w.heap.size < (w.alloc (.cells #[.int .i64 0, .int .i64 n, .int .u64 (q : Int), .int .u64 (s : Int), .int .u64 (v : Int), x] 29)).heap.size := by simp
  obtain ⟨r, l', ca, cb⟩ := both_grow h1 n
  have HFAR := Lib.hid hfar
  have HG := Lib.hid hG
  have CA := Lib.hid ca
  have CB := Lib.hid cb
  have HASK := Lib.hid hask.drew
  have HK := Lib.hid hask
  have H10 := Lib.hid h10
  clear hfar hG h1 h10 ca cb hask hal h
  go_enter Try.func19, Try.ntmps19
  obtain ⟨k0, k1, k2, k3, k4, k5⟩ := HK.out
  go_upto_region 5 with fail
  generalize w.alloc (.cells #[.int .i64 0, .int .i64 n, .int .u64 (q : Int), .int .u64 (s : Int), .int .u64 (v : Int), x] 29) = w1 at *
  generalize w.heap.size = G at *
  go_region_held3 (fun wz => wz.cell? ⟨G, 1, none⟩ = some (.int .i64 n))
    (first | exact k1 | exact k1b | exact k1c)
    ((first
      | (go_at_call 14; refine (CA.out).mono ?_; rintro e w2 ⟨rfl, B', hB', hb2, hF2⟩
         have hs2 := HASK.out.but HG.out hb2 (by simp; exact ⟨Ne.symm (HFAR.out 0 (by decide)), Ne.symm (HFAR.out 1 (by decide))⟩); have k1b := hs2.2.1
         have hG2 := Nat.lt_of_lt_of_le HG.out hb2.size)
      | (go_at_call 25; refine (CB.out (Feet.set f 1 B') _ rfl hF2).mono ?_; rintro e w3 ⟨rfl, B3, hB3, hb3, hF3⟩
         have hs3 := hs2.but hG2 hb3 (by simp; exact ⟨Ne.symm (HFAR.out 2 (by decide)), Ne.symm (HFAR.out 3 (by decide))⟩); have k1c := hs3.2.1)))
  all_goals
    have H3 := Lib.hid hF3
    obtain ⟨k, hk, _⟩ := hF3.a.len
    have TF := Lib.hid fun m => tail_facts hF3 hk (p := f 0) (p2 := f 2) rfl rfl m
    have kx := tail_cell hF3 (p2 := f 2) rfl
    clear hF2 hF3 hb2 hb3 hs2 hs3 hB' hB3 k0 k1 k2 k3 k4 k5 k1b k1c hk hG2
    go_upto_region 27 with fail
    go_quiet ((first | (go_at_call 15; exact Calls.quiet_of_same (TF.out _).1) | (go_at_call 30; exact Calls.quiet_of_same (TF.out _).2.1) | (go_at_call 16; exact Calls.quiet_of_same (TF.out _).2.2)))
    go_wp2
    go_ret
    exact do_post H3.out rfl rfl rfl rfl rfl
set_option maxHeartbeats 2000000 in
set_option maxRecDepth 100000 in
theorem do_fill (h : Four w0 f la la lo mx w) (x : Value) (n : Int) (q s v : Nat) : Calls Try.prog 19 #[.pointer (some ⟨f 0, 0, none⟩), .pointer (some ⟨f 4, 0, none⟩), .pointer (some ⟨f 2, 0, none⟩), .pointer (some ⟨f 6, 0, none⟩), .agg #[.int .i64 4, .int .i64 n, .int .u64 (q : Int), .int .u64 (s : Int), .int .u64 (v : Int), x]] w (DoPost w0 f lo mx) := by
  have ev : IntKind.u8.wrap (v : Int) = ((v % 256 : Nat) : Int) := by rw [IntKind.wrap_u8, Int.natCast_emod]; rfl
  have hask := AskAt.made w 29 (4) n q s v x
  have hal := (Below.refl w.heap.size w).alloc (Nat.le_refl _) (.cells #[.int .i64 4, .int .i64 n, .int .u64 (q : Int), .int .u64 (s : Int), .int .u64 (v : Int), x] 29)
  have h1 := h.below hal.drew
  have h10 := h.below hal
  have hfar : ∀ i, i < 8 → f i ≠ w.heap.size := fun i hi => by have := h.lt i hi; omega
  have hG : w.heap.size < (w.alloc (.cells #[.int .i64 4, .int .i64 n, .int .u64 (q : Int), .int .u64 (s : Int), .int .u64 (v : Int), x] 29)).heap.size := by simp
  obtain ⟨r, l', ca, cb⟩ := both_fill h1 q (v % 256) s (Nat.mod_lt _ (by decide))
  generalize v % 256 = vb at ev ca cb
  have HFAR := Lib.hid hfar
  have HG := Lib.hid hG
  have CA := Lib.hid ca
  have CB := Lib.hid cb
  have HASK := Lib.hid hask.drew
  have HK := Lib.hid hask
  have H10 := Lib.hid h10
  clear hfar hG h1 h10 ca cb hask hal h
  go_enter Try.func19, Try.ntmps19
  obtain ⟨k0, k1, k2, k3, k4, k5⟩ := HK.out
  go_upto_region 13 with fail
  generalize w.alloc (.cells #[.int .i64 4, .int .i64 n, .int .u64 (q : Int), .int .u64 (s : Int), .int .u64 (v : Int), x] 29) = w1 at *
  generalize w.heap.size = G at *
  go_region_held3 (fun wz => wz.cell? ⟨G, 2, none⟩ = some (.int .u64 (q : Int)) ∧ wz.cell? ⟨G, 3, none⟩ = some (.int .u64 (s : Int)) ∧ wz.cell? ⟨G, 4, none⟩ = some (.int .u64 (v : Int)))
    (first | exact ⟨k2, k3, k4⟩ | exact ⟨k2b, k3b, k4b⟩ | exact ⟨k2c, k3c, k4c⟩)
    ((first
      | (go_at_call 22; refine (CA.out).mono ?_; rintro e w2 ⟨rfl, B', hB', hb2, hF2⟩
         have hs2 := HASK.out.but HG.out hb2 (by simp; exact ⟨Ne.symm (HFAR.out 0 (by decide)), Ne.symm (HFAR.out 1 (by decide))⟩); have k2b := hs2.2.2.1; have k3b := hs2.2.2.2.1; have k4b := hs2.2.2.2.2.1
         have hG2 := Nat.lt_of_lt_of_le HG.out hb2.size)
      | (go_at_call 27; refine (CB.out (Feet.set f 1 B') _ rfl hF2).mono ?_; rintro e w3 ⟨rfl, B3, hB3, hb3, hF3⟩
         have hs3 := hs2.but hG2 hb3 (by simp; exact ⟨Ne.symm (HFAR.out 2 (by decide)), Ne.symm (HFAR.out 3 (by decide))⟩); have k2c := hs3.2.2.1; have k3c := hs3.2.2.2.1; have k4c := hs3.2.2.2.2.1)))
  all_goals
    have H3 := Lib.hid hF3
    obtain ⟨k, hk, _⟩ := hF3.a.len
    have TF := Lib.hid fun m => tail_facts hF3 hk (p := f 0) (p2 := f 2) rfl rfl m
    have kx := tail_cell hF3 (p2 := f 2) rfl
    clear hF2 hF3 hb2 hb3 hs2 hs3 hB' hB3 k0 k1 k2 k3 k4 k5 k2b k2c k3b k3c k4b k4c hk hG2
    go_upto_region 27 with fail
    go_quiet ((first | (go_at_call 15; exact Calls.quiet_of_same (TF.out _).1) | (go_at_call 30; exact Calls.quiet_of_same (TF.out _).2.1) | (go_at_call 16; exact Calls.quiet_of_same (TF.out _).2.2)))
    go_wp2
    go_ret
    exact do_post H3.out rfl rfl rfl rfl rfl
set_option maxHeartbeats 2000000 in
set_option maxRecDepth 100000 in
theorem do_copy (h : Four w0 f la la lo mx w) (x : Value) (n : Int) (q s v : Nat) : Calls Try.prog 19 #[.pointer (some ⟨f 0, 0, none⟩), .pointer (some ⟨f 4, 0, none⟩), .pointer (some ⟨f 2, 0, none⟩), .pointer (some ⟨f 6, 0, none⟩), .agg #[.int .i64 6, .int .i64 n, .int .u64 (q : Int), .int .u64 (s : Int), .int .u64 (v : Int), x]] w (DoPost w0 f lo mx) := by
  have hask := AskAt.made w 29 (6) n q s v x
  have hal := (Below.refl w.heap.size w).alloc (Nat.le_refl _) (.cells #[.int .i64 6, .int .i64 n, .int .u64 (q : Int), .int .u64 (s : Int), .int .u64 (v : Int), x] 29)
  have h1 := h.below hal.drew
  have h10 := h.below hal
  have hfar : ∀ i, i < 8 → f i ≠ w.heap.size := fun i hi => by have := h.lt i hi; omega
  have hG : w.heap.size < (w.alloc (.cells #[.int .i64 6, .int .i64 n, .int .u64 (q : Int), .int .u64 (s : Int), .int .u64 (v : Int), x] 29)).heap.size := by simp
  obtain ⟨r, l', ca, cb⟩ := both_copy h1 q s v
  have HFAR := Lib.hid hfar
  have HG := Lib.hid hG
  have CA := Lib.hid ca
  have CB := Lib.hid cb
  have HASK := Lib.hid hask.drew
  have HK := Lib.hid hask
  have H10 := Lib.hid h10
  clear hfar hG h1 h10 ca cb hask hal h
  go_enter Try.func19, Try.ntmps19
  obtain ⟨k0, k1, k2, k3, k4, k5⟩ := HK.out
  go_upto_region 22 with fail
  generalize w.alloc (.cells #[.int .i64 6, .int .i64 n, .int .u64 (q : Int), .int .u64 (s : Int), .int .u64 (v : Int), x] 29) = w1 at *
  generalize w.heap.size = G at *
  go_region_held3 (fun wz => wz.cell? ⟨G, 2, none⟩ = some (.int .u64 (q : Int)) ∧ wz.cell? ⟨G, 3, none⟩ = some (.int .u64 (s : Int)) ∧ wz.cell? ⟨G, 4, none⟩ = some (.int .u64 (v : Int)))
    (first | exact ⟨k2, k3, k4⟩ | exact ⟨k2b, k3b, k4b⟩ | exact ⟨k2c, k3c, k4c⟩)
    ((first
      | (go_at_call 13; refine (CA.out).mono ?_; rintro e w2 ⟨rfl, B', hB', hb2, hF2⟩
         have hs2 := HASK.out.but HG.out hb2 (by simp; exact ⟨Ne.symm (HFAR.out 0 (by decide)), Ne.symm (HFAR.out 1 (by decide))⟩); have k2b := hs2.2.2.1; have k3b := hs2.2.2.2.1; have k4b := hs2.2.2.2.2.1
         have hG2 := Nat.lt_of_lt_of_le HG.out hb2.size)
      | (go_at_call 28; refine (CB.out (Feet.set f 1 B') _ rfl hF2).mono ?_; rintro e w3 ⟨rfl, B3, hB3, hb3, hF3⟩
         have hs3 := hs2.but hG2 hb3 (by simp; exact ⟨Ne.symm (HFAR.out 2 (by decide)), Ne.symm (HFAR.out 3 (by decide))⟩); have k2c := hs3.2.2.1; have k3c := hs3.2.2.2.1; have k4c := hs3.2.2.2.2.1)))
  all_goals
    have H3 := Lib.hid hF3
    obtain ⟨k, hk, _⟩ := hF3.a.len
    have TF := Lib.hid fun m => tail_facts hF3 hk (p := f 0) (p2 := f 2) rfl rfl m
    have kx := tail_cell hF3 (p2 := f 2) rfl
    clear hF2 hF3 hb2 hb3 hs2 hs3 hB' hB3 k0 k1 k2 k3 k4 k5 k2b k2c k3b k3c k4b k4c hk hG2
    go_upto_region 27 with fail
    go_quiet ((first | (go_at_call 15; exact Calls.quiet_of_same (TF.out _).1) | (go_at_call 30; exact Calls.quiet_of_same (TF.out _).2.1) | (go_at_call 16; exact Calls.quiet_of_same (TF.out _).2.2)))
    go_wp2
    go_ret
    exact do_post H3.out rfl rfl rfl rfl rfl
set_option maxHeartbeats 2000000 in
set_option maxRecDepth 100000 in
theorem do_other (h : Four w0 f la la lo mx w) (x : Value) (n : Int) (q s v : Nat) : Calls Try.prog 19 #[.pointer (some ⟨f 0, 0, none⟩), .pointer (some ⟨f 4, 0, none⟩), .pointer (some ⟨f 2, 0, none⟩), .pointer (some ⟨f 6, 0, none⟩), .agg #[.int .i64 7, .int .i64 n, .int .u64 (q : Int), .int .u64 (s : Int), .int .u64 (v : Int), x]] w (DoPost w0 f lo mx) := by
  have hask := AskAt.made w 29 (7) n q s v x
  have hal := (Below.refl w.heap.size w).alloc (Nat.le_refl _) (.cells #[.int .i64 7, .int .i64 n, .int .u64 (q : Int), .int .u64 (s : Int), .int .u64 (v : Int), x] 29)
  have h1 := h.below hal.drew
  have h10 := h.below hal
  have hfar : ∀ i, i < 8 → f i ≠ w.heap.size := fun i hi => by have := h.lt i hi; omega
  have hG : w.heap.size < (w.alloc (.cells #[.int .i64 7, .int .i64 n, .int .u64 (q : Int), .int .u64 (s : Int), .int .u64 (v : Int), x] 29)).heap.size := by simp
  obtain ⟨r, l', ca, cb⟩ := both_other h1 q s v
  have HFAR := Lib.hid hfar
  have HG := Lib.hid hG
  have CA := Lib.hid ca
  have CB := Lib.hid cb
  have HASK := Lib.hid hask.drew
  have HK := Lib.hid hask
  have H10 := Lib.hid h10
  clear hfar hG h1 h10 ca cb hask hal h
  go_enter Try.func19, Try.ntmps19
  obtain ⟨k0, k1, k2, k3, k4, k5⟩ := HK.out
  go_upto_region 25 with fail
  generalize w.alloc (.cells #[.int .i64 7, .int .i64 n, .int .u64 (q : Int), .int .u64 (s : Int), .int .u64 (v : Int), x] 29) = w1 at *
  generalize w.heap.size = G at *
  go_region_held3 (fun wz => wz.cell? ⟨G, 2, none⟩ = some (.int .u64 (q : Int)) ∧ wz.cell? ⟨G, 3, none⟩ = some (.int .u64 (s : Int)) ∧ wz.cell? ⟨G, 4, none⟩ = some (.int .u64 (v : Int)))
    (first | exact ⟨k2, k3, k4⟩ | exact ⟨k2b, k3b, k4b⟩ | exact ⟨k2c, k3c, k4c⟩)
    ((first
      | (go_at_call 13; refine (CA.out).mono ?_; rintro e w2 ⟨rfl, B', hB', hb2, hF2⟩
         have hs2 := HASK.out.but HG.out hb2 (by simp; exact ⟨Ne.symm (HFAR.out 0 (by decide)), Ne.symm (HFAR.out 1 (by decide))⟩); have k2b := hs2.2.2.1; have k3b := hs2.2.2.2.1; have k4b := hs2.2.2.2.2.1
         have hG2 := Nat.lt_of_lt_of_le HG.out hb2.size)
      | (go_at_call 28; refine (CB.out (Feet.set f 1 B') _ rfl rfl hF2).mono ?_; rintro e w3 ⟨rfl, B3, hB3, hb3, hF3⟩
         have hs3 := hs2.but hG2 hb3 (by simp; exact ⟨Ne.symm (HFAR.out 2 (by decide)), Ne.symm (HFAR.out 3 (by decide))⟩); have k2c := hs3.2.2.1; have k3c := hs3.2.2.2.1; have k4c := hs3.2.2.2.2.1)))
  all_goals
    have H3 := Lib.hid hF3
    obtain ⟨k, hk, _⟩ := hF3.a.len
    have TF := Lib.hid fun m => tail_facts hF3 hk (p := f 0) (p2 := f 2) rfl rfl m
    have kx := tail_cell hF3 (p2 := f 2) rfl
    clear hF2 hF3 hb2 hb3 hs2 hs3 hB' hB3 k0 k1 k2 k3 k4 k5 k2b k2c k3b k3c k4b k4c hk hG2
    go_upto_region 27 with fail
    go_quiet ((first | (go_at_call 15; exact Calls.quiet_of_same (TF.out _).1) | (go_at_call 30; exact Calls.quiet_of_same (TF.out _).2.1) | (go_at_call 16; exact Calls.quiet_of_same (TF.out _).2.2)))
    go_wp2
    go_ret
    exact do_post H3.out rfl rfl rfl rfl rfl
set_option maxHeartbeats 2000000 in
set_option maxRecDepth 100000 in
theorem do_store (h : Four w0 f la la lo mx w) (x : Value) (kd : Int) (g0 : (kd == 0) = false) (g1 : (kd == 1) = false) (g4 : (kd == 4) = false) (g5 : (kd == 5) = false) (g6 : (kd == 6) = false) (g7 : (kd == 7) = false) (n : Int) (q s v : Nat) : Calls Try.prog 19 #[.pointer (some ⟨f 0, 0, none⟩), .pointer (some ⟨f 4, 0, none⟩), .pointer (some ⟨f 2, 0, none⟩), .pointer (some ⟨f 6, 0, none⟩), .agg #[.int .i64 kd, .int .i64 n, .int .u64 (q : Int), .int .u64 (s : Int), .int .u64 (v : Int), x]] w (DoPost w0 f lo mx) := by
  have hask := AskAt.made w 29 (kd) n q s v x
  have hal := (Below.refl w.heap.size w).alloc (Nat.le_refl _) (.cells #[.int .i64 kd, .int .i64 n, .int .u64 (q : Int), .int .u64 (s : Int), .int .u64 (v : Int), x] 29)
  have h1 := h.below hal.drew
  have h10 := h.below hal
  have hfar : ∀ i, i < 8 → f i ≠ w.heap.size := fun i hi => by have := h.lt i hi; omega
  have hG : w.heap.size < (w.alloc (.cells #[.int .i64 kd, .int .i64 n, .int .u64 (q : Int), .int .u64 (s : Int), .int .u64 (v : Int), x] 29)).heap.size := by simp
  obtain ⟨r, l', ca, cb⟩ := both_store h1 q v n
  have HFAR := Lib.hid hfar
  have HG := Lib.hid hG
  have CA := Lib.hid ca
  have CB := Lib.hid cb
  have HASK := Lib.hid hask.drew
  have HK := Lib.hid hask
  have H10 := Lib.hid h10
  clear hfar hG h1 h10 ca cb hask hal h
  go_enter Try.func19, Try.ntmps19
  obtain ⟨k0, k1, k2, k3, k4, k5⟩ := HK.out
  go_upto_region 2 with fail
  generalize w.alloc (.cells #[.int .i64 kd, .int .i64 n, .int .u64 (q : Int), .int .u64 (s : Int), .int .u64 (v : Int), x] 29) = w1 at *
  generalize w.heap.size = G at *
  go_region_held3 (fun wz => wz.cell? ⟨G, 1, none⟩ = some (.int .i64 n) ∧ wz.cell? ⟨G, 2, none⟩ = some (.int .u64 (q : Int)) ∧ wz.cell? ⟨G, 4, none⟩ = some (.int .u64 (v : Int)))
    (first | exact ⟨k1, k2, k4⟩ | exact ⟨k1b, k2b, k4b⟩ | exact ⟨k1c, k2c, k4c⟩)
    ((first
      | (go_at_call 20; refine (CA.out).mono ?_; rintro e w2 ⟨rfl, B', hB', hb2, hF2⟩
         have hs2 := HASK.out.but HG.out hb2 (by simp; exact ⟨Ne.symm (HFAR.out 0 (by decide)), Ne.symm (HFAR.out 1 (by decide))⟩); have k1b := hs2.2.1; have k2b := hs2.2.2.1; have k4b := hs2.2.2.2.2.1
         have hG2 := Nat.lt_of_lt_of_le HG.out hb2.size)
      | (go_at_call 29; refine (CB.out (Feet.set f 1 B') _ rfl hF2).mono ?_; rintro e w3 ⟨rfl, B3, hB3, hb3, hF3⟩
         have hs3 := hs2.but hG2 hb3 (by simp; exact ⟨Ne.symm (HFAR.out 2 (by decide)), Ne.symm (HFAR.out 3 (by decide))⟩); have k1c := hs3.2.1; have k2c := hs3.2.2.1; have k4c := hs3.2.2.2.2.1)))
  all_goals
    have H3 := Lib.hid hF3
    obtain ⟨k, hk, _⟩ := hF3.a.len
    have TF := Lib.hid fun m => tail_facts hF3 hk (p := f 0) (p2 := f 2) rfl rfl m
    have kx := tail_cell hF3 (p2 := f 2) rfl
    clear hF2 hF3 hb2 hb3 hs2 hs3 hB' hB3 k0 k1 k2 k3 k4 k5 k1b k1c k2b k2c k4b k4c hk hG2
    go_upto_region 27 with fail
    go_quiet ((first | (go_at_call 15; exact Calls.quiet_of_same (TF.out _).1) | (go_at_call 30; exact Calls.quiet_of_same (TF.out _).2.1) | (go_at_call 16; exact Calls.quiet_of_same (TF.out _).2.2)))
    go_wp2
    go_ret
    exact do_post H3.out rfl rfl rfl rfl rfl
set_option maxHeartbeats 2000000 in
set_option maxRecDepth 100000 in
theorem do_load (h : Four w0 f la la lo mx w) (x : Value) (n : Int) (q s v : Nat) : Calls Try.prog 19 #[.pointer (some ⟨f 0, 0, none⟩), .pointer (some ⟨f 4, 0, none⟩), .pointer (some ⟨f 2, 0, none⟩), .pointer (some ⟨f 6, 0, none⟩), .agg #[.int .i64 1, .int .i64 n, .int .u64 (q : Int), .int .u64 (s : Int), .int .u64 (v : Int), x]] w (DoPost w0 f lo mx) := by
  have hask := AskAt.made w 29 (1) n q s v x
  have hal := (Below.refl w.heap.size w).alloc (Nat.le_refl _) (.cells #[.int .i64 1, .int .i64 n, .int .u64 (q : Int), .int .u64 (s : Int), .int .u64 (v : Int), x] 29)
  have h1 := h.below hal.drew
  have h10 := h.below hal
  have hfar : ∀ i, i < 8 → f i ≠ w.heap.size := fun i hi => by have := h.lt i hi; omega
  have hG : w.heap.size < (w.alloc (.cells #[.int .i64 1, .int .i64 n, .int .u64 (q : Int), .int .u64 (s : Int), .int .u64 (v : Int), x] 29)).heap.size := by simp
  obtain ⟨u, r, ca, cb⟩ := both_load w0 f la lo mx q n
  have HFAR := Lib.hid hfar
  have HG := Lib.hid hG
  have CA := Lib.hid ca
  have CB := Lib.hid cb
  have HASK := Lib.hid hask.drew
  have HK := Lib.hid hask
  have H10 := Lib.hid h10
  clear hfar hG h1 h10 ca cb hask hal h
  go_enter Try.func19, Try.ntmps19
  obtain ⟨k0, k1, k2, k3, k4, k5⟩ := HK.out
  go_upto_region 8 with fail
  generalize w.alloc (.cells #[.int .i64 1, .int .i64 n, .int .u64 (q : Int), .int .u64 (s : Int), .int .u64 (v : Int), x] 29) = w1 at *
  generalize w.heap.size = G at *
  go_upto_region 27 with (first
    | (go_at_call 21; refine (CA.out w1 H10.out).mono ?_; rintro e w2 ⟨rfl, rfl⟩)
    | (go_at_call 26; refine (CB.out w1 H10.out).mono ?_; rintro e w3 ⟨rfl, rfl⟩))
  have H3 := Lib.hid H10.out
  obtain ⟨k, hk, _⟩ := H10.out.a.len
  have TF := Lib.hid fun m => tail_facts H10.out hk (p := f 0) (p2 := f 2) rfl rfl m
  have kx := tail_cell H10.out (p2 := f 2) rfl
  clear k0 k1 k2 k3 k4 k5 hk
  go_quiet ((first | (go_at_call 15; exact Calls.quiet_of_same (TF.out _).1) | (go_at_call 30; exact Calls.quiet_of_same (TF.out _).2.1) | (go_at_call 16; exact Calls.quiet_of_same (TF.out _).2.2)))
  go_wp2
  go_ret
  exact do_post H3.out rfl rfl rfl rfl rfl
set_option maxHeartbeats 2000000 in
set_option maxRecDepth 100000 in
theorem do_put_small (h : Four w0 f la la lo mx w) (A : Option Addr) (n0 c : Nat) (ys : List Nat) (hn : ys.length = n0) (hy : Bytes w0 A ys) (h50 : n0 ≤ 50) (n : Int) (q s v : Nat) : Calls Try.prog 19 #[.pointer (some ⟨f 0, 0, none⟩), .pointer (some ⟨f 4, 0, none⟩), .pointer (some ⟨f 2, 0, none⟩), .pointer (some ⟨f 6, 0, none⟩), .agg #[.int .i64 5, .int .i64 n, .int .u64 (q : Int), .int .u64 (s : Int), .int .u64 (v : Int), .slice A n0 c]] w (DoPost w0 f lo mx) := by
  have hask := AskAt.made w 29 (5) n q s v (.slice A n0 c)
  have hal := (Below.refl w.heap.size w).alloc (Nat.le_refl _) (.cells #[.int .i64 5, .int .i64 n, .int .u64 (q : Int), .int .u64 (s : Int), .int .u64 (v : Int), .slice A n0 c] 29)
  have h1 := h.below hal.drew
  have h10 := h.below hal
  have hfar : ∀ i, i < 8 → f i ≠ w.heap.size := fun i hi => by have := h.lt i hi; omega
  have hG : w.heap.size < (w.alloc (.cells #[.int .i64 5, .int .i64 n, .int .u64 (q : Int), .int .u64 (s : Int), .int .u64 (v : Int), .slice A n0 c] 29)).heap.size := by simp
  obtain ⟨r, l', ca, cb⟩ := both_put h1 q A ys n0 c hn hy h50
  have HFAR := Lib.hid hfar
  have HG := Lib.hid hG
  have CA := Lib.hid ca
  have CB := Lib.hid cb
  have HASK := Lib.hid hask.drew
  have HK := Lib.hid hask
  have H10 := Lib.hid h10
  clear hfar hG h1 h10 ca cb hask hal h
  go_enter Try.func19, Try.ntmps19
  obtain ⟨k0, k1, k2, k3, k4, k5⟩ := HK.out
  have hd : decide ((50 : Int) < (n0 : Int)) = false := by simp; omega
  clear hn hy
  go_upto_region 19 with fail
  generalize w.alloc (.cells #[.int .i64 5, .int .i64 n, .int .u64 (q : Int), .int .u64 (s : Int), .int .u64 (v : Int), .slice A n0 c] 29) = w1 at *
  generalize w.heap.size = G at *
  go_region_held3 (fun wz => wz.cell? ⟨G, 2, none⟩ = some (.int .u64 (q : Int)))
    (first | exact k2 | exact k2b | exact k2c)
    ((first
      | (go_at_call 11; refine (CA.out).mono ?_; rintro e w2 ⟨rfl, B', hB', hb2, hF2⟩
         have hs2 := HASK.out.but HG.out hb2 (by simp; exact ⟨Ne.symm (HFAR.out 0 (by decide)), Ne.symm (HFAR.out 1 (by decide))⟩); have k2b := hs2.2.2.1
         have hG2 := Nat.lt_of_lt_of_le HG.out hb2.size)
      | (go_at_call 18; refine (CB.out (Feet.set f 1 B') _ rfl hF2).mono ?_; rintro e w3 ⟨rfl, B3, hB3, hb3, hF3⟩
         have hs3 := hs2.but hG2 hb3 (by simp; exact ⟨Ne.symm (HFAR.out 2 (by decide)), Ne.symm (HFAR.out 3 (by decide))⟩); have k2c := hs3.2.2.1)))
  all_goals
    have H3 := Lib.hid hF3
    obtain ⟨k, hk, _⟩ := hF3.a.len
    have TF := Lib.hid fun m => tail_facts hF3 hk (p := f 0) (p2 := f 2) rfl rfl m
    have kx := tail_cell hF3 (p2 := f 2) rfl
    clear hF2 hF3 hb2 hb3 hs2 hs3 hB' hB3 k0 k1 k2 k3 k4 k5 k2b k2c hk hG2
    go_upto_region 27 with fail
    go_quiet ((first | (go_at_call 15; exact Calls.quiet_of_same (TF.out _).1) | (go_at_call 30; exact Calls.quiet_of_same (TF.out _).2.1) | (go_at_call 16; exact Calls.quiet_of_same (TF.out _).2.2)))
    go_wp2
    go_ret
    exact do_post H3.out rfl rfl rfl rfl rfl
set_option maxHeartbeats 2000000 in
set_option maxRecDepth 100000 in
theorem do_put_big (h : Four w0 f la la lo mx w) (g o : Nat) (n0 c : Nat) (ys : List Nat) (hn : ys.length = n0) (hc : n0 ≤ c) (hm : n0 ≤ 9223372036854775807) (hy : Bytes w0 (some ⟨g, o, none⟩) ys) (h50 : 50 < n0) (n : Int) (q s v : Nat) : Calls Try.prog 19 #[.pointer (some ⟨f 0, 0, none⟩), .pointer (some ⟨f 4, 0, none⟩), .pointer (some ⟨f 2, 0, none⟩), .pointer (some ⟨f 6, 0, none⟩), .agg #[.int .i64 5, .int .i64 n, .int .u64 (q : Int), .int .u64 (s : Int), .int .u64 (v : Int), .slice (some ⟨g, o, none⟩) n0 c]] w (DoPost w0 f lo mx) := by
  have hp := hy.part 0 50 (by rw [hn]; omega) (some ⟨g, o, none⟩) (fun g' o' _ e => by simpa using e)
  rw [List.drop_zero] at hp
  have hask := AskAt.made w 29 (5) n q s v (.slice (some ⟨g, o, none⟩) n0 c)
  have hal := (Below.refl w.heap.size w).alloc (Nat.le_refl _) (.cells #[.int .i64 5, .int .i64 n, .int .u64 (q : Int), .int .u64 (s : Int), .int .u64 (v : Int), .slice (some ⟨g, o, none⟩) n0 c] 29)
  have h1 := h.below hal.drew
  have h10 := h.below hal
  have hfar : ∀ i, i < 8 → f i ≠ w.heap.size := fun i hi => by have := h.lt i hi; omega
  have hG : w.heap.size < (w.alloc (.cells #[.int .i64 5, .int .i64 n, .int .u64 (q : Int), .int .u64 (s : Int), .int .u64 (v : Int), .slice (some ⟨g, o, none⟩) n0 c] 29)).heap.size := by simp
  obtain ⟨r, l', ca, cb⟩ := both_put h1 q (some ⟨g, o, none⟩) (ys.take 50) 50 c (by rw [List.length_take, hn]; omega) hp (by decide)
  have HFAR := Lib.hid hfar
  have HG := Lib.hid hG
  have CA := Lib.hid ca
  have CB := Lib.hid cb
  have HASK := Lib.hid hask.drew
  have HK := Lib.hid hask
  have H10 := Lib.hid h10
  clear hfar hG h1 h10 ca cb hask hal h
  go_enter Try.func19, Try.ntmps19
  obtain ⟨k0, k1, k2, k3, k4, k5⟩ := HK.out
  have hd : decide ((50 : Int) < (n0 : Int)) = true := by simp; omega
  clear hn hy hp
  go_upto_region 19 with fail
  generalize w.alloc (.cells #[.int .i64 5, .int .i64 n, .int .u64 (q : Int), .int .u64 (s : Int), .int .u64 (v : Int), .slice (some ⟨g, o, none⟩) n0 c] 29) = w1 at *
  generalize w.heap.size = G at *
  go_region_held3 (fun wz => wz.cell? ⟨G, 2, none⟩ = some (.int .u64 (q : Int)))
    (first | exact k2 | exact k2b | exact k2c)
    ((first
      | (go_at_call 11; refine (CA.out).mono ?_; rintro e w2 ⟨rfl, B', hB', hb2, hF2⟩
         have hs2 := HASK.out.but HG.out hb2 (by simp; exact ⟨Ne.symm (HFAR.out 0 (by decide)), Ne.symm (HFAR.out 1 (by decide))⟩); have k2b := hs2.2.2.1
         have hG2 := Nat.lt_of_lt_of_le HG.out hb2.size)
      | (go_at_call 18; refine (CB.out (Feet.set f 1 B') _ rfl hF2).mono ?_; rintro e w3 ⟨rfl, B3, hB3, hb3, hF3⟩
         have hs3 := hs2.but hG2 hb3 (by simp; exact ⟨Ne.symm (HFAR.out 2 (by decide)), Ne.symm (HFAR.out 3 (by decide))⟩); have k2c := hs3.2.2.1)))
  all_goals
    have H3 := Lib.hid hF3
    obtain ⟨k, hk, _⟩ := hF3.a.len
    have TF := Lib.hid fun m => tail_facts hF3 hk (p := f 0) (p2 := f 2) rfl rfl m
    have kx := tail_cell hF3 (p2 := f 2) rfl
    clear hF2 hF3 hb2 hb3 hs2 hs3 hB' hB3 k0 k1 k2 k3 k4 k5 k2b k2c hk hG2
    go_upto_region 27 with fail
    go_quiet ((first | (go_at_call 15; exact Calls.quiet_of_same (TF.out _).1) | (go_at_call 30; exact Calls.quiet_of_same (TF.out _).2.1) | (go_at_call 16; exact Calls.quiet_of_same (TF.out _).2.2)))
    go_wp2
    go_ret
    exact do_post H3.out rfl rfl rfl rfl rfl
theorem do_put (h : Four w0 f la la lo mx w) (A : Option Addr) (n0 c : Nat) (ys : List Nat) (hn : ys.length = n0) (hc : n0 ≤ c) (hm : n0 ≤ 9223372036854775807) (hy : Bytes w0 A ys) (n : Int) (q s v : Nat) : Calls Try.prog 19 #[.pointer (some ⟨f 0, 0, none⟩), .pointer (some ⟨f 4, 0, none⟩), .pointer (some ⟨f 2, 0, none⟩), .pointer (some ⟨f 6, 0, none⟩), .agg #[.int .i64 5, .int .i64 n, .int .u64 (q : Int), .int .u64 (s : Int), .int .u64 (v : Int), .slice A n0 c]] w (DoPost w0 f lo mx) := by
  by_cases h50 : n0 ≤ 50
  · exact do_put_small h A n0 c ys hn hy h50 n q s v
  · obtain ⟨g, o, rfl, _, _⟩ := hy.2 (by omega)
    exact do_put_big h g o n0 c ys hn hc hm hy (by omega) n q s v
/-- For any call. -/
theorem do_any (h : Four w0 f la la lo mx w) (A : Option Addr) (n0 c : Nat) (ys : List Nat) (hn : ys.length = n0) (hc : n0 ≤ c) (hm : n0 ≤ 9223372036854775807) (hy : Bytes w0 A ys) (kd n : Int) (q s v : Nat) : Calls Try.prog 19 #[.pointer (some ⟨f 0, 0, none⟩), .pointer (some ⟨f 4, 0, none⟩), .pointer (some ⟨f 2, 0, none⟩), .pointer (some ⟨f 6, 0, none⟩), .agg #[.int .i64 kd, .int .i64 n, .int .u64 (q : Int), .int .u64 (s : Int), .int .u64 (v : Int), .slice A n0 c]] w (DoPost w0 f lo mx) := by
  by_cases e0 : kd = 0
  · subst e0; exact do_grow h _ n q s v
  · by_cases e1 : kd = 1
    · subst e1; exact do_load h _ n q s v
    · by_cases e4 : kd = 4
      · subst e4; exact do_fill h _ n q s v
      · by_cases e5 : kd = 5
        · subst e5; exact do_put h A n0 c ys hn hc hm hy n q s v
        · by_cases e6 : kd = 6
          · subst e6; exact do_copy h _ n q s v
          · by_cases e7 : kd = 7
            · subst e7; exact do_other h _ n q s v
            · exact do_store h _ kd (by simpa using e0) (by simpa using e1) (by simpa using e4) (by simpa using e5) (by simpa using e6) (by simpa using e7) n q s v
end Go.Proofs.Ytljhdibnnaepdaa
