/-
  HostPlays: its walk.
-/
import Derived.Test.YtlgfappnlnhddaaHg
import Derived.Deep.CutRange
import Derived.Deep.CutBlock
namespace Go.Proofs.Ytlgfappnlnhddaa
open Go.RowKit
variable {w w' : World}

theorem and3 (z : Int) : ∃ q r : Nat, r < 3 ∧ Go.bits .and .i64 z 3 = (q : Int) ∧ (q : Int).tmod 3 = (r : Int) := by
  refine ⟨(BitVec.ofInt 64 z).toNat &&& 3, ((BitVec.ofInt 64 z).toNat &&& 3) % 3, Nat.mod_lt _ (by decide), ?_, ?_⟩
  · show IntKind.i64.wrap ((BitVec.ofInt 64 z &&& BitVec.ofInt 64 3).toNat : Int) = _
    have e : (BitVec.ofInt 64 3).toNat = 3 := by decide
    have h : (BitVec.ofInt 64 z).toNat &&& 3 ≤ 3 := Nat.and_le_right
    rw [BitVec.toNat_and, e, IntKind.wrap_i64]
    omega
  · rw [Int.tmod_eq_emod_of_nonneg (Int.natCast_nonneg _)]; rfl
theorem and32 (x : Nat) (hx : x < 18446744073709551616) : Go.bits .and .u64 (x : Int) 4294967295 = ((x % 4294967296 : Nat) : Int) := by
  have h := bits_and_u64_nat x 4294967295 hx (by decide)
  rw [show ((4294967295 : Nat) : Int) = 4294967295 from rfl] at h
  rw [h]
  congr 1
  exact Nat.and_two_pow_sub_one_eq_mod x 32
def kinds : List Int := [127, 126, 124]
theorem kinds_cell (w : World) (r : Nat) (h : r < 3) : (w.alloc (.cells #[.int .i64 127, .int .i64 126, .int .i64 124] 3)).cell? ⟨w.heap.size, r, none⟩ = some (.int .i64 (kinds.getD r 0)) := by
  rw [World.cell?_alloc_new]
  match r, h with
  | 0, _ => rfl
  | 1, _ => rfl
  | 2, _ => rfl
/-- What is asked, as plain data. -/
structure Qst where
  idx : Int
  n : Nat
  f : Nat → Nat
  T : List Int
def AsksF (K : Nat → Prop) (w : World) (v : Value) (M : Nat) (Q : Nat → Qst) : Prop :=
  ∃ A c, v = .slice A M c ∧ M ≤ c ∧ M ≤ 9223372036854775807 ∧ (0 < M → ∃ g o : Nat, A = some ⟨g, o, none⟩ ∧ K g ∧ ∀ j, j < M → w.cell? ⟨g, o + j * 3, none⟩ = some (.int .i64 (Q j).idx) ∧ (∃ u, w.cell? ⟨g, o + j * 3 + 1, none⟩ = some u ∧ WordsF K w u (Q j).n (Q j).f) ∧ ∃ u, w.cell? ⟨g, o + j * 3 + 2, none⟩ = some u ∧ IntsK K w u (Q j).T)
theorem AsksF.keep {K K' : Nat → Prop} {v : Value} {M : Nat} {Q : Nat → Qst} (h : AsksF K w v M Q) (hk : Keeps K w w') (hm : ∀ k, K k → K' k) : AsksF K' w' v M Q := by
  obtain ⟨A, c, rfl, h1, h2, h3⟩ := h
  refine ⟨A, c, rfl, h1, h2, fun h0 => ?_⟩
  obtain ⟨g, o, rfl, hg, h4⟩ := h3 h0
  refine ⟨g, o, rfl, hm g hg, fun j hj => ?_⟩
  obtain ⟨h7, ⟨u, h5, h6⟩, u', h8, h9⟩ := h4 j hj
  exact ⟨(hk.cell (p := ⟨g, o + j * 3, none⟩) hg).trans h7, ⟨u, (hk.cell (p := ⟨g, o + j * 3 + 1, none⟩) hg).trans h5, h6.keep hk hm⟩, u', (hk.cell (p := ⟨g, o + j * 3 + 2, none⟩) hg).trans h8, h9.keep hk hm⟩
/-- The host ahead of call number i. -/
structure AtI (w0 : World) (p N : Nat) (L : Nat → Ans) (i : Nat) (h : Ho) (D : Nat → Prop) (w : World) : Prop where
  at_ : HostAt D h w
  p : h.p = p
  N : h.N = N - i
  L : h.L = fun j => L (i + j)
  k : h.k = i
  lo : ∀ b, h.priv b → w0.heap.size ≤ b
  acc : Below w0.heap.size w0 w
/-- The row of types while it is made. -/
structure TRow (w0 w : World) (rv : Value) (ts : List Int) (k : Nat) : Prop where
  acc : Below w0.heap.size w0 w
  box : w.heap[w0.heap.size]? = some (.cells #[.slice none 0 0, rv] 36 (0, 0))
  own : w.ownsRow 0 3 1 rv k (ts.map (Value.int .i64))
  far : ∀ b, rv.ownBlock = some b → w0.heap.size < b
theorem AtI.below {w0 : World} {p N : Nat} {L : Nat → Ans} {i : Nat} {h : Ho} {D : Nat → Prop} (hI : AtI w0 p N L i h D w) (hb : Below w.heap.size w w') : AtI w0 p N L i h D w' :=
  ⟨hI.at_.below hb, hI.p, hI.N, hI.L, hI.k, hI.lo, hI.acc.trans (hb.mono hI.acc.size)⟩
theorem max_left (N i : Nat) : (if (N : Int) - (i : Int) - 1 < 0 then (0 : Int) else (N : Int) - (i : Int) - 1) = ((N - (i + 1) : Nat) : Int) := by
  split <;> omega
theorem owns_intsK' {w0 : World} {rv : Value} {ts : List Int} {k : Nat} (h : w.ownsRow 0 3 1 rv k (ts.map (Value.int .i64))) (hf : ∀ b, rv.ownBlock = some b → w0.heap.size < b) (hk : k ≤ 6) (hl : ts.length = k) : IntsK (Nw w0 w) w rv ts := by
  subst hl
  rcases h.2 with ⟨rfl, h0⟩ | ⟨g, cap, cur, rfl, _, hg, _⟩
  · have e : ts = [] := List.eq_nil_of_length_eq_zero h0
    subst e
    exact IntsK.nil _ _
  · refine ⟨_, cap, rfl, by unfold maxLen; omega, (fun h => by cases h), fun _ => ⟨g, 0, rfl, ⟨Nat.le_of_lt (hf g rfl), (Array.getElem?_eq_some_iff.1 hg).1⟩, fun j hj => ?_⟩⟩
    have h3 := h.cells (g := g) rfl j (.int .i64 (ts.getD j 0)) (by simp [hj])
    rw [add_lit0] at h3
    rw [Nat.zero_add]
    exact h3
set_option maxRecDepth 100000 in
set_option maxHeartbeats 2000000 in
theorem hplays_any {K : Nat → Prop} {v a : Value} {N M : Nat} {L : Nat → Ans} {Q : Nat → Qst} (h : AnsF K w v N L) (hK : ∀ b, K b → b < w.heap.size) (hq : AsksF (fun b => b < w.heap.size) w a M Q) :
    Calls Try.prog 4 #[v, a] w (BoolPost true w) := by
  have HNW := Lib.hid (new_any h hK)
  have HV := Lib.hid h
  obtain ⟨A, c, rfl, hNc, hN, _⟩ := h
  obtain ⟨Aq, cq, rfl, hMc, hM, hqc⟩ := hq
  have HQ := Lib.hid hqc
  clear hqc
  go_enter Try.func4, Try.ntmps4
  go_wp2_with fail
  go_at_call 7
  refine HNW.out.mono ?_
  rintro e w1 ⟨h0, D0, rfl, hh0, e1, e2, e3, e4, e5⟩
  obtain ⟨p, hp⟩ : ∃ p, h0.p = p := ⟨_, rfl⟩
  have HI0 : Hid (AtI w p N L 0 h0 D0 w1) := Lib.hid ⟨hh0, hp, e1, by rw [e2]; funext j; simp, e3, fun b hb => (e4 b (.inr hb)).1, e5⟩
  rw [hp]
  clear hh0 e1 e2 e3 e4 e5 hp HNW
  go_wp2_with fail
  go_loopw [6] (fun vi wr => ∃ (i : Nat) (h : Ho) (D : Nat → Prop), vi = .int .i64 (i : Int) ∧ i ≤ M ∧ i ≤ 40 ∧ Hid (AtI w p N L i h D wr)) (fun vi _ => 40 - (intOf vi).toNat)
  case atStart => exact ⟨0, h0, D0, rfl, Nat.zero_le _, Nat.zero_le _, HI0⟩
  case round =>
    clear HI0
    obtain ⟨wo, rfl⟩ : ∃ wo : World, wo = wr := ⟨_, rfl⟩
    obtain ⟨i, h, D, rfl, hiM, hi40, HI⟩ := hrel
    by_cases hlt : i < M ∧ i < 40
    · obtain ⟨hlt1, hlt2⟩ := hlt
      have d1 : decide ((i : Int) < (M : Int)) = true := by simp; omega
      have d2 : decide ((i : Int) < 40) = true := by simp; omega
      obtain ⟨gq, oq, rfl, hgq, hqat⟩ := HQ.out (by omega)
      obtain ⟨q0, ⟨ua, q1, ha⟩, ut, q2, ht⟩ := hqat i hlt1
      have ec : ∀ j, wo.cell? ⟨gq, j, none⟩ = w.cell? ⟨gq, j, none⟩ := fun j => HI.out.acc.cell (p := ⟨gq, j, none⟩) hgq
      rw [← ec] at q0 q1 q2
      obtain ⟨Aa, ca, rfl⟩ := ha.form
      obtain ⟨At, ct, rfl, _⟩ := ht.form
      obtain ⟨nT, hnT⟩ : ∃ nT, (Q i).T.length = nT := ⟨_, rfl⟩
      obtain ⟨na, hna⟩ : ∃ na, (Q i).n = na := ⟨_, rfl⟩
      obtain ⟨zi, hzi⟩ : ∃ zi, (Q i).idx = zi := ⟨_, rfl⟩
      have HTT := Lib.hid ht
      have HAA := Lib.hid ha
      rw [hnT] at q2 HTT
      rw [hna] at q1 HAA
      rw [hzi] at q0
      have HNT := Lib.hid hnT
      have HNA := Lib.hid hna
      have HZI := Lib.hid hzi
      have HQC : Hid (∀ w', Below wo.heap.size wo w' → w'.cell? ⟨gq, oq + i * 3, none⟩ = some (.int .i64 zi) ∧ w'.cell? ⟨gq, oq + i * 3 + 1, none⟩ = some (.slice Aa na ca) ∧ w'.cell? ⟨gq, oq + i * 3 + 2, none⟩ = some (.slice At nT ct)) :=
        Lib.hid fun w' hb => ⟨(hb.cell (p := ⟨gq, _, none⟩) (Nat.lt_of_lt_of_le hgq HI.out.acc.size)).trans q0, (hb.cell (p := ⟨gq, _, none⟩) (Nat.lt_of_lt_of_le hgq HI.out.acc.size)).trans q1, (hb.cell (p := ⟨gq, _, none⟩) (Nat.lt_of_lt_of_le hgq HI.out.acc.size)).trans q2⟩
      clear ha ht hqat ec hnT hna hzi q0 q1 q2
      go_upto_block 2 with fail
      have HX0 : Hid ((wo.alloc (.cells #[.slice none 0 0, .slice none 0 0] 36)).heap[wo.heap.size]? = some (.cells #[.slice none 0 0, .slice none 0 0] 36 (0, 0))) := Lib.hid (heap_alloc_new wo _)
      have HB0 : Hid (Below wo.heap.size wo (wo.alloc (.cells #[.slice none 0 0, .slice none 0 0] 36))) := Lib.hid ((Below.refl _ _).alloc (Nat.le_refl _) _)
      go_cut [] from 17 to 196 (fun wx => ∃ (rv : Value) (ts : List Int), ts.length ≤ 6 ∧ Hid (Below wo.heap.size wo wx) ∧ Hid (wx.heap[wo.heap.size]? = some (.cells #[.slice none 0 0, rv] 36 (0, 0))) ∧ Hid (IntsK (Nw wo wx) wx rv ts))
      case first =>
        as_aux_lemma =>
          go_wp2_with fail
          go_loopw [8] (fun vk wt => ∃ (k : Nat) (rv : Value) (ts : List Int), vk = .int .i64 (k : Int) ∧ k ≤ nT ∧ k ≤ 6 ∧ Hid (ts.length = k) ∧ Hid (TRow wo wt rv ts k)) (fun vk _ => 6 - (intOf vk).toNat)
          case atStart => exact ⟨0, .slice none 0 0, [], rfl, Nat.zero_le _, Nat.zero_le _, Lib.hid rfl, Lib.hid ⟨HB0.out, HX0.out, World.ownsRow_nil _ _ _ _, fun b hb => by cases hb⟩⟩
          case round =>
            clear HX0 HB0
            obtain ⟨k, rv, ts, rfl, hkn, hk6, HLT, HTR⟩ := hrel
            by_cases hkk : k < nT ∧ k < 6
            · obtain ⟨hk1, hk2⟩ := hkk
              have dk1 : decide (k < nT) = true := by simp; omega
              have dk2 : decide ((k : Int) < 6) = true := by simp; omega
              obtain ⟨q0, q1, q2⟩ := HQC.out wr HTR.out.acc
              obtain ⟨gt, ot, ct2, het, hgt, hct⟩ : ∃ (g o c2 : Nat), Value.slice At nT ct = .slice (some ⟨g, o, none⟩) nT c2 ∧ g < w.heap.size ∧ ∀ j, j < nT → w.cell? ⟨g, o + j, none⟩ = some (.int .i64 ((Q i).T.getD j 0)) := by
                obtain ⟨A', c', he, _, _, h3⟩ := HTT.out
                rw [HNT.out] at he h3
                obtain ⟨g, o, rfl, h4, h5⟩ := h3 (by omega)
                exact ⟨g, o, c', he, h4, h5⟩
              simp only [Value.slice.injEq] at het
              obtain ⟨rfl, -, rfl⟩ := het
              obtain ⟨Ar, cr, rfl⟩ := owns_slice HTR.out.own
              obtain ⟨z, hz⟩ : ∃ z, (Q i).T.getD k 0 = z := ⟨_, rfl⟩
              have qt : wr.cell? ⟨gt, ot + k, none⟩ = some (.int .i64 z) := by
                rw [← hz, ← hct k hk1]
                exact (HI.out.acc.trans (HTR.out.acc.mono HI.out.acc.size)).cell (p := ⟨gt, _, none⟩) hgt
              have qx : wr.cell? ⟨wo.heap.size, 1, none⟩ = some (.slice Ar k cr) := by rw [cell_of_row _ _ _ _ _ _ HTR.out.box]; rfl
              have hws := HI.out.acc.size
              have hxl := (Array.getElem?_eq_some_iff.1 HTR.out.box).1
              have HE : Hid (∀ wz, Keeps (fun b => b < wr.heap.size ∧ (Value.slice Ar k cr).ownBlock ≠ some b) wr wz → wz.cell? ⟨gq, oq + i * 3 + 2, none⟩ = some (.slice (some ⟨gt, ot, none⟩) nT ct) ∧ wz.cell? ⟨gt, ot + k, none⟩ = some (.int .i64 z) ∧ wz.cell? ⟨wo.heap.size, 1, none⟩ = some (.slice Ar k cr)) := Lib.hid fun wz hk =>
                ⟨(hk.cell (p := ⟨gq, _, none⟩) ⟨show gq < wr.heap.size by omega, fun e => absurd (HTR.out.far gq e) (by omega)⟩).trans q2, (hk.cell (p := ⟨gt, _, none⟩) ⟨show gt < wr.heap.size by omega, fun e => absurd (HTR.out.far gt e) (by omega)⟩).trans qt, (hk.cell (p := ⟨wo.heap.size, _, none⟩) ⟨hxl, fun e => absurd (HTR.out.far wo.heap.size e) (by omega)⟩).trans qx⟩
              clear hz qt hct q0 q1 qx
              go_wp2_with fail
              clear q2
              refine Rest.start (S := fun wz => Keeps (fun b => b < wr.heap.size ∧ (Value.slice Ar k cr).ownBlock ≠ some b) wr wz) (X := 18) (by kernel_rfl) ?_
              show Rest _ _ _ _ _ _ 19 #[false, false, false, false, false, false, false, false, false, false, false, false, false, false, false, false, false, false, false] _ _
              have hS : Keeps (fun b => b < wr.heap.size ∧ (Value.slice Ar k cr).ownBlock ≠ some b) wr wr.drew := .below ((Below.refl _ _).drew) fun _ h => h.1
              have hSB : Below wr.heap.size wr wr.drew := (Below.refl _ _).drew
              generalize wr.drew = x1 at hS hSB ⊢
              refine Rest.tk 0 43 rfl hS ?_
              refine Rest.tk 1 44 rfl hS ?_ (hy := by intro w' hSw; obtain ⟨a0, a1, a2⟩ := HE.out w' hSw; go_simp; try with_reducible rfl)
              refine Rest.tk 3 46 rfl hS ?_
              refine Rest.tk 4 47 rfl hS ?_
              refine Rest.tk 5 48 rfl hS ?_
              refine Rest.tk 6 49 rfl hS ?_
              refine Rest.tk 7 50 rfl hS ?_ (hy := by intro w' hSw; obtain ⟨a0, a1, a2⟩ := HE.out w' hSw; go_simp; try with_reducible rfl)
              refine Rest.tk 8 51 rfl hS ?_
              refine Rest.tk 9 52 rfl hS ?_
              refine Rest.tk 10 53 rfl hS ?_ (hy := by intro w' hSw; obtain ⟨a0, a1, a2⟩ := HE.out w' hSw; go_simp; try with_reducible rfl)
              obtain ⟨q, r, hr3, hq1, hq2⟩ := and3 z
              have hr4 : (r : Int) < 3 := by omega
              refine Rest.tk 11 54 rfl hS ?_
              refine Rest.tk 12 55 rfl hS ?_
              refine Rest.om 2 45 rfl fun K hK => ?_
              go_simp
              have hS2 : Keeps (fun b => b < wr.heap.size ∧ (Value.slice Ar k cr).ownBlock ≠ some b) wr (x1.alloc (.cells #[.int .i64 127, .int .i64 126, .int .i64 124] 3)) := hS.trans (.below ((Below.refl _ _).alloc (Nat.le_refl _) _) fun b hb => Nat.lt_of_lt_of_le hb.1 hSB.size)
              have hSB2 : Below wr.heap.size wr (x1.alloc (.cells #[.int .i64 127, .int .i64 126, .int .i64 124] 3)) := hSB.alloc hSB.size _
              have hkc := kinds_cell x1 r hr3
              have hx1l : x1.heap.size < (x1.alloc (.cells #[.int .i64 127, .int .i64 126, .int .i64 124] 3)).heap.size := by simp
              have hx1g := hSB.size
              refine hK.out _ _ (.inr hS2) ?_
              clear hK K hS hSB
              try simp only [List.setIfInBounds_toArray, List.set]
              obtain ⟨zk, hzk⟩ : ∃ zk, kinds.getD r 0 = zk := ⟨_, rfl⟩
              rw [hzk] at hkc
              generalize x1.alloc (.cells #[.int .i64 127, .int .i64 126, .int .i64 124] 3) = x2 at hS2 hSB2 hkc hx1l ⊢
              refine Rest.tk 13 56 rfl hS2 ?_
              refine Rest.om 14 57 rfl fun K hK => ?_
              go_simp
              refine hK.out _ _ (.inr hS2) ?_
              clear hK K
              try simp only [List.setIfInBounds_toArray, List.set]
              refine Rest.om 15 58 rfl fun K hK => ?_
              go_simp
              have hS3 : Keeps (fun b => b < wr.heap.size ∧ (Value.slice Ar k cr).ownBlock ≠ some b) wr (x2.alloc (.cells #[.int .i64 zk] 3)) := hS2.trans (.below ((Below.refl _ _).alloc (Nat.le_refl _) _) fun b hb => Nat.lt_of_lt_of_le hb.1 hSB2.size)
              have hSB3 : Below wr.heap.size wr (x2.alloc (.cells #[.int .i64 zk] 3)) := hSB2.alloc hSB2.size _
              have hnews := news_new x2 #[.int .i64 zk] 3 1 1
              refine hK.out _ _ (.inr hS3) ?_
              clear hK K hS2
              try simp only [List.setIfInBounds_toArray, List.set]
              have how : (x2.alloc (.cells #[.int .i64 zk] 3)).ownsRow 0 3 1 (.slice Ar k cr) k (ts.map (Value.int .i64)) := by
                refine owns_keep (K := fun b => b < wr.heap.size) HTR.out.own (.below hSB3 fun _ h => h) fun g e => ?_
                rcases HTR.out.own.2 with ⟨h9, _⟩ | ⟨g', cap, cur, h9, _, hg, _⟩
                · rw [h9] at e; cases e
                · rw [h9] at e
                  have e2 : g' = g := by simpa [Value.ownBlock] using e
                  rw [← e2]; exact (Array.getElem?_eq_some_iff.1 hg).1
              have hws3 := hSB3.size
              generalize x2.alloc (.cells #[.int .i64 zk] 3) = x3 at hS3 hSB3 hnews how hws3 ⊢
              have hone : ∀ u ∈ ([.int .i64 zk] : List Value), u.oneCell' = true := by
                intro u hu; simp only [List.mem_cons, List.not_mem_nil, or_false] at hu; rw [hu]; rfl
              refine Rest.om 16 59 rfl fun K hK => ?_
              refine step_append_row rfl (.tmp 44) (.tmp 58) 28 3 rfl _ 1 8 Try.underlying28 Try.infoInt rfl (by decide) (by decide) (.slice Ar k cr) k (ts.map (Value.int .i64)) (by rfl) how _ 1 [.int .i64 zk] (by rfl) (by rfl) hnews hone (by omega) ?_
              intro v' x4 hown hgr hat
              obtain ⟨A3, c3, rfl⟩ := owns_slice hown
              have hS4 : Keeps (fun b => b < wr.heap.size ∧ (Value.slice Ar k cr).ownBlock ≠ some b) wr x4 := hS3.trans (.grown hgr (fun b hb => Nat.lt_of_lt_of_le hb.1 hws3) (fun j e hk => hk.2 e))
              refine hK.out _ _ (.inr hS4) ?_
              clear hK K hS3
              try simp only [Act.put, List.setIfInBounds_toArray, List.set]
              refine Rest.tk 17 60 rfl hS4 ?_
              refine Rest.on 18 rfl fun K hK => ?_
              have hbx := (hS4.block wo.heap.size ⟨hxl, fun e => absurd (HTR.out.far wo.heap.size e) (by omega)⟩).trans HTR.out.box
              have z1 : x4.cell? ⟨wo.heap.size, 1, none⟩ = some (.slice Ar k cr) := by rw [cell_of_row _ _ _ _ _ _ hbx]; rfl
              have f1 := frozen_of_row x4 wo.heap.size 1 _ _ hbx
              go_simp
              refine hK.out _ _ (.inl rfl) ?_
              clear hK K z1 f1
              refine Rest.done (by kernel_rfl) ?_ _
              have hfar : ∀ b, (Value.slice A3 (k + 1) c3).ownBlock = some b → wo.heap.size < b := fun b hb => by
                rcases hat with h9 | h9
                · exact HTR.out.far b (h9.symm.trans hb)
                · have e2 : x3.heap.size = b := by have := h9.symm.trans hb; simpa using this
                  omega
              have hba : Below wo.heap.size wo x4 := HTR.out.acc.trans (hS4.to_below fun b hb => ⟨by omega, fun e => absurd (HTR.out.far b e) (by omega)⟩)
              have hT2 : TRow wo (x4.setCell ⟨wo.heap.size, 1, none⟩ (.slice A3 (k + 1) c3)) (.slice A3 (k + 1) c3) (ts ++ [zk]) (k + 1) := by
                refine ⟨hba.setCell (Nat.le_refl _) _, heap_setCell_same x4 wo.heap.size 1 _ _ _ hbx, ?_, hfar⟩
                rw [List.map_append]
                exact owns_keep (K := fun b => b ≠ wo.heap.size) hown (Keeps.setCell x4 (fun h => h rfl) _) fun b hb => by have := hfar b hb; omega
              have HT2 := Lib.hid hT2
              clear hT2 hba hfar hown hgr hat how hnews hbx
              go_wp2
              go_roundw
              case rel => exact ⟨k + 1, _, ts ++ [zk], by go_num, by omega, by omega, Lib.hid (by rw [List.length_append, HLT.out]; rfl), HT2⟩
              case measure => simp [intOf]; omega
            · have hways : (¬ k < nT ∧ decide (k < nT) = false) ∨ (k < nT ∧ decide (k < nT) = true ∧ decide ((k : Int) < 6) = false) := by simp; omega
              rcases hways with ⟨dk0, dk1⟩ | ⟨dk0, dk1, dk2⟩
              all_goals
                obtain ⟨q0, q1, q2⟩ := HQC.out wr HTR.out.acc
                go_wp2
                go_meet
                exact ⟨rv, ts, by rw [HLT.out]; exact hk6, Lib.hid HTR.out.acc, Lib.hid HTR.out.box, Lib.hid (owns_intsK' HTR.out.own HTR.out.far hk6 HLT.out)⟩
      case rest =>
        clear HX0 HB0
        obtain ⟨w2, rfl⟩ : ∃ w2 : World, w2 = wc := ⟨_, rfl⟩
        obtain ⟨rv, ts, hts6, HB, HX, HR⟩ := hcut
        obtain ⟨m, hm⟩ : ∃ m, ts.length = m := ⟨_, rfl⟩
        obtain ⟨Ar, cr, rfl, _⟩ := HR.out.form
        obtain ⟨q0, q1, q2⟩ := HQC.out w2 HB.out
        have x0 : w2.cell? ⟨wo.heap.size, 0, none⟩ = some (.slice none 0 0) := by rw [cell_of_row _ _ _ _ _ _ HX.out]; rfl
        have x1 : w2.cell? ⟨wo.heap.size, 1, none⟩ = some (.slice Ar m cr) := by rw [cell_of_row _ _ _ _ _ _ HX.out, ← hm]; rfl
        have hxl := (Array.getElem?_eq_some_iff.1 HX.out).1
        have hws := HI.out.acc.size
        have hwb := HB.out.size
        have hnp : ∀ b, b < w.heap.size ∨ Nw wo w2 b → b < w2.heap.size ∧ ¬ h.priv b := fun b hb => by
          rcases hb with hb | hb
          · exact ⟨by omega, fun hp => by have := HI.out.lo b hp; omega⟩
          · exact HI.out.at_.apart hb
        have HNP := Lib.hid hnp
        have HASK := Lib.hid fun (x : World) (hx : Below w2.heap.size w2 x) => (ask_any (K := fun b => b < w.heap.size) (K' := Nw wo w2) zi (HI.out.at_.below (HB.out.trans (hx.mono HB.out.size))) ((HAA.out.keep (K' := fun b => b < w.heap.size) (.below (HI.out.acc.trans (HB.out.mono hws)) fun _ h => h) fun _ h => h).keep (K' := fun b => b < w.heap.size) (.below hx fun b hb => by omega) fun _ h => h) (fun b hb => ⟨Nat.lt_of_lt_of_le (HNP.out b (.inl hb)).1 hx.size, (HNP.out b (.inl hb)).2⟩) ⟨none, 0, 0, rfl⟩ (HR.out.keep (K' := Nw wo w2) (.below hx fun b hb => hb.2) fun _ h => h) (fun b hb => ⟨Nat.lt_of_lt_of_le (HNP.out b (.inr hb)).1 hx.size, (HNP.out b (.inr hb)).2⟩) (by omega) (by rw [HI.out.k]; omega)).mono fun _ _ h => h.two
        rw [hm, HI.out.p] at HASK
        have HE : Hid (∀ wz, Keeps (h.kept w2) w2 wz → wz.cell? ⟨gq, oq + i * 3, none⟩ = some (.int .i64 zi) ∧ wz.cell? ⟨gq, oq + i * 3 + 1, none⟩ = some (.slice Aa na ca) ∧ wz.cell? ⟨wo.heap.size, 0, none⟩ = some (.slice none 0 0) ∧ wz.cell? ⟨wo.heap.size, 1, none⟩ = some (.slice Ar m cr)) := Lib.hid fun wz hk =>
          ⟨(hk.cell (p := ⟨gq, _, none⟩) (HNP.out gq (.inl hgq))).trans q0, (hk.cell (p := ⟨gq, _, none⟩) (HNP.out gq (.inl hgq))).trans q1, (hk.cell (p := ⟨wo.heap.size, _, none⟩) (HNP.out _ (.inr ⟨Nat.le_refl _, hxl⟩))).trans x0, (hk.cell (p := ⟨wo.heap.size, _, none⟩) (HNP.out _ (.inr ⟨Nat.le_refl _, hxl⟩))).trans x1⟩
        have HM := Lib.hid hm
        clear hnp q0 q1 q2 x0 x1 hm
        go_wp2_with fail
        refine Rest.start (S := fun wz => Keeps (h.kept w2) w2 wz) (X := 17) (by kernel_rfl) ?_
        show Rest _ _ _ _ _ _ 18 #[false, false, false, false, false, false, false, false, false, false, false, false, false, false, false, false, false, false] _ _
        have hS : Keeps (h.kept w2) w2 w2.drew := .below ((Below.refl _ _).drew) fun _ h => h.1
        have hSB : Below w2.heap.size w2 w2.drew := (Below.refl _ _).drew
        generalize w2.drew = x1 at hS hSB ⊢
        refine Rest.tk 0 62 rfl hS ?_
        refine Rest.tk 1 63 rfl hS ?_
        refine Rest.tk 2 64 rfl hS ?_
        refine Rest.tk 3 65 rfl hS ?_
        refine Rest.tk 4 66 rfl hS ?_
        refine Rest.tk 5 67 rfl hS ?_ (hy := by intro w' hSw; obtain ⟨a0, a1, a2, a3⟩ := HE.out w' hSw; go_simp; try with_reducible rfl)
        refine Rest.tk 6 68 rfl hS ?_
        refine Rest.tk 7 69 rfl hS ?_
        refine Rest.tk 8 70 rfl hS ?_
        refine Rest.tk 9 71 rfl hS ?_
        refine Rest.tk 10 72 rfl hS ?_ (hy := by intro w' hSw; obtain ⟨a0, a1, a2, a3⟩ := HE.out w' hSw; go_simp; try with_reducible rfl)
        refine Rest.tk 11 73 rfl hS ?_ (hy := by intro w' hSw; obtain ⟨a0, a1, a2, a3⟩ := HE.out w' hSw; go_simp; try with_reducible rfl)
        refine Rest.om 12 74 rfl fun K hK => ?_
        go_simp
        go_at_call 8
        refine (HASK.out x1 hSB).mono ?_
        rintro e w3 ⟨va, h3, D3, rfl, hva, hh3, e1, e2, e3, e4, e8, e5, e6, e7⟩
        have hk23 : Keeps (h.kept w2) w2 w3 := hS.trans (e7.mono fun b hb => ⟨Nat.lt_of_lt_of_le hb.1 hSB.size, hb.2⟩)
        obtain ⟨Av, cv, rfl⟩ := hva.form
        have hI3 : AtI w p N L (i + 1) h3 D3 w3 := by
          refine ⟨hh3, e1.trans HI.out.p, by rw [e2, HI.out.N]; omega, ?_, by rw [e4, HI.out.k], fun b hb => ?_, ?_⟩
          · rw [e3, HI.out.L]; funext j; show L (i + (j + 1)) = L (i + 1 + j); congr 1; omega
          · rcases e6 b hb with h9 | h9
            · exact HI.out.lo b h9
            · have := h9.1; have := hSB.size; omega
          · exact (HI.out.acc.trans (HB.out.mono hws)).trans (hk23.to_below fun b hb => HNP.out b (.inl hb))
        have HI3 := Lib.hid hI3
        have HVA := Lib.hid (hva.mono (K' := fun b => b < w3.heap.size) fun b hb => hb.1.2)
        have hC3 : h3.C i = ⟨zi, na, (Q i).f⟩ := (congrArg h3.C HI.out.k).symm.trans e8
        have HC3 := Lib.hid hC3
        have x1 := (HE.out w3 hk23).2.2.2
        have HR3 := Lib.hid (HR.out.keep (K' := Nw wo w2) (hk23.mono fun b hb => HNP.out b (.inr hb)) fun _ h => h)
        have HK23 := Lib.hid hk23
        clear hva hh3 e1 e2 e3 e4 e5 e6 e7 e8 hI3 hC3
        go_wp2_with fail
        refine hK.out _ _ (.inr hk23) ?_
        clear hK K hS hSB
        try simp only [List.setIfInBounds_toArray, List.set]
        refine Rest.tk 13 61 rfl hk23 ?_
        refine Rest.tk 14 75 rfl hk23 ?_
        refine Rest.tk 15 76 rfl hk23 ?_
        refine Rest.tk 16 9 rfl hk23 ?_
        refine Rest.om 17 10 rfl fun K hK => ?_
        go_simp
        refine hK.out _ _ (.inl rfl) ?_
        clear hK K
        try simp only [List.setIfInBounds_toArray, List.set]
        refine Rest.done (by kernel_rfl) ?_ _
        have hmk := run_make_words m (by rw [← HM.out]; omega) w3
        have HFW : Hid (FRow (w3.alloc (.cells (rowF m (fun _ => 0)) 27)) w3.heap.size m (fun _ => 0)) := Lib.hid (frow_new m _ w3)
        have HBW : Hid (Below w3.heap.size w3 (w3.alloc (.cells (rowF m (fun _ => 0)) 27))) := Lib.hid ((Below.refl _ _).alloc (Nat.le_refl _) _)
        have HX1 := Lib.hid x1
        have HLF : Hid (∀ j, j < h.first.n → h.first.f j < 18446744073709551616) := Lib.hid ?hlf
        case hlf =>
          obtain ⟨A', c', h1, h2, cs, _, h4⟩ := HI.out.at_.left
          intro j hj
          unfold Ho.first at hj ⊢
          split at hj
          · rename_i h0
            rw [if_pos h0]
            obtain ⟨o, _, h5⟩ := h4 h0
            obtain ⟨⟨u, _, h6⟩, _⟩ := h5 0 h0
            exact h6.lt j hj
          · exact absurd hj (Nat.not_lt_zero _)
        clear hk23
        go_upto_if 84 with fail
        have HF0 := HFW
        go_cut [12] from 17 to 196 (fun tv wx => ∃ g : Nat → Nat, tv = .bool h.first.trap ∧ Hid (Below w3.heap.size w3 wx) ∧ Hid (FRow wx w3.heap.size m g) ∧ Hid (∀ j, j < m → g j = fitV h.first.n h.first.f ts j))
        case first =>
          as_aux_lemma =>
            --A
            by_cases hiN : i < N
            · have hfst : h.first = L i := by unfold Ho.first; rw [if_pos (by rw [HI.out.N]; omega), HI.out.L]; rfl
              obtain ⟨A', c', he, _, _, hat⟩ := HV.out
              simp only [Value.slice.injEq, true_and] at he
              obtain ⟨rfl, rfl⟩ := he
              obtain ⟨g, o, rfl, hg, hat⟩ := hat (by omega)
              obtain ⟨⟨u, l0, hu⟩, l1⟩ := hat i hiN
              obtain ⟨Aw, cw, rfl⟩ := hu.form
              have hgw := hK g hg
              have hacc := HI3.out.acc
              have hwl := hacc.size
              rw [hfst] at HLF
              have HFST := Lib.hid hfst
              obtain ⟨ni, hni⟩ : ∃ ni, (L i).n = ni := ⟨_, rfl⟩
              obtain ⟨fi, hfi⟩ : ∃ fi, (L i).f = fi := ⟨_, rfl⟩
              obtain ⟨tr, htr⟩ : ∃ tr, (L i).trap = tr := ⟨_, rfl⟩
              rw [hni] at l0 hu HLF
              rw [hfi] at hu HLF
              rw [htr] at l1
              have HNI := Lib.hid hni
              have HFI := Lib.hid hfi
              have HTRP := Lib.hid htr
              have HU := Lib.hid hu
              have HEL : Hid (∀ w', Below w3.heap.size w3 w' → w'.cell? ⟨g, o + i * 2, none⟩ = some (.slice Aw ni cw) ∧ w'.cell? ⟨g, o + i * 2 + 1, none⟩ = some (.bool tr) ∧ w'.cell? ⟨wo.heap.size, 1, none⟩ = some (.slice Ar m cr)) := Lib.hid fun w' hb =>
                ⟨((hacc.trans (hb.mono hwl)).cell (p := ⟨g, _, none⟩) hgw).trans l0, ((hacc.trans (hb.mono hwl)).cell (p := ⟨g, _, none⟩) hgw).trans l1, (hb.cell (p := ⟨wo.heap.size, _, none⟩) (Nat.lt_of_lt_of_le hxl HK23.out.size)).trans HX1.out⟩
              have HAC := Lib.hid hacc
              obtain ⟨y0, y1, y2⟩ := HEL.out _ HBW.out
              have hd : decide (i < N) = true := by simp; omega
              clear hat l0 l1 hu hfst hni hfi htr hacc x1
              go_wp2_with fail
              go_loopw [13] (fun vk wr => ∃ k : Nat, vk = .int .i64 (k : Int) ∧ k ≤ m ∧ k ≤ ni ∧ Hid (Below w3.heap.size w3 wr) ∧ Hid (FRow wr w3.heap.size m (fun j => if j < k then fitV ni fi ts j else 0))) (fun vk _ => m - (intOf vk).toNat)
              case atStart => exact ⟨0, rfl, Nat.zero_le _, Nat.zero_le _, HBW, by simpa using HFW⟩
              case round =>
                clear HBW HFW HF0 y0 y1 y2
                obtain ⟨k, rfl, hkm, hkn, HBR, HFR⟩ := hrel
                obtain ⟨y0, y1, y2⟩ := HEL.out wr HBR.out
                by_cases hkk : k < m ∧ k < ni
                · obtain ⟨hk1, hk2⟩ := hkk
                  have hm6 : m ≤ 6 := by rw [← HM.out]; exact hts6
                  have dk1 : decide (k < m) = true := by simp; omega
                  have dk2 : decide (k < ni) = true := by simp; omega
                  obtain ⟨gu, ou, rfl, hgu, hcu⟩ := HU.out.at_ (by omega)
                  have hgul := hK gu hgu
                  obtain ⟨gr, or_, cr2, her, hgr, hcr⟩ : ∃ (g o c2 : Nat), Value.slice Ar m cr = .slice (some ⟨g, o, none⟩) m c2 ∧ g < w2.heap.size ∧ ∀ j, j < m → w3.cell? ⟨g, o + j, none⟩ = some (.int .i64 (ts.getD j 0)) := by
                    obtain ⟨A', c', he, _, _, h3⟩ := HR3.out
                    rw [HM.out] at he h3
                    obtain ⟨g, o, rfl, h4, h5⟩ := h3 (by omega)
                    exact ⟨g, o, c', he, h4.2, h5⟩
                  simp only [Value.slice.injEq] at her
                  obtain ⟨rfl, -, rfl⟩ := her
                  obtain ⟨x, hx⟩ : ∃ x, fi k = x := ⟨_, rfl⟩
                  obtain ⟨z, hz⟩ : ∃ z, ts.getD k 0 = z := ⟨_, rfl⟩
                  have hxl2 : x < 18446744073709551616 := by rw [← hx]; exact HLF.out k hk2
                  have hfit : fitV ni fi ts k = if z = 127 then x % 4294967296 else x := by unfold fitV; rw [if_pos hk2, hz, hx]
                  have HC5 : Hid (∀ w', Below w3.heap.size w3 w' → w'.cell? ⟨gu, ou + k, none⟩ = some (.int .u64 (x : Int)) ∧ w'.cell? ⟨gr, or_ + k, none⟩ = some (.int .i64 z)) := Lib.hid fun w' hb =>
                    ⟨by rw [← hx]; exact ((HAC.out.trans (hb.mono hwl)).cell (p := ⟨gu, _, none⟩) hgul).trans (hcu k hk2), by rw [← hz]; exact (hb.cell (p := ⟨gr, _, none⟩) (Nat.lt_of_lt_of_le hgr HK23.out.size)).trans (hcr k hk1)⟩
                  have v0 := HFR.out.cell k hk1
                  have fz := HFR.out.frozen k
                  unfold wrd at v0
                  simp only [Nat.lt_irrefl, if_false] at v0
                  have hb1 : Below w3.heap.size w3 (wr.setCell ⟨w3.heap.size, k, none⟩ (.int .u64 (x : Int))) := HBR.out.setCell (Nat.le_refl _) _
                  have hr1 : FRow (wr.setCell ⟨w3.heap.size, k, none⟩ (.int .u64 (x : Int))) w3.heap.size m (upd (fun j => if j < k then fitV ni fi ts j else 0) k x) := HFR.out.set k x
                  obtain ⟨c0, c1⟩ := HC5.out wr HBR.out
                  have HB1 := Lib.hid hb1
                  have HR1 := Lib.hid hr1
                  have HFIT := Lib.hid hfit
                  have hm32 := and32 x hxl2
                  clear hb1 hr1 hcu hcr hx hz hfit c1
                  go_upto_region 21 with fail
                  generalize wr.setCell ⟨w3.heap.size, k, none⟩ (.int .u64 (x : Int)) = wr1 at HB1 HR1 ⊢
                  have t2 := (HEL.out wr1 HB1.out).2.2
                  have t3 := (HC5.out wr1 HB1.out).2
                  have v1 : wr1.cell? ⟨w3.heap.size, k, none⟩ = some (.int .u64 (x : Int)) := by rw [HR1.out.cell k hk1]; simp [upd, wrd]
                  have fz1 := HR1.out.frozen k
                  have hstep : ∀ y f', y = fitV ni fi ts k → f' k = y → (∀ j, j ≠ k → f' j = if j < k then fitV ni fi ts j else 0) → (fun j => if j < k + 1 then fitV ni fi ts j else 0) = f' := by
                    intro y f' hy h1 h2
                    funext j
                    by_cases hj : j = k
                    · subst hj; rw [if_pos (Nat.lt_succ_self _), h1, hy]
                    · rw [h2 j hj]
                      by_cases hj2 : j < k
                      · rw [if_pos hj2, if_pos (by omega)]
                      · rw [if_neg hj2, if_neg (by omega)]
                  have HSTEP := Lib.hid hstep
                  clear hstep c0 y0 y1 y2 v0 fz
                  by_cases hz : z = 127
                  · subst hz
                    go_wp2
                    go_roundw
                    case rel =>
                      have hr2 : FRow (wr1.setCell ⟨w3.heap.size, k, none⟩ (.int .u64 ((x % 4294967296 : Nat) : Int))) w3.heap.size m (upd (upd (fun j => if j < k then fitV ni fi ts j else 0) k x) k (x % 4294967296)) := HR1.out.set k (x % 4294967296)
                      have e := HSTEP.out (x % 4294967296) (upd (upd (fun j => if j < k then fitV ni fi ts j else 0) k x) k (x % 4294967296)) (by rw [HFIT.out]; rfl) (by simp [upd]) (fun j hj => by simp [upd, hj])
                      exact ⟨k + 1, by go_num, by omega, by omega, Lib.hid (HB1.out.setCell (Nat.le_refl _) _), Lib.hid (by rw [e]; exact hr2)⟩
                    case measure => simp [intOf]; omega
                  · have d1 : (z == 127) = false := by simpa using hz
                    have HNZ := Lib.hid hz
                    clear hz
                    go_wp2
                    go_roundw
                    case rel =>
                      have e := HSTEP.out x (upd (fun j => if j < k then fitV ni fi ts j else 0) k x) (by rw [HFIT.out, if_neg HNZ.out]) (by simp [upd]) (fun j hj => by simp [upd, hj])
                      exact ⟨k + 1, by go_num, by omega, by omega, HB1, Lib.hid (by rw [e]; exact HR1.out)⟩
                    case measure => simp [intOf]; omega
                · have hways : (¬ k < m ∧ decide (k < m) = false) ∨ (k < m ∧ decide (k < m) = true ∧ ¬ k < ni ∧ decide (k < ni) = false) := by simp; omega
                  have hend : ∀ j, j < m → (if j < k then fitV ni fi ts j else 0) = fitV ni fi ts j := fun j hj => by
                    by_cases hjk : j < k
                    · rw [if_pos hjk]
                    · rw [if_neg hjk]
                      unfold fitV
                      rw [if_neg (show ¬ j < ni by omega)]
                      split <;> rfl
                  have HEND := Lib.hid hend
                  clear hend
                  rcases hways with ⟨dk0, dk1⟩ | ⟨dk0, dk1, dk2, dk3⟩
                  all_goals
                    go_wp2
                    go_meet
                    exact ⟨_, by rw [HFST.out, HTRP.out], HBR, HFR, by rw [HFST.out, HNI.out, HFI.out]; exact HEND⟩
            · have hfst : h.first = noAns := by unfold Ho.first; rw [if_neg (by rw [HI.out.N]; omega)]
              have hd : decide (i < N) = false := by simp; omega
              have hz : ∀ j, j < m → 0 = fitV noAns.n noAns.f ts j := fun j _ => by
                unfold fitV noAns
                simp
              have HFST := Lib.hid hfst
              have HZ := Lib.hid hz
              clear hz hfst
              go_wp2
              go_meet
              exact ⟨fun _ => 0, by rw [HFST.out]; rfl, HBW, HFW, by rw [HFST.out]; exact HZ⟩
        case rest =>
          as_aux_lemma =>
            --B
            clear HBW HFW HF0 x1 hmk
            obtain ⟨w5, rfl⟩ : ∃ w5 : World, w5 = wc := ⟨_, rfl⟩
            obtain ⟨gw, rfl, HB5, HF5, HG5⟩ := hcut
            have hI5 := HI3.out.below HB5.out
            have HI5 := Lib.hid hI5
            have hlft := left_any hI5.at_
            rw [hI5.p, hI5.N] at hlft
            have HLFT := Lib.hid hlft
            have hcal := calls_any hI5.at_ (by rw [hI5.k]; omega)
            rw [hI5.p, hI5.k] at hcal
            have HCAL := Lib.hid hcal
            have hmax := max_left N i
            obtain ⟨r5, hr5⟩ : ∃ r : Int, ((N - (i + 1) : Nat) : Int) = r := ⟨_, rfl⟩
            have hv5 := HVA.out.keep (K' := fun b => b < w3.heap.size) (.below HB5.out fun _ h => h) fun _ h => h
            have hw5 : WordsF (fun _ => True) w5 (.slice (some ⟨w3.heap.size, 0, none⟩) m m) m (fitV h.first.n h.first.f ts) :=
              (HF5.out.words (K := fun _ => True) trivial (by rw [← HM.out]; omega) fun j hj => by rw [HG5.out j hj]; exact fitV_lt HLF.out ts j).congr HG5.out
            obtain ⟨tr, htr⟩ : ∃ tr, h.first.trap = tr := ⟨_, rfl⟩
            have hgv : h.gives ts = if tr = true then 0 else m := by unfold Ho.gives; rw [htr, HM.out]
            obtain ⟨gl, hgl⟩ : ∃ gl, h.gives ts = gl := ⟨_, rfl⟩
            rw [hgl] at hv5 hgv ⊢
            rw [htr]
            have HGV := Lib.hid hgv
            have HV5 := Lib.hid hv5
            have HW5 := Lib.hid hw5
            rw [hr5] at hmax HLFT
            clear hI5 hlft hcal hv5 hw5 hgv hgl htr
            go_upto_region 23 with fail
            go_cut [162] from 131 to 196 (fun c wx => c = .bool false ∧ ∃ q, wx = w5.drewN q)
            case first =>
              cases tr with
              | true =>
                have e0 : gl = 0 := HGV.out
                subst e0
                clear HV5 HGV
                go_wp2_with (go_at_call 10; refine HLFT.out.mono ?_; rintro e w6 ⟨rfl, rfl⟩)
                go_meet
                exact ⟨rfl, 0, rfl⟩
              | false =>
                have e0 : m = gl := HGV.out.symm
                subst e0
                clear HGV
                have HSM := Lib.hid (same_any HV5.out HW5.out fun _ _ => rfl)
                have HLF2 := Lib.hid fun (q : Nat) => left_any (HI5.out.below (below_drewN (Below.refl w5.heap.size w5) q)).at_
                have hp5 := HI5.out.p
                have hN5 := HI5.out.N
                rw [hp5, hN5, hr5] at HLF2
                clear HV5 HLFT hp5 hN5
                go_wp2_with (first
                  | (go_at_call 9; refine HSM.out.mono ?_; rintro e w6 ⟨rfl, q6, rfl⟩)
                  | (go_at_call 10; refine (HLF2.out _).mono ?_; rintro e w6 ⟨rfl, rfl⟩))
                go_meet
                exact ⟨rfl, q6, rfl⟩
            case rest =>
              obtain ⟨rfl, q, hwc⟩ := hcut
              obtain ⟨w6, rfl⟩ : ∃ w6 : World, w6 = wc := ⟨_, rfl⟩
              have hI6 : AtI w p N L (i + 1) h3 D3 w6 := by rw [hwc]; exact HI5.out.below (below_drewN (Below.refl w5.heap.size w5) q)
              have hb36 : Below w3.heap.size w3 w6 := by rw [hwc]; exact HB5.out.trans ((below_drewN (Below.refl w5.heap.size w5) q).mono HB5.out.size)
              have hcal := calls_any hI6.at_ (by rw [hI6.k]; omega)
              obtain ⟨n1, hn1⟩ : ∃ n1, i + 1 = n1 := ⟨_, rfl⟩
              rw [hI6.p, hI6.k, hn1] at hcal
              have HCAL := Lib.hid hcal
              have hin : i < n1 := by omega
              have hn41 : n1 ≤ 41 := by omega
              have hbn : ((n1 : Int) != IntKind.i64.wrap ((i : Int) + 1)) = false := by rw [IntKind.wrap_i64]; simp; omega
              have HI6 := Lib.hid hI6
              have HB36 := Lib.hid hb36
              clear hwc hI6 hb36 hcal hn1 HV5 HW5 HI5 HLFT hmax
              go_wp2_with fail
              go_at_call 11
              refine HCAL.out.mono ?_
              rintro e w7 ⟨v7, rfl, ⟨A7, c7, rfl, hc7⟩, hb7⟩
              obtain ⟨g7, rfl, hat7⟩ := hc7 (by omega)
              obtain ⟨k0, u7, k1, hu7⟩ := hat7 i hin
              rw [HC3.out] at k0 hu7
              have hI7 := HI6.out.below hb7
              have hu7' : WordsF (fun _ => True) w7 u7 na (Q i).f := hu7.mono fun _ _ => trivial
              have ha7 : WordsF (fun _ => True) w7 (.slice Aa na ca) na (Q i).f := (HAA.out.keep (K' := fun b => b < w.heap.size) (.below hI7.acc fun _ h => h) fun _ h => h).mono fun _ _ => trivial
              obtain ⟨A8, c8, rfl⟩ := hu7'.form
              have hb37 : Below w3.heap.size w3 w7 := HB36.out.trans (hb7.mono HB36.out.size)
              have hk27 : Keeps (h.kept w2) w2 w7 := HK23.out.trans (.below hb37 fun b hb => Nat.lt_of_lt_of_le hb.1 HK23.out.size)
              have HSM := Lib.hid fun (q : Nat) => same_any (hu7'.keep (K' := fun _ => True) (Keeps.drewN w7 q) fun _ h => h) (ha7.keep (K' := fun _ => True) (Keeps.drewN w7 q) fun _ h => h) fun _ _ => rfl
              obtain ⟨a0, a1, _, _⟩ := HE.out w7 hk27
              have HI7 := Lib.hid hI7
              clear hat7 hu7 hI7 hu7' ha7 hb37 hk27 hc7
              go_wp2_with fail
              go_quiet (first | (go_at_call 9; exact Calls.quiet_of (HSM.out _)))
              clear hbn
              go_wp2
              go_roundw
              case rel => exact ⟨i + 1, h3, D3, by go_num, by omega, by omega, Lib.hid (HI7.out.below (below_drewN (Below.refl w7.heap.size w7) _))⟩
              case measure => simp [intOf]; omega
    · have hways : (¬ i < M ∧ decide (i < M) = false) ∨ (i < M ∧ decide (i < M) = true ∧ decide ((i : Int) < 40) = false) := by simp; omega
      rcases hways with ⟨dk0, dk1⟩ | ⟨dk0, dk1, dk2⟩
      all_goals
        go_wp2_with (go_at_call 6; refine (known_any _).mono ?_; rintro e w9 ⟨rfl, hb9⟩)
        go_ret
        exact ⟨rfl, HI.out.acc.trans (hb9.mono HI.out.acc.size)⟩
end Go.Proofs.Ytlgfappnlnhddaa
