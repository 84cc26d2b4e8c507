/- The document's planes: Paste. -/
import Derived.Test.YtkgfohodahkmmaaPrI
namespace Go.Proofs.Ytkgfohodahkmmaa
open Go.RowKit
set_option linter.unusedVariables false
set_option linter.unusedSimpArgs false

set_option maxHeartbeats 1000000 in
set_option maxRecDepth 100000 in
theorem within_any (i s n : Int) (h0 : 0 ≤ i) (h1 : i ≤ 1024) (h2 : 1 ≤ n) (h3 : n ≤ 1024) (w : World) : Calls Try.prog 56 #[.int .i64 i, .int .i64 s, .int .i64 n] w fun e w' => e = .returned (.bool (lieB i s n)) ∧ w' = w := by
  have hw : IntKind.i64.wrap (i - n) = i - n := by rw [IntKind.wrap_i64]; omega
  by_cases g1 : s ≤ i
  · by_cases g2 : i - n < s
    · rw [lieB_true.2 ⟨g1, g2⟩]
      have g3 : -1099511627776 < s := by omega
      go_enter Try.func56, Try.ntmps56
      go_wp2_with fail
      go_ret
      exact ⟨rfl, rfl⟩
    · have e : lieB i s n = false := by unfold lieB; simp [g2]
      rw [e]
      clear e
      have g3 : decide (i - n < s) = false := decide_eq_false g2
      go_enter Try.func56, Try.ntmps56
      go_wp2_with fail
      go_ret
      exact ⟨rfl, rfl⟩
  · have e : lieB i s n = false := by unfold lieB; simp [g1]
    rw [e]
    clear e
    have g3 : decide (s ≤ i) = false := decide_eq_false g1
    go_enter Try.func56, Try.ntmps56
    go_wp2_with fail
    go_ret
    exact ⟨rfl, rfl⟩
/-- How far a list is written over. -/
structure Over (w wr : World) (b n : Nat) (L : Nat → Nat) (S : List Nat) (k : Nat) : Prop where
  q : Q w wr
  new : w.heap.size ≤ b
  done : ∀ i, i < k → wr.cell? ⟨b, i, none⟩ = some (.int .u32 (L i : Nat))
  rest : ∀ i, k ≤ i → i < n → wr.cell? ⟨b, i, none⟩ = some (.int .u32 (S.getD i 0 : Nat))
  free : ∀ j, wr.frozen? ⟨b, j, none⟩ = false
theorem Over.next {w wr wx : World} {b n k : Nat} {L : Nat → Nat} {S : List Nat} (h : Over w wr b n L S k) (q : Q wr wx) : Over w wx b n L S k where
  q := h.q.trans q
  new := h.new
  done := fun i hi => q.cell (h.done i hi)
  rest := fun i h1 h2 => q.cell (h.rest i h1 h2)
  free := fun j => by rw [q.2]; exact h.free j
theorem Over.keep {w wr : World} {b n k : Nat} {L : Nat → Nat} {S : List Nat} (h : Over w wr b n L S k) (hk : k < n) (hv : S.getD k 0 = L k) : Over w wr b n L S (k + 1) := by
  refine ⟨h.q, h.new, fun i hi => ?_, fun i h1 h2 => h.rest i (by omega) h2, h.free⟩
  by_cases e : i = k
  · subst e; rw [← hv]; exact h.rest i (Nat.le_refl _) hk
  · exact h.done i (by omega)
theorem Over.step {w wr : World} {b n k : Nat} {L : Nat → Nat} {S : List Nat} (h : Over w wr b n L S k) (hk : k < n) {v : Nat} (hv : v = L k) : Over w (wr.setCell ⟨b, k, none⟩ (.int .u32 (v : Nat))) b n L S (k + 1) := by
  subst hv
  have hu := h.rest k (Nat.le_refl _) hk
  refine ⟨h.q.set h.new _, h.new, fun i hi => ?_, fun i h1 h2 => ?_, fun j => ?_⟩
  · by_cases e : i = k
    · subst e; exact World.cell?_setCell_same _ _ _ hu
    · rw [World.cell?_setCell_other _ _ _ _ (by simp <;> omega)]; exact h.done i (by omega)
  · rw [World.cell?_setCell_other _ _ _ _ (by simp <;> omega)]; exact h.rest i (by omega) h2
  · rw [World.frozen?_setCell]; exact h.free j
set_option maxHeartbeats 8000000 in
set_option maxRecDepth 100000 in
theorem rpaste_good {a b : Nat} (hs : Size a b) {S : List Nat} (hl : S.length = a * b) (g o cap : Nat) {c d : Nat} (hs' : Size c d) {T : List Nat} (hl' : T.length = c * d) (g' o' cap' : Nat) (PX PY : Int) (w : World) (hu : UIs w g o S) (hu' : UIs w g' o' T) :
    Calls Try.prog 25 #[.agg #[.int .i64 (a : Int), .int .i64 (b : Int), .slice (some ⟨g, o, none⟩) S.length cap], .agg #[.int .i64 (c : Int), .int .i64 (d : Int), .slice (some ⟨g', o', none⟩) T.length cap'], .int .i64 PX, .int .i64 PY] w (Mk w a b (tab a b (pasV S a T c d PX PY))) := by
  have hb : ((0 : Int) != 0) = false := by decide
  have hn : S.length ≤ 65536 := by rw [hl]; exact hs.ab
  have hn' : T.length ≤ 65536 := by rw [hl']; exact hs'.ab
  obtain ⟨w1, hw1⟩ : ∃ w1, ((w.alloc (.cells #[.int .i64 (a : Int), .int .i64 (b : Int), .slice (some ⟨g, o, none⟩) S.length cap] 25)).alloc (.cells #[.int .i64 (c : Int), .int .i64 (d : Int), .slice (some ⟨g', o', none⟩) T.length cap'] 25)).alloc (.cells #[.int .i64 0, .int .i64 0, .slice none 0 0] 25) = w1 := ⟨_, rfl⟩
  have Q1 : Hid (Q w w1) := by rw [← hw1]; exact ((((Q.refl w).cells _ _).cells _ _).cells _ _)
  have S1 : w1.heap.size = w.heap.size + 1 + 1 + 1 := by rw [← hw1]; simp
  have z00 : w1.cell? ⟨w.heap.size, 0, none⟩ = some (.int .i64 (a : Int)) := by rw [← hw1]; simp [go_sem]
  have z01 : w1.cell? ⟨w.heap.size, 1, none⟩ = some (.int .i64 (b : Int)) := by rw [← hw1]; simp [go_sem]
  have z02 : w1.cell? ⟨w.heap.size, 2, none⟩ = some (.slice (some ⟨g, o, none⟩) S.length cap) := by rw [← hw1]; simp [go_sem]
  have z10 : w1.cell? ⟨w.heap.size + 1, 0, none⟩ = some (.int .i64 (c : Int)) := by rw [← hw1]; simp [go_sem]
  have z11 : w1.cell? ⟨w.heap.size + 1, 1, none⟩ = some (.int .i64 (d : Int)) := by rw [← hw1]; simp [go_sem]
  have z12 : w1.cell? ⟨w.heap.size + 1, 2, none⟩ = some (.slice (some ⟨g', o', none⟩) T.length cap') := by rw [← hw1]; simp [go_sem]
  have z20 : w1.cell? ⟨w.heap.size + 1 + 1, 0, none⟩ = some (.int .i64 0) := by rw [← hw1]; simp [go_sem]
  have z21 : w1.cell? ⟨w.heap.size + 1 + 1, 1, none⟩ = some (.int .i64 0) := by rw [← hw1]; simp [go_sem]
  have z22 : w1.cell? ⟨w.heap.size + 1 + 1, 2, none⟩ = some (.slice none 0 0) := by rw [← hw1]; simp [go_sem]
  have yf : ∀ j, w1.frozen? ⟨w.heap.size + 1 + 1, j, none⟩ = false := fun j => by rw [← hw1]; simp [go_sem]
  have C1 : ∀ w' : World, Calls Try.prog 18 #[.agg #[.int .i64 (a : Int), .int .i64 (b : Int), .slice (some ⟨g, o, none⟩) S.length cap]] w' fun e w'' => e = .returned (.int .i64 0) ∧ Q w' w'' := fun w' => by
    have := rcheck_any (a : Int) (b : Int) (some ⟨g, o, none⟩) S.length cap (by omega) w'
    rw [show chk (a : Int) (b : Int) S.length = 0 by rw [hl]; exact chk_size hs] at this
    exact this
  have C2 : ∀ w' : World, Calls Try.prog 18 #[.agg #[.int .i64 (c : Int), .int .i64 (d : Int), .slice (some ⟨g', o', none⟩) T.length cap']] w' fun e w'' => e = .returned (.int .i64 0) ∧ Q w' w'' := fun w' => by
    have := rcheck_any (c : Int) (d : Int) (some ⟨g', o', none⟩) T.length cap' (by omega) w'
    rw [show chk (c : Int) (d : Int) T.length = 0 by rw [hl']; exact chk_size hs'] at this
    exact this
  have HS : Hid (Size a b) := hs
  have HL : Hid (S.length = a * b) := hl
  have HU : Hid (UIs w g o S) := hu
  have HS' : Hid (Size c d) := hs'
  have HL' : Hid (T.length = c * d) := hl'
  have HU' : Hid (UIs w g' o' T) := hu'
  have a1 := hs.a1
  have a2 := hs.a2
  have b1 := hs.b1
  have b2 := hs.b2
  have c1 := hs'.a1
  have c2 := hs'.a2
  have d1 := hs'.b1
  have d2 := hs'.b2
  clear hs hl hu hs' hl' hu'
  go_enter Try.func25, Try.ntmps25
  go_wp2_with fail
  clear hw1
  refine (C1 _).mono ?_
  rintro e m0 ⟨rfl, q0⟩
  replace z00 := q0.cell z00
  replace z01 := q0.cell z01
  replace z02 := q0.cell z02
  replace z10 := q0.cell z10
  replace z11 := q0.cell z11
  replace z12 := q0.cell z12
  replace z20 := q0.cell z20
  replace z21 := q0.cell z21
  replace z22 := q0.cell z22
  go_wp2_with fail
  refine (C2 _).mono ?_
  rintro e w2 ⟨rfl, q2⟩
  replace z00 := q2.cell z00
  replace z01 := q2.cell z01
  replace z02 := q2.cell z02
  replace z10 := q2.cell z10
  replace z11 := q2.cell z11
  replace z12 := q2.cell z12
  replace z20 := q2.cell z20
  replace z21 := q2.cell z21
  replace z22 := q2.cell z22
  replace yf : ∀ j, w2.frozen? ⟨w.heap.size + 1 + 1, j, none⟩ = false := fun j => by rw [q2.2, q0.2]; exact yf j
  have QT : Hid (Q w w2) := (Q1.out.trans q0).trans q2
  have hsz : w.heap.size + 1 + 1 + 1 ≤ w2.heap.size := by have h1 := q0.1.size; have h2 := q2.1.size; omega
  clear C1 C2 q0 q2 Q1 S1
  go_wp2_with fail
  refine (rcopy_any HS.out HL.out g o cap w2 (HU.out.next QT.out)).mono ?_
  rintro e w3 ⟨gq, nq, rfl, hnq, OC⟩
  have HNQ : Hid (nq = a * b) := hnq
  have nq2 : nq ≤ 65536 := by rw [hnq]; exact HS.out.ab
  have HSN : Hid (S.length = nq) := by show _ = _; rw [hnq]; exact HL.out
  clear hnq
  obtain ⟨w4, hw4⟩ : ∃ w4, w3.alloc (.cells #[.int .i64 (a : Int), .int .i64 (b : Int), .slice (some ⟨gq, 0, none⟩) nq nq] 25) = w4 := ⟨_, rfl⟩
  have q4 : Q w3 w4 := by rw [← hw4]; exact (Q.refl _).cells _ _
  have v0 : w4.cell? ⟨w3.heap.size, 0, none⟩ = some (.int .i64 (a : Int)) := by rw [← hw4]; simp [go_sem]
  have v1 : w4.cell? ⟨w3.heap.size, 1, none⟩ = some (.int .i64 (b : Int)) := by rw [← hw4]; simp [go_sem]
  have v2 : w4.cell? ⟨w3.heap.size, 2, none⟩ = some (.slice (some ⟨gq, 0, none⟩) nq nq) := by rw [← hw4]; simp [go_sem]
  have F0 : Hid (Over w2 w4 gq nq (fun i => (pasV S a T c d PX PY) (i % a) (i / a)) S 0) := by
    have oc := OC.out.next q4
    exact ⟨oc.q, oc.new, fun i hi => absurd hi (Nat.not_lt_zero _), fun i _ hi => by have := oc.cells i (by rw [HSN.out]; exact hi); rw [Nat.zero_add] at this; exact this, oc.free⟩
  have hgv : gq ≠ w3.heap.size := by
    have hc := OC.out.cells 0 (by rw [HSN.out, HNQ.out]; exact HS.out.pos)
    have := World.block_lt_of_cell? _ _ hc
    have : gq < w3.heap.size := this
    omega
  have hg2 : w2.heap.size ≤ gq := OC.out.new
  obtain ⟨V, hV⟩ : ∃ V, w3.heap.size = V := ⟨_, rfl⟩
  rw [hV] at v0 v1 v2 hgv
  clear OC q4
  go_wp2_with fail
  clear hw4
  go_loopg [12] nq (fun m sx wr => ∃ i : Nat, sx = .int .i64 i ∧ i + m = nq ∧ Hid (Over w2 wr gq nq (fun i => (pasV S a T c d PX PY) (i % a) (i / a)) S i) ∧ Hid (PBox wr V a b (.slice (some ⟨gq, 0, none⟩) nq nq)))
  case atStart => exact ⟨0, rfl, by omega, F0, ⟨v0, v1, v2⟩⟩
  case round =>
    obtain ⟨i, rfl, hm, FI, BI⟩ := hrel
    obtain ⟨x0, x1, x2⟩ := id BI.out
    clear v0 v1 v2 F0
    by_cases hi : i < nq
    · have hi0 : (0 : Int) ≤ (i : Int) := by omega
      have hi1 : (i : Int) < (nq : Int) := by omega
      have QX : Hid (Q w wr) := QT.out.trans FI.out.q
      have f00 := FI.out.q.cell z00
      have f01 := FI.out.q.cell z01
      have f02 := FI.out.q.cell z02
      have f10 := FI.out.q.cell z10
      have f11 := FI.out.q.cell z11
      have f12 := FI.out.q.cell z12
      have hu := FI.out.rest i (Nat.le_refl _) hi
      have fz := FI.out.free i
      obtain ⟨X, hX⟩ : ∃ X, i % a = X := ⟨_, rfl⟩
      obtain ⟨Y, hY⟩ : ∃ Y, i / a = Y := ⟨_, rfl⟩
      have hpl := row_lt (W := a) (H := b) (i := i) (by rw [← HNQ.out]; exact hi)
      rw [hX, hY] at hpl
      obtain ⟨ap, xl, yl⟩ := hpl
      have tX : Int.tmod (i : Int) (a : Int) = (X : Int) := by rw [Int.tmod_eq_emod_of_nonneg (by omega), ← Int.natCast_emod, hX]
      have tY : Int.tdiv (i : Int) (a : Int) = (Y : Int) := by rw [Int.tdiv_eq_ediv_of_nonneg (by omega), ← Int.natCast_ediv, hY]
      have az : (a : Int) ≠ 0 := by omega
      have azb : ((a : Int) == 0) = false := by rw [beq_eq_false_iff_ne]; exact az
      have wX : IntKind.i64.wrap (X : Int) = (X : Int) := by rw [IntKind.wrap_i64]; omega
      have wY : IntKind.i64.wrap (Y : Int) = (Y : Int) := by rw [IntKind.wrap_i64]; omega
      have HG : Hid ((fun i => (pasV S a T c d PX PY) (i % a) (i / a)) i = (pasV S a T c d PX PY) X Y) := by show (pasV S a T c d PX PY) (i % a) (i / a) = _; rw [hX, hY]
      have HSi : Hid (S.getD i 0 = smp S a X Y) := by
        show _ = S.getD (Y * a + X) 0
        rw [← hX, ← hY, Nat.mul_comm, Nat.div_add_mod]
      have W1 := within_any (X : Int) PX (c : Int) (by omega) (by omega) (by omega) (by omega)
      have W2 := within_any (Y : Int) PY (d : Int) (by omega) (by omega) (by omega) (by omega)
      have n0 := qw_some wr
      have df00 := qw_cell f00
      go_wp2_with fail
      refine wp_region_quiet_Q (by kernel_rfl) (by kernel_rfl) ?_
      repeat (first | go_big_quiet_step (fail) | quiet_step (fail))
      refine wpQuiet_nil ?_
      intro w5 hw'
      have q5 := qw_out hw'
      clear hw' n0 df00
      replace f00 := q5.cell f00
      replace f01 := q5.cell f01
      replace f02 := q5.cell f02
      replace f10 := q5.cell f10
      replace f11 := q5.cell f11
      replace f12 := q5.cell f12
      replace x0 := q5.cell x0
      replace x1 := q5.cell x1
      replace x2 := q5.cell x2
      replace hu := q5.cell hu
      replace fz : w5.frozen? ⟨gq, i, none⟩ = false := by rw [q5.2]; exact fz
      replace FI : Hid (Over w2 w5 gq nq (fun i => (pasV S a T c d PX PY) (i % a) (i / a)) S i) := FI.out.next q5
      replace BI : Hid (PBox w5 V a b (.slice (some ⟨gq, 0, none⟩) nq nq)) := BI.out.next q5
      replace QX : Hid (Q w w5) := QX.out.trans q5
      clear q5 hX hY tX tY az azb
      cases h1 : lieB (X : Int) PX (c : Int)
      · rw [h1] at W1
        have FN : Hid (Over w2 w5 gq nq (fun i => (pasV S a T c d PX PY) (i % a) (i / a)) S (i + 1)) := FI.out.keep hi (by rw [HG.out]; unfold pasV; rw [h1, Bool.false_and, if_neg (by decide)]; exact HSi.out)
        clear h1 W2
        go_wp2_with fail
        refine (W1 _).mono ?_
        rintro e wz ⟨rfl, hz⟩
        rw [hz]
        clear hz wz
        go_wp2_with fail
        go_roundg (nq - (i + 1))
        case measure => go_light; omega
        case rel => go_light; exact ⟨i + 1, by go_num, by omega, FN, BI⟩
      · rw [h1] at W1
        cases h2 : lieB (Y : Int) PY (d : Int)
        · rw [h2] at W2
          have FN : Hid (Over w2 w5 gq nq (fun i => (pasV S a T c d PX PY) (i % a) (i / a)) S (i + 1)) := FI.out.keep hi (by rw [HG.out]; unfold pasV; rw [h1, h2, Bool.and_false, if_neg (by decide)]; exact HSi.out)
          clear h1 h2
          go_wp2_with fail
          refine (W1 _).mono ?_
          rintro e wz ⟨rfl, hz⟩
          rw [hz]
          clear hz wz
          go_wp2_with fail
          refine (W2 _).mono ?_
          rintro e wz ⟨rfl, hz⟩
          rw [hz]
          clear hz wz
          go_wp2_with fail
          go_roundg (nq - (i + 1))
          case measure => go_light; omega
          case rel => go_light; exact ⟨i + 1, by go_num, by omega, FN, BI⟩
        · rw [h2] at W2
          obtain ⟨k1, k2⟩ := lieB_true.1 h1
          obtain ⟨k3, k4⟩ := lieB_true.1 h2
          obtain ⟨DX, hDX⟩ : ∃ DX, ((X : Int) - PX).toNat = DX := ⟨_, rfl⟩
          obtain ⟨DY, hDY⟩ : ∃ DY, ((Y : Int) - PY).toNat = DY := ⟨_, rfl⟩
          have u1 : IntKind.i64.wrap ((X : Int) - PX) = (DX : Int) := by rw [IntKind.wrap_i64]; omega
          have u2 : IntKind.i64.wrap ((Y : Int) - PY) = (DY : Int) := by rw [IntKind.wrap_i64]; omega
          have u3 : (X : Int) - PX = (DX : Int) := by omega
          have u4 : (Y : Int) - PY = (DY : Int) := by omega
          have SA : Hid (∀ n : QW w5, Calls Try.prog 48 #[.agg #[.int .i64 (c : Int), .int .i64 (d : Int), .slice (some ⟨g', o', none⟩) T.length cap'], .int .i64 (DX : Int), .int .i64 (DY : Int)] n.x fun e w' => e = .returned (.int .u32 (smp T c DX DY : Nat)) ∧ Q n.x w') := fun n => rat_any HS'.out HL'.out _ _ (x := DX) (y := DY) rfl rfl (by omega) (by omega) (HU'.out.next (QX.out.trans n.q))
          have HV : Hid (smp T c DX DY = (fun i => (pasV S a T c d PX PY) (i % a) (i / a)) i) := by
            refine Eq.trans ?_ HG.out.symm
            unfold pasV
            rw [h1, h2, Bool.and_self, if_pos rfl, hDX, hDY]
          obtain ⟨VV, hVV⟩ : ∃ VV, smp T c DX DY = VV := ⟨_, rfl⟩
          rw [hVV] at SA HV
          have n0 := qw_some w5
          have df10 := qw_cell f10
          have df11 := qw_cell f11
          have df12 := qw_cell f12
          have dx2 := qw_cell x2
          clear hVV HG h1 h2 hDX hDY HSi
          go_wp2_with fail
          refine (W1 _).mono ?_
          rintro e wz ⟨rfl, hz⟩
          rw [hz]
          clear hz wz
          go_wp2_with fail
          refine (W2 _).mono ?_
          rintro e wz ⟨rfl, hz⟩
          rw [hz]
          clear hz wz
          go_wp2_with fail
          refine wp_region_lastn 12 rfl _ rfl (by kernel_rfl) (by kernel_rfl) (by kernel_rfl) ?_
          simp only [List.take_succ_cons, List.take_zero]
          repeat (first | go_big_quiet_step (first | (go_at_call 48; exact calls_qw (SA.out _))) | quiet_step (first | (go_at_call 48; exact calls_qw (SA.out _))))
          refine wpQuiet_nil ?_
          intro nn K hK
          have hu' := nn.q.cell hu
          have fz' : nn.x.frozen? ⟨gq, i, none⟩ = false := by rw [nn.q.2]; exact fz
          have FN : Hid (Over w2 (nn.x.setCell ⟨gq, i, none⟩ (.int .u32 (VV : Nat))) gq nq (fun i => (pasV S a T c d PX PY) (i % a) (i / a)) S (i + 1)) := (FI.out.next nn.q).step hi HV.out
          have BN : Hid (PBox (nn.x.setCell ⟨gq, i, none⟩ (.int .u32 (VV : Nat))) V a b (.slice (some ⟨gq, 0, none⟩) nq nq)) := by
            obtain ⟨m0, m1, m2⟩ := BI.out.next nn.q
            constructor <;> (rw [World.cell?_setCell_other _ _ _ _ (fun e => hgv (by injection e))]; assumption)
          clear SA n0 df10 df11 df12 dx2
          go_wp2_with fail
          go_roundg (nq - (i + 1))
          case measure => go_light; omega
          case rel => go_light; exact ⟨i + 1, by go_num, by omega, FN, BN⟩
    · have hie : i = nq := by omega
      have OW : Hid (Own w wr gq (tab a b (pasV S a T c d PX PY))) := by
        have f := FI.out
        rw [hie] at f
        refine ⟨QT.out.trans f.q, Nat.le_trans QT.out.1.size f.new, fun k hk => ?_, f.free⟩
        rw [tab_length, ← HNQ.out] at hk
        rw [Nat.zero_add, f.done k hk, tab_get (by rw [← HNQ.out]; exact hk)]
      have f20 := FI.out.q.cell z20
      have f21 := FI.out.q.cell z21
      have f22 := FI.out.q.cell z22
      have ff : ∀ j, wr.frozen? ⟨w.heap.size + 1 + 1, j, none⟩ = false := fun j => by rw [FI.out.q.2]; exact yf j
      have hgr : gq ≠ w.heap.size + 1 + 1 := by omega
      clear FI
      go_wp2_with fail
      refine bodyPost_ret (v := .tuple #[.agg #[.int .i64 (a : Int), .int .i64 (b : Int), .slice (some ⟨gq, 0, none⟩) nq nq], .int .i64 0]) (by simp [results, Try.results25, go_sem, f20, f21, f22]) rfl ?_
      have OW2 := ((OW.out.set (c := w.heap.size + 1 + 1) (j := 0) (v := .int .i64 (a : Int)) (by omega) (fun e => hgr e.symm)).set (c := w.heap.size + 1 + 1) (j := 1) (v := .int .i64 (b : Int)) (by omega) (fun e => hgr e.symm)).set (c := w.heap.size + 1 + 1) (j := 2) (v := .slice (some ⟨gq, 0, none⟩) nq nq) (by omega) (fun e => hgr e.symm)
      exact ⟨gq, nq, rfl, OW2.q, OW2.new, OW2.free, ⟨HS.out, tab_length _ _ _, by rw [tab_length]; exact HNQ.out, Nat.le_refl _, OW2.cells⟩⟩
end Go.Proofs.Ytkgfohodahkmmaa
