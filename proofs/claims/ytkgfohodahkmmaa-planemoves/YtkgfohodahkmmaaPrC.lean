/- The document's planes: Flip. -/
import Derived.Test.YtkgfohodahkmmaaPrB
namespace Go.Proofs.Ytkgfohodahkmmaa
open Go.RowKit
set_option linter.unusedVariables false
set_option linter.unusedSimpArgs false

set_option maxHeartbeats 8000000 in
set_option maxRecDepth 100000 in
theorem rflip_yes {a b : Nat} (hs : Size a b) {S : List Nat} (hl : S.length = a * b) (g o cap : Nat)  (w : World) (hu : UIs w g o S) :
    Calls Try.prog 27 #[.agg #[.int .i64 (a : Int), .int .i64 (b : Int), .slice (some ⟨g, o, none⟩) S.length cap], .bool true] w (Mk w (a) (b) (tab (a) (b) (fun x y => smp S a (a - 1 - x) y))) := by
  have hb : ((0 : Int) != 0) = false := by decide
  have hn : S.length ≤ 65536 := by rw [hl]; exact hs.ab
  obtain ⟨w1, hw1⟩ : ∃ w1, (w.alloc (.cells #[.int .i64 (a : Int), .int .i64 (b : Int), .slice (some ⟨g, o, none⟩) S.length cap] 25)).alloc (.cells #[.int .i64 0, .int .i64 0, .slice none 0 0] 25) = w1 := ⟨_, rfl⟩
  have Q1 : Hid (Q w w1) := by rw [← hw1]; exact (((Q.refl w).cells _ _).cells _ _)
  have S1 : w1.heap.size = w.heap.size + 1 + 1 := by rw [← hw1]; simp
  have z00 : w1.cell? ⟨w.heap.size, 0, none⟩ = some (.int .i64 (a : Int)) := by rw [← hw1]; simp [go_sem]
  have z01 : w1.cell? ⟨w.heap.size, 1, none⟩ = some (.int .i64 (b : Int)) := by rw [← hw1]; simp [go_sem]
  have z02 : w1.cell? ⟨w.heap.size, 2, none⟩ = some (.slice (some ⟨g, o, none⟩) S.length cap) := by rw [← hw1]; simp [go_sem]
  have z10 : w1.cell? ⟨w.heap.size + 1, 0, none⟩ = some (.int .i64 0) := by rw [← hw1]; simp [go_sem]
  have z11 : w1.cell? ⟨w.heap.size + 1, 1, none⟩ = some (.int .i64 0) := by rw [← hw1]; simp [go_sem]
  have z12 : w1.cell? ⟨w.heap.size + 1, 2, none⟩ = some (.slice none 0 0) := by rw [← hw1]; simp [go_sem]
  have yf : ∀ j, w1.frozen? ⟨w.heap.size + 1, j, none⟩ = false := fun j => by rw [← hw1]; simp [go_sem]
  have CK := rcheck_any (a : Int) (b : Int) (some ⟨g, o, none⟩) S.length cap (by omega) w1
  rw [show chk (a : Int) (b : Int) S.length = 0 by rw [hl]; exact chk_size hs] at CK
  have HS : Hid (Size a b) := hs
  have HL : Hid (S.length = a * b) := hl
  have HU : Hid (UIs w g o S) := hu
  have a1 := hs.a1
  have a2 := hs.a2
  have b1 := hs.b1
  have b2 := hs.b2
  clear hs hl hu
  go_enter Try.func27, Try.ntmps27
  go_wp2_with fail
  clear hw1
  refine CK.mono ?_
  rintro e w2 ⟨rfl, q2⟩
  replace z00 := q2.cell z00
  replace z01 := q2.cell z01
  replace z02 := q2.cell z02
  replace z10 := q2.cell z10
  replace z11 := q2.cell z11
  replace z12 := q2.cell z12
  replace yf : ∀ j, w2.frozen? ⟨w.heap.size + 1, j, none⟩ = false := fun j => by rw [q2.2]; exact yf j
  have QT : Hid (Q w w2) := Q1.out.trans q2
  have hsz : w.heap.size + 1 + 1 ≤ w2.heap.size := by have := q2.1.size; omega
  clear CK q2 Q1 S1
  go_wp2_with fail
  refine (blank_any (a) (b) HS.out w2).mono ?_
  rintro e w3 ⟨gq, nq, rfl, hnq, FL⟩
  have HNQ : Hid (nq = (a) * (b)) := hnq
  have nq2 : nq ≤ 65536 := by rw [hnq]; exact HS.out.ab
  clear hnq
  obtain ⟨w4, hw4⟩ : ∃ w4, w3.alloc (.cells #[.int .i64 ((a : Nat) : Int), .int .i64 ((b : Nat) : Int), .slice (some ⟨gq, 0, none⟩) nq nq] 25) = w4 := ⟨_, rfl⟩
  have q4 : Q w3 w4 := by rw [← hw4]; exact (Q.refl _).cells _ _
  have v0 : w4.cell? ⟨w3.heap.size, 0, none⟩ = some (.int .i64 ((a : Nat) : Int)) := by rw [← hw4]; simp [go_sem]
  have v1 : w4.cell? ⟨w3.heap.size, 1, none⟩ = some (.int .i64 ((b : Nat) : Int)) := by rw [← hw4]; simp [go_sem]
  have v2 : w4.cell? ⟨w3.heap.size, 2, none⟩ = some (.slice (some ⟨gq, 0, none⟩) nq nq) := by rw [← hw4]; simp [go_sem]
  have hgv : gq ≠ w3.heap.size := by
    obtain ⟨u, hu⟩ := FL.out.room 0 (by rw [HNQ.out]; exact HS.out.pos)
    have := World.block_lt_of_cell? _ _ hu
    have : gq < w3.heap.size := this
    omega
  have hg2 : w2.heap.size ≤ gq := FL.out.new
  have F0 : Hid (Fill w2 w4 gq nq (fun i => (fun x y => smp S a (a - 1 - x) y) (i % (a)) (i / (a))) 0) := by
    obtain ⟨p1, p2, p3, p4, p5⟩ := FL.out.next q4
    exact ⟨p1, p2, fun i hi => absurd hi (Nat.not_lt_zero _), p4, p5⟩
  obtain ⟨V, hV⟩ : ∃ V, w3.heap.size = V := ⟨_, rfl⟩
  rw [hV] at v0 v1 v2 hgv
  clear FL q4
  go_wp2_with fail
  clear hw4
  go_loopg [8] nq (fun m sx wr => ∃ i : Nat, sx = .int .i64 i ∧ i + m = nq ∧ Hid (Fill w2 wr gq nq (fun i => (fun x y => smp S a (a - 1 - x) y) (i % (a)) (i / (a))) i) ∧ Hid (PBox wr V (a) (b) (.slice (some ⟨gq, 0, none⟩) nq nq)))
  case atStart => exact ⟨0, rfl, by omega, F0, ⟨v0, v1, v2⟩⟩
  case round =>
    obtain ⟨i, rfl, hm, FI, BI⟩ := hrel
    obtain ⟨x0, x1, x2⟩ := id BI.out
    clear v0 v1 v2 F0
    by_cases hi : i < nq
    · have hi0 : (0 : Int) ≤ (i : Int) := by omega
      have hi1 : (i : Int) < (nq : Int) := by omega
      have QX : Hid (Q w wr) := QT.out.trans FI.out.q
      have f00 := FI.out.q.cell z00
      have f01 := FI.out.q.cell z01
      have f02 := FI.out.q.cell z02
      obtain ⟨u, hu⟩ := FI.out.room i hi
      have fz := FI.out.free i
      obtain ⟨X, hX⟩ : ∃ X, i % (a) = X := ⟨_, rfl⟩
      obtain ⟨Y, hY⟩ : ∃ Y, i / (a) = Y := ⟨_, rfl⟩
      have hpl := row_lt (W := (a)) (H := (b)) (i := i) (by rw [← HNQ.out]; exact hi)
      rw [hX, hY] at hpl
      obtain ⟨ap, xl, yl⟩ := hpl
      have tX : Int.tmod (i : Int) ((a : Nat) : Int) = (X : Int) := by rw [Int.tmod_eq_emod_of_nonneg (by omega), ← Int.natCast_emod, hX]
      have tY : Int.tdiv (i : Int) ((a : Nat) : Int) = (Y : Int) := by rw [Int.tdiv_eq_ediv_of_nonneg (by omega), ← Int.natCast_ediv, hY]
      have az : ((a : Nat) : Int) ≠ 0 := by omega
      have azb : (((a : Nat) : Int) == 0) = false := by rw [beq_eq_false_iff_ne]; exact az
      have HG : Hid ((fun i => (fun x y => smp S a (a - 1 - x) y) (i % (a)) (i / (a))) i = (fun x y => smp S a (a - 1 - x) y) X Y) := by show (fun x y => smp S a (a - 1 - x) y) (i % (a)) (i / (a)) = _; rw [hX, hY]
      have wX : IntKind.i64.wrap (X : Int) = (X : Int) := by rw [IntKind.wrap_i64]; omega
      have wY : IntKind.i64.wrap (Y : Int) = (Y : Int) := by rw [IntKind.wrap_i64]; omega
      have n0 := qw_some wr
      have df00 := qw_cell f00
      go_wp2_with fail
      refine wp_region_quiet_Q (by kernel_rfl) (by kernel_rfl) ?_
      repeat (first | go_big_quiet_step (fail) | quiet_step (fail))
      refine wpQuiet_nil ?_
      intro w5 hw'
      have qw5 := qw_out hw'
      clear hw' n0 df00
      replace f00 := qw5.cell f00
      replace f01 := qw5.cell f01
      replace f02 := qw5.cell f02
      replace x0 := qw5.cell x0
      replace x1 := qw5.cell x1
      replace x2 := qw5.cell x2
      replace hu := qw5.cell hu
      replace fz : w5.frozen? ⟨gq, i, none⟩ = false := by rw [qw5.2]; exact fz
      replace FI : Hid (Fill w2 w5 gq nq (fun i => (fun x y => smp S a (a - 1 - x) y) (i % (a)) (i / (a))) i) := FI.out.next qw5
      replace BI : Hid (PBox w5 V (a) (b) (.slice (some ⟨gq, 0, none⟩) nq nq)) := BI.out.next qw5
      replace QX : Hid (Q w w5) := QX.out.trans qw5
      clear qw5
      obtain ⟨AM, hAM⟩ : ∃ AM, (a : Int) - 1 = AM := ⟨_, rfl⟩
      obtain ⟨PX, hPX⟩ : ∃ PX, a - 1 - X = PX := ⟨_, rfl⟩
      have u1 : IntKind.i64.wrap ((a : Int) - 1) = AM := by rw [IntKind.wrap_i64]; omega
      have u2 : IntKind.i64.wrap (AM - (X : Int)) = (PX : Int) := by rw [IntKind.wrap_i64]; omega
      have u3 : AM - (X : Int) = (PX : Int) := by omega
      have lPX : PX < a := by omega
      have SA : Hid (∀ n : QW w5, Calls Try.prog 48 #[.agg #[.int .i64 (a : Int), .int .i64 (b : Int), .slice (some ⟨g, o, none⟩) S.length cap], .int .i64 (PX : Int), .int .i64 (Y : Int)] n.x fun e w' => e = .returned (.int .u32 (smp S a (PX) (Y) : Nat)) ∧ Q n.x w') := fun n => rat_any HS.out HL.out _ _ (x := PX) (y := Y) (by omega) (by omega) (by omega) (by omega) (HU.out.next (QX.out.trans n.q))
      have HV : Hid (smp S a (PX) (Y) = (fun i => (fun x y => smp S a (a - 1 - x) y) (i % (a)) (i / (a))) i) := by show smp S a (PX) (Y) = _; rw [← hPX]; exact HG.out.symm
      obtain ⟨VV, hVV⟩ : ∃ VV, smp S a (PX) (Y) = VV := ⟨_, rfl⟩
      rw [hVV] at SA HV
      have n0 := qw_some w5
      have df00 := qw_cell f00
      have df01 := qw_cell f01
      have df02 := qw_cell f02
      have dx0 := qw_cell x0
      have dx1 := qw_cell x1
      have dx2 := qw_cell x2
      clear hVV HG hX hY hPX
      go_wp2_with fail
      refine wp_region_lastn 12 rfl _ rfl (by kernel_rfl) (by kernel_rfl) (by kernel_rfl) ?_
      simp only [List.take_succ_cons, List.take_zero]
      repeat (first | go_big_quiet_step (first | (go_at_call 48; exact calls_qw (SA.out _))) | quiet_step (first | (go_at_call 48; exact calls_qw (SA.out _))))
      refine wpQuiet_nil ?_
      intro nn K hK
      have hu' := nn.q.cell hu
      have fz' : nn.x.frozen? ⟨gq, i, none⟩ = false := by rw [nn.q.2]; exact fz
      have FN : Hid (Fill w2 (nn.x.setCell ⟨gq, i, none⟩ (.int .u32 (VV : Nat))) gq nq (fun i => (fun x y => smp S a (a - 1 - x) y) (i % (a)) (i / (a))) (i + 1)) := (FI.out.next nn.q).step hi HV.out
      have BN : Hid (PBox (nn.x.setCell ⟨gq, i, none⟩ (.int .u32 (VV : Nat))) V (a) (b) (.slice (some ⟨gq, 0, none⟩) nq nq)) := by
        obtain ⟨m0, m1, m2⟩ := BI.out.next nn.q
        constructor <;> (rw [World.cell?_setCell_other _ _ _ _ (fun e => hgv (by injection e))]; assumption)
      clear SA n0 df00 df01 df02 dx0 dx1 dx2
      go_wp2_with fail
      go_roundg (nq - (i + 1))
      case measure => go_light; omega
      case rel => go_light; exact ⟨i + 1, by go_num, by omega, FN, BN⟩

    · have hie : i = nq := by omega
      have FE : Hid (Fill w2 wr gq nq (fun i => (fun x y => smp S a (a - 1 - x) y) (i % (a)) (i / (a))) nq) := by rw [hie] at FI; exact FI
      have OW : Hid (Own w wr gq (tab (a) (b) (fun x y => smp S a (a - 1 - x) y))) := (Fill.own FE.out (by rw [tab_length]; exact HNQ.out.symm) (fun k hk => by rw [HNQ.out] at hk; exact tab_get hk)).base QT.out
      have f10 := FI.out.q.cell z10
      have f11 := FI.out.q.cell z11
      have f12 := FI.out.q.cell z12
      have ff : ∀ j, wr.frozen? ⟨w.heap.size + 1, j, none⟩ = false := fun j => by rw [FI.out.q.2]; exact yf j
      have hgr : gq ≠ w.heap.size + 1 := by omega
      clear FI FE
      go_wp2_with fail
      refine bodyPost_ret (v := .tuple #[.agg #[.int .i64 ((a : Nat) : Int), .int .i64 ((b : Nat) : Int), .slice (some ⟨gq, 0, none⟩) nq nq], .int .i64 0]) (by simp [results, Try.results27, go_sem, f10, f11, f12]) rfl ?_
      have OW2 := ((OW.out.set (c := w.heap.size + 1) (j := 0) (v := .int .i64 ((a : Nat) : Int)) (by omega) (fun e => hgr e.symm)).set (c := w.heap.size + 1) (j := 1) (v := .int .i64 ((b : Nat) : Int)) (by omega) (fun e => hgr e.symm)).set (c := w.heap.size + 1) (j := 2) (v := .slice (some ⟨gq, 0, none⟩) nq nq) (by omega) (fun e => hgr e.symm)
      exact ⟨gq, nq, rfl, OW2.q, OW2.new, OW2.free, ⟨HS.out, tab_length _ _ _, by rw [tab_length]; exact HNQ.out, Nat.le_refl _, OW2.cells⟩⟩
set_option maxHeartbeats 8000000 in
set_option maxRecDepth 100000 in
theorem rflip_no {a b : Nat} (hs : Size a b) {S : List Nat} (hl : S.length = a * b) (g o cap : Nat)  (w : World) (hu : UIs w g o S) :
    Calls Try.prog 27 #[.agg #[.int .i64 (a : Int), .int .i64 (b : Int), .slice (some ⟨g, o, none⟩) S.length cap], .bool false] w (Mk w (a) (b) (tab (a) (b) (fun x y => smp S a x (b - 1 - y)))) := by
  have hb : ((0 : Int) != 0) = false := by decide
  have hn : S.length ≤ 65536 := by rw [hl]; exact hs.ab
  obtain ⟨w1, hw1⟩ : ∃ w1, (w.alloc (.cells #[.int .i64 (a : Int), .int .i64 (b : Int), .slice (some ⟨g, o, none⟩) S.length cap] 25)).alloc (.cells #[.int .i64 0, .int .i64 0, .slice none 0 0] 25) = w1 := ⟨_, rfl⟩
  have Q1 : Hid (Q w w1) := by rw [← hw1]; exact (((Q.refl w).cells _ _).cells _ _)
  have S1 : w1.heap.size = w.heap.size + 1 + 1 := by rw [← hw1]; simp
  have z00 : w1.cell? ⟨w.heap.size, 0, none⟩ = some (.int .i64 (a : Int)) := by rw [← hw1]; simp [go_sem]
  have z01 : w1.cell? ⟨w.heap.size, 1, none⟩ = some (.int .i64 (b : Int)) := by rw [← hw1]; simp [go_sem]
  have z02 : w1.cell? ⟨w.heap.size, 2, none⟩ = some (.slice (some ⟨g, o, none⟩) S.length cap) := by rw [← hw1]; simp [go_sem]
  have z10 : w1.cell? ⟨w.heap.size + 1, 0, none⟩ = some (.int .i64 0) := by rw [← hw1]; simp [go_sem]
  have z11 : w1.cell? ⟨w.heap.size + 1, 1, none⟩ = some (.int .i64 0) := by rw [← hw1]; simp [go_sem]
  have z12 : w1.cell? ⟨w.heap.size + 1, 2, none⟩ = some (.slice none 0 0) := by rw [← hw1]; simp [go_sem]
  have yf : ∀ j, w1.frozen? ⟨w.heap.size + 1, j, none⟩ = false := fun j => by rw [← hw1]; simp [go_sem]
  have CK := rcheck_any (a : Int) (b : Int) (some ⟨g, o, none⟩) S.length cap (by omega) w1
  rw [show chk (a : Int) (b : Int) S.length = 0 by rw [hl]; exact chk_size hs] at CK
  have HS : Hid (Size a b) := hs
  have HL : Hid (S.length = a * b) := hl
  have HU : Hid (UIs w g o S) := hu
  have a1 := hs.a1
  have a2 := hs.a2
  have b1 := hs.b1
  have b2 := hs.b2
  clear hs hl hu
  go_enter Try.func27, Try.ntmps27
  go_wp2_with fail
  clear hw1
  refine CK.mono ?_
  rintro e w2 ⟨rfl, q2⟩
  replace z00 := q2.cell z00
  replace z01 := q2.cell z01
  replace z02 := q2.cell z02
  replace z10 := q2.cell z10
  replace z11 := q2.cell z11
  replace z12 := q2.cell z12
  replace yf : ∀ j, w2.frozen? ⟨w.heap.size + 1, j, none⟩ = false := fun j => by rw [q2.2]; exact yf j
  have QT : Hid (Q w w2) := Q1.out.trans q2
  have hsz : w.heap.size + 1 + 1 ≤ w2.heap.size := by have := q2.1.size; omega
  clear CK q2 Q1 S1
  go_wp2_with fail
  refine (blank_any (a) (b) HS.out w2).mono ?_
  rintro e w3 ⟨gq, nq, rfl, hnq, FL⟩
  have HNQ : Hid (nq = (a) * (b)) := hnq
  have nq2 : nq ≤ 65536 := by rw [hnq]; exact HS.out.ab
  clear hnq
  obtain ⟨w4, hw4⟩ : ∃ w4, w3.alloc (.cells #[.int .i64 ((a : Nat) : Int), .int .i64 ((b : Nat) : Int), .slice (some ⟨gq, 0, none⟩) nq nq] 25) = w4 := ⟨_, rfl⟩
  have q4 : Q w3 w4 := by rw [← hw4]; exact (Q.refl _).cells _ _
  have v0 : w4.cell? ⟨w3.heap.size, 0, none⟩ = some (.int .i64 ((a : Nat) : Int)) := by rw [← hw4]; simp [go_sem]
  have v1 : w4.cell? ⟨w3.heap.size, 1, none⟩ = some (.int .i64 ((b : Nat) : Int)) := by rw [← hw4]; simp [go_sem]
  have v2 : w4.cell? ⟨w3.heap.size, 2, none⟩ = some (.slice (some ⟨gq, 0, none⟩) nq nq) := by rw [← hw4]; simp [go_sem]
  have hgv : gq ≠ w3.heap.size := by
    obtain ⟨u, hu⟩ := FL.out.room 0 (by rw [HNQ.out]; exact HS.out.pos)
    have := World.block_lt_of_cell? _ _ hu
    have : gq < w3.heap.size := this
    omega
  have hg2 : w2.heap.size ≤ gq := FL.out.new
  have F0 : Hid (Fill w2 w4 gq nq (fun i => (fun x y => smp S a x (b - 1 - y)) (i % (a)) (i / (a))) 0) := by
    obtain ⟨p1, p2, p3, p4, p5⟩ := FL.out.next q4
    exact ⟨p1, p2, fun i hi => absurd hi (Nat.not_lt_zero _), p4, p5⟩
  obtain ⟨V, hV⟩ : ∃ V, w3.heap.size = V := ⟨_, rfl⟩
  rw [hV] at v0 v1 v2 hgv
  clear FL q4
  go_wp2_with fail
  clear hw4
  go_loopg [8] nq (fun m sx wr => ∃ i : Nat, sx = .int .i64 i ∧ i + m = nq ∧ Hid (Fill w2 wr gq nq (fun i => (fun x y => smp S a x (b - 1 - y)) (i % (a)) (i / (a))) i) ∧ Hid (PBox wr V (a) (b) (.slice (some ⟨gq, 0, none⟩) nq nq)))
  case atStart => exact ⟨0, rfl, by omega, F0, ⟨v0, v1, v2⟩⟩
  case round =>
    obtain ⟨i, rfl, hm, FI, BI⟩ := hrel
    obtain ⟨x0, x1, x2⟩ := id BI.out
    clear v0 v1 v2 F0
    by_cases hi : i < nq
    · have hi0 : (0 : Int) ≤ (i : Int) := by omega
      have hi1 : (i : Int) < (nq : Int) := by omega
      have QX : Hid (Q w wr) := QT.out.trans FI.out.q
      have f00 := FI.out.q.cell z00
      have f01 := FI.out.q.cell z01
      have f02 := FI.out.q.cell z02
      obtain ⟨u, hu⟩ := FI.out.room i hi
      have fz := FI.out.free i
      obtain ⟨X, hX⟩ : ∃ X, i % (a) = X := ⟨_, rfl⟩
      obtain ⟨Y, hY⟩ : ∃ Y, i / (a) = Y := ⟨_, rfl⟩
      have hpl := row_lt (W := (a)) (H := (b)) (i := i) (by rw [← HNQ.out]; exact hi)
      rw [hX, hY] at hpl
      obtain ⟨ap, xl, yl⟩ := hpl
      have tX : Int.tmod (i : Int) ((a : Nat) : Int) = (X : Int) := by rw [Int.tmod_eq_emod_of_nonneg (by omega), ← Int.natCast_emod, hX]
      have tY : Int.tdiv (i : Int) ((a : Nat) : Int) = (Y : Int) := by rw [Int.tdiv_eq_ediv_of_nonneg (by omega), ← Int.natCast_ediv, hY]
      have az : ((a : Nat) : Int) ≠ 0 := by omega
      have azb : (((a : Nat) : Int) == 0) = false := by rw [beq_eq_false_iff_ne]; exact az
      have HG : Hid ((fun i => (fun x y => smp S a x (b - 1 - y)) (i % (a)) (i / (a))) i = (fun x y => smp S a x (b - 1 - y)) X Y) := by show (fun x y => smp S a x (b - 1 - y)) (i % (a)) (i / (a)) = _; rw [hX, hY]
      have wX : IntKind.i64.wrap (X : Int) = (X : Int) := by rw [IntKind.wrap_i64]; omega
      have wY : IntKind.i64.wrap (Y : Int) = (Y : Int) := by rw [IntKind.wrap_i64]; omega
      have n0 := qw_some wr
      have df00 := qw_cell f00
      go_wp2_with fail
      refine wp_region_quiet_Q (by kernel_rfl) (by kernel_rfl) ?_
      repeat (first | go_big_quiet_step (fail) | quiet_step (fail))
      refine wpQuiet_nil ?_
      intro w5 hw'
      have qw5 := qw_out hw'
      clear hw' n0 df00
      replace f00 := qw5.cell f00
      replace f01 := qw5.cell f01
      replace f02 := qw5.cell f02
      replace x0 := qw5.cell x0
      replace x1 := qw5.cell x1
      replace x2 := qw5.cell x2
      replace hu := qw5.cell hu
      replace fz : w5.frozen? ⟨gq, i, none⟩ = false := by rw [qw5.2]; exact fz
      replace FI : Hid (Fill w2 w5 gq nq (fun i => (fun x y => smp S a x (b - 1 - y)) (i % (a)) (i / (a))) i) := FI.out.next qw5
      replace BI : Hid (PBox w5 V (a) (b) (.slice (some ⟨gq, 0, none⟩) nq nq)) := BI.out.next qw5
      replace QX : Hid (Q w w5) := QX.out.trans qw5
      clear qw5
      obtain ⟨AM, hAM⟩ : ∃ AM, (b : Int) - 1 = AM := ⟨_, rfl⟩
      obtain ⟨PX, hPX⟩ : ∃ PX, b - 1 - Y = PX := ⟨_, rfl⟩
      have u1 : IntKind.i64.wrap ((b : Int) - 1) = AM := by rw [IntKind.wrap_i64]; omega
      have u2 : IntKind.i64.wrap (AM - (Y : Int)) = (PX : Int) := by rw [IntKind.wrap_i64]; omega
      have u3 : AM - (Y : Int) = (PX : Int) := by omega
      have lPX : PX < b := by omega
      have SA : Hid (∀ n : QW w5, Calls Try.prog 48 #[.agg #[.int .i64 (a : Int), .int .i64 (b : Int), .slice (some ⟨g, o, none⟩) S.length cap], .int .i64 (X : Int), .int .i64 (PX : Int)] n.x fun e w' => e = .returned (.int .u32 (smp S a (X) (PX) : Nat)) ∧ Q n.x w') := fun n => rat_any HS.out HL.out _ _ (x := X) (y := PX) (by omega) (by omega) (by omega) (by omega) (HU.out.next (QX.out.trans n.q))
      have HV : Hid (smp S a (X) (PX) = (fun i => (fun x y => smp S a x (b - 1 - y)) (i % (a)) (i / (a))) i) := by show smp S a (X) (PX) = _; rw [← hPX]; exact HG.out.symm
      obtain ⟨VV, hVV⟩ : ∃ VV, smp S a (X) (PX) = VV := ⟨_, rfl⟩
      rw [hVV] at SA HV
      have n0 := qw_some w5
      have df00 := qw_cell f00
      have df01 := qw_cell f01
      have df02 := qw_cell f02
      have dx0 := qw_cell x0
      have dx1 := qw_cell x1
      have dx2 := qw_cell x2
      clear hVV HG hX hY hPX
      go_wp2_with fail
      refine wp_region_lastn 12 rfl _ rfl (by kernel_rfl) (by kernel_rfl) (by kernel_rfl) ?_
      simp only [List.take_succ_cons, List.take_zero]
      repeat (first | go_big_quiet_step (first | (go_at_call 48; exact calls_qw (SA.out _))) | quiet_step (first | (go_at_call 48; exact calls_qw (SA.out _))))
      refine wpQuiet_nil ?_
      intro nn K hK
      have hu' := nn.q.cell hu
      have fz' : nn.x.frozen? ⟨gq, i, none⟩ = false := by rw [nn.q.2]; exact fz
      have FN : Hid (Fill w2 (nn.x.setCell ⟨gq, i, none⟩ (.int .u32 (VV : Nat))) gq nq (fun i => (fun x y => smp S a x (b - 1 - y)) (i % (a)) (i / (a))) (i + 1)) := (FI.out.next nn.q).step hi HV.out
      have BN : Hid (PBox (nn.x.setCell ⟨gq, i, none⟩ (.int .u32 (VV : Nat))) V (a) (b) (.slice (some ⟨gq, 0, none⟩) nq nq)) := by
        obtain ⟨m0, m1, m2⟩ := BI.out.next nn.q
        constructor <;> (rw [World.cell?_setCell_other _ _ _ _ (fun e => hgv (by injection e))]; assumption)
      clear SA n0 df00 df01 df02 dx0 dx1 dx2
      go_wp2_with fail
      go_roundg (nq - (i + 1))
      case measure => go_light; omega
      case rel => go_light; exact ⟨i + 1, by go_num, by omega, FN, BN⟩

    · have hie : i = nq := by omega
      have FE : Hid (Fill w2 wr gq nq (fun i => (fun x y => smp S a x (b - 1 - y)) (i % (a)) (i / (a))) nq) := by rw [hie] at FI; exact FI
      have OW : Hid (Own w wr gq (tab (a) (b) (fun x y => smp S a x (b - 1 - y)))) := (Fill.own FE.out (by rw [tab_length]; exact HNQ.out.symm) (fun k hk => by rw [HNQ.out] at hk; exact tab_get hk)).base QT.out
      have f10 := FI.out.q.cell z10
      have f11 := FI.out.q.cell z11
      have f12 := FI.out.q.cell z12
      have ff : ∀ j, wr.frozen? ⟨w.heap.size + 1, j, none⟩ = false := fun j => by rw [FI.out.q.2]; exact yf j
      have hgr : gq ≠ w.heap.size + 1 := by omega
      clear FI FE
      go_wp2_with fail
      refine bodyPost_ret (v := .tuple #[.agg #[.int .i64 ((a : Nat) : Int), .int .i64 ((b : Nat) : Int), .slice (some ⟨gq, 0, none⟩) nq nq], .int .i64 0]) (by simp [results, Try.results27, go_sem, f10, f11, f12]) rfl ?_
      have OW2 := ((OW.out.set (c := w.heap.size + 1) (j := 0) (v := .int .i64 ((a : Nat) : Int)) (by omega) (fun e => hgr e.symm)).set (c := w.heap.size + 1) (j := 1) (v := .int .i64 ((b : Nat) : Int)) (by omega) (fun e => hgr e.symm)).set (c := w.heap.size + 1) (j := 2) (v := .slice (some ⟨gq, 0, none⟩) nq nq) (by omega) (fun e => hgr e.symm)
      exact ⟨gq, nq, rfl, OW2.q, OW2.new, OW2.free, ⟨HS.out, tab_length _ _ _, by rw [tab_length]; exact HNQ.out, Nat.le_refl _, OW2.cells⟩⟩
end Go.Proofs.Ytkgfohodahkmmaa
