/- The document's planes: Extend. -/
import Derived.Test.YtkgfohodahkmmaaPrE
namespace Go.Proofs.Ytkgfohodahkmmaa
open Go.RowKit
set_option linter.unusedVariables false
set_option linter.unusedSimpArgs false

set_option maxHeartbeats 8000000 in
set_option maxRecDepth 100000 in
theorem rext_good {a b : Nat} (hs : Size a b) {S : List Nat} (hl : S.length = a * b) (g o cap : Nat) (k : Int) (l t r1 bo : Nat) (hk : k = 1 ∨ k = 2 ∨ k = 3) (l2 : l ≤ 1024) (t2 : t ≤ 1024) (r2 : r1 ≤ 1024) (bb2 : bo ≤ 1024) (PW PH : Nat) (hPW : l + a + r1 = PW) (hPH : t + b + bo = PH) (hz : Size PW PH) (w : World) (hu : UIs w g o S) :
    Calls Try.prog 34 #[.agg #[.int .i64 (a : Int), .int .i64 (b : Int), .slice (some ⟨g, o, none⟩) S.length cap], .int .i64 k, .int .i64 (l : Int), .int .i64 (t : Int), .int .i64 (r1 : Int), .int .i64 (bo : Int)] w (Mk w (PW) (PH) (tab (PW) (PH) (extV S a b k l t))) := by
  have hb : ((0 : Int) != 0) = false := by decide
  have hn : S.length ≤ 65536 := by rw [hl]; exact hs.ab
  obtain ⟨w1, hw1⟩ : ∃ w1, (w.alloc (.cells #[.int .i64 (a : Int), .int .i64 (b : Int), .slice (some ⟨g, o, none⟩) S.length cap] 25)).alloc (.cells #[.int .i64 0, .int .i64 0, .slice none 0 0] 25) = w1 := ⟨_, rfl⟩
  have Q1 : Hid (Q w w1) := by rw [← hw1]; exact (((Q.refl w).cells _ _).cells _ _)
  have S1 : w1.heap.size = w.heap.size + 1 + 1 := by rw [← hw1]; simp
  have z00 : w1.cell? ⟨w.heap.size, 0, none⟩ = some (.int .i64 (a : Int)) := by rw [← hw1]; simp [go_sem]
  have z01 : w1.cell? ⟨w.heap.size, 1, none⟩ = some (.int .i64 (b : Int)) := by rw [← hw1]; simp [go_sem]
  have z02 : w1.cell? ⟨w.heap.size, 2, none⟩ = some (.slice (some ⟨g, o, none⟩) S.length cap) := by rw [← hw1]; simp [go_sem]
  have z10 : w1.cell? ⟨w.heap.size + 1, 0, none⟩ = some (.int .i64 0) := by rw [← hw1]; simp [go_sem]
  have z11 : w1.cell? ⟨w.heap.size + 1, 1, none⟩ = some (.int .i64 0) := by rw [← hw1]; simp [go_sem]
  have z12 : w1.cell? ⟨w.heap.size + 1, 2, none⟩ = some (.slice none 0 0) := by rw [← hw1]; simp [go_sem]
  have yf : ∀ j, w1.frozen? ⟨w.heap.size + 1, j, none⟩ = false := fun j => by rw [← hw1]; simp [go_sem]
  have CK := rcheck_any (a : Int) (b : Int) (some ⟨g, o, none⟩) S.length cap (by omega) w1
  rw [show chk (a : Int) (b : Int) S.length = 0 by rw [hl]; exact chk_size hs] at CK
  have HS : Hid (Size a b) := hs
  have HL : Hid (S.length = a * b) := hl
  have HU : Hid (UIs w g o S) := hu
  have a1 := hs.a1
  have a2 := hs.a2
  have b1 := hs.b1
  have b2 := hs.b2
  have HK : Hid (k = 1 ∨ k = 2 ∨ k = 3) := hk
  have BO : ∀ w : World, Calls Try.prog 33 #[.int .i64 k, .int .i64 1, .int .i64 0] w fun e w' => e = .returned (.tuple #[.int .i64 (borV k 1 0), .int .i64 0]) ∧ w' = w := fun w => by
    have := rborder_any k 1 0 w
    rw [(borA_ok 0 hk ⟨by decide, by decide⟩).1, (borA_ok 0 hk ⟨by decide, by decide⟩).2] at this
    exact this
  have BX : Hid (∀ (i : Int) (w : World), Calls Try.prog 33 #[.int .i64 k, .int .i64 (a : Int), .int .i64 i] w fun e w' => e = .returned (.tuple #[.int .i64 (borV k a i), .int .i64 0]) ∧ w' = w) := fun i w => by
    have := rborder_any k (a : Int) i w
    rw [(borA_ok i hk ⟨by omega, by omega⟩).1, (borA_ok i hk ⟨by omega, by omega⟩).2] at this
    exact this
  have BY : Hid (∀ (i : Int) (w : World), Calls Try.prog 33 #[.int .i64 k, .int .i64 (b : Int), .int .i64 i] w fun e w' => e = .returned (.tuple #[.int .i64 (borV k b i), .int .i64 0]) ∧ w' = w) := fun i w => by
    have := rborder_any k (b : Int) i w
    rw [(borA_ok i hk ⟨by omega, by omega⟩).1, (borA_ok i hk ⟨by omega, by omega⟩).2] at this
    exact this
  have LX : Hid (∀ i : Int, 0 ≤ borV k a i ∧ borV k a i < a) := fun i => borV_lt i (by omega)
  have LY : Hid (∀ i : Int, 0 ≤ borV k b i ∧ borV k b i < b) := fun i => borV_lt i (by omega)
  have cPW : (l : Int) + a + r1 = PW := by omega
  have cPH : (t : Int) + b + bo = PH := by omega
  have SZ : ∀ w : World, Calls Try.prog 45 #[.int .i64 (PW : Int), .int .i64 (PH : Int)] w fun e w' => e = .returned (.bool true) ∧ w' = w := fun w => by
    have := rsize_any (PW : Int) (PH : Int) w
    rw [sizeB_true.2 hz.b] at this
    exact this
  have v1 : IntKind.i64.wrap ((l : Int) + a) = (l : Int) + a := by rw [IntKind.wrap_i64]; omega
  have v2 : IntKind.i64.wrap ((l : Int) + a + r1) = PW := by rw [IntKind.wrap_i64]; omega
  have v3 : IntKind.i64.wrap ((t : Int) + b) = (t : Int) + b := by rw [IntKind.wrap_i64]; omega
  have v4 : IntKind.i64.wrap ((t : Int) + b + bo) = PH := by rw [IntKind.wrap_i64]; omega
  have HZ : Hid (Size PW PH) := hz
  have HPB : Hid (PW ≤ 1024 ∧ PH ≤ 1024) := ⟨hz.a2, hz.b2⟩
  have n1 : ¬ (l : Int) < 0 := by omega
  have n2 : ¬ (t : Int) < 0 := by omega
  have n3 : ¬ (r1 : Int) < 0 := by omega
  have n4 : ¬ (bo : Int) < 0 := by omega
  have o1 : ¬ (1024 : Int) < (l : Int) := by omega
  have o2 : ¬ (1024 : Int) < (t : Int) := by omega
  have o3 : ¬ (1024 : Int) < (r1 : Int) := by omega
  have o4 : ¬ (1024 : Int) < (bo : Int) := by omega
  clear hk hz hPW hPH
  clear hs hl hu
  go_enter Try.func34, Try.ntmps34
  go_wp2_with fail
  clear hw1
  refine CK.mono ?_
  rintro e w2 ⟨rfl, q2⟩
  replace z00 := q2.cell z00
  replace z01 := q2.cell z01
  replace z02 := q2.cell z02
  replace z10 := q2.cell z10
  replace z11 := q2.cell z11
  replace z12 := q2.cell z12
  replace yf : ∀ j, w2.frozen? ⟨w.heap.size + 1, j, none⟩ = false := fun j => by rw [q2.2]; exact yf j
  have QT : Hid (Q w w2) := Q1.out.trans q2
  have hsz : w.heap.size + 1 + 1 ≤ w2.heap.size := by have := q2.1.size; omega
  clear CK q2 Q1 S1
  go_wp2_with fail
  refine (BO _).mono ?_
  rintro e wz ⟨rfl, hz⟩
  rw [hz]
  clear hz wz
  go_wp2_with fail
  refine (SZ _).mono ?_
  rintro e wz ⟨rfl, hz⟩
  rw [hz]
  clear hz wz
  go_wp2_with fail
  refine (blank_any (PW) (PH) HZ.out w2).mono ?_
  rintro e w3 ⟨gq, nq, rfl, hnq, FL⟩
  have HNQ : Hid (nq = (PW) * (PH)) := hnq
  have nq2 : nq ≤ 65536 := by rw [hnq]; exact HZ.out.ab
  clear hnq
  obtain ⟨w4, hw4⟩ : ∃ w4, w3.alloc (.cells #[.int .i64 ((PW : Nat) : Int), .int .i64 ((PH : Nat) : Int), .slice (some ⟨gq, 0, none⟩) nq nq] 25) = w4 := ⟨_, rfl⟩
  have q4 : Q w3 w4 := by rw [← hw4]; exact (Q.refl _).cells _ _
  have v0 : w4.cell? ⟨w3.heap.size, 0, none⟩ = some (.int .i64 ((PW : Nat) : Int)) := by rw [← hw4]; simp [go_sem]
  have v1 : w4.cell? ⟨w3.heap.size, 1, none⟩ = some (.int .i64 ((PH : Nat) : Int)) := by rw [← hw4]; simp [go_sem]
  have v2 : w4.cell? ⟨w3.heap.size, 2, none⟩ = some (.slice (some ⟨gq, 0, none⟩) nq nq) := by rw [← hw4]; simp [go_sem]
  have hgv : gq ≠ w3.heap.size := by
    obtain ⟨u, hu⟩ := FL.out.room 0 (by rw [HNQ.out]; exact HZ.out.pos)
    have := World.block_lt_of_cell? _ _ hu
    have : gq < w3.heap.size := this
    omega
  have hg2 : w2.heap.size ≤ gq := FL.out.new
  have F0 : Hid (Fill w2 w4 gq nq (fun i => (extV S a b k l t) (i % (PW)) (i / (PW))) 0) := by
    obtain ⟨p1, p2, p3, p4, p5⟩ := FL.out.next q4
    exact ⟨p1, p2, fun i hi => absurd hi (Nat.not_lt_zero _), p4, p5⟩
  obtain ⟨V, hV⟩ : ∃ V, w3.heap.size = V := ⟨_, rfl⟩
  rw [hV] at v0 v1 v2 hgv
  clear FL q4
  go_wp2_with fail
  clear hw4
  go_loopg [16] nq (fun m sx wr => ∃ i : Nat, sx = .int .i64 i ∧ i + m = nq ∧ Hid (Fill w2 wr gq nq (fun i => (extV S a b k l t) (i % (PW)) (i / (PW))) i) ∧ Hid (PBox wr V (PW) (PH) (.slice (some ⟨gq, 0, none⟩) nq nq)))
  case atStart => exact ⟨0, rfl, by omega, F0, ⟨v0, v1, v2⟩⟩
  case round =>
    obtain ⟨i, rfl, hm, FI, BI⟩ := hrel
    obtain ⟨x0, x1, x2⟩ := id BI.out
    clear v0 v1 v2 F0
    by_cases hi : i < nq
    · have hi0 : (0 : Int) ≤ (i : Int) := by omega
      have hi1 : (i : Int) < (nq : Int) := by omega
      have QX : Hid (Q w wr) := QT.out.trans FI.out.q
      have f00 := FI.out.q.cell z00
      have f01 := FI.out.q.cell z01
      have f02 := FI.out.q.cell z02
      obtain ⟨u, hu⟩ := FI.out.room i hi
      have fz := FI.out.free i
      obtain ⟨X, hX⟩ : ∃ X, i % (PW) = X := ⟨_, rfl⟩
      obtain ⟨Y, hY⟩ : ∃ Y, i / (PW) = Y := ⟨_, rfl⟩
      have hpl := row_lt (W := (PW)) (H := (PH)) (i := i) (by rw [← HNQ.out]; exact hi)
      rw [hX, hY] at hpl
      obtain ⟨ap, xl, yl⟩ := hpl
      have tX : Int.tmod (i : Int) ((PW : Nat) : Int) = (X : Int) := by rw [Int.tmod_eq_emod_of_nonneg (by omega), ← Int.natCast_emod, hX]
      have tY : Int.tdiv (i : Int) ((PW : Nat) : Int) = (Y : Int) := by rw [Int.tdiv_eq_ediv_of_nonneg (by omega), ← Int.natCast_ediv, hY]
      have az : ((PW : Nat) : Int) ≠ 0 := by omega
      have azb : (((PW : Nat) : Int) == 0) = false := by rw [beq_eq_false_iff_ne]; exact az
      have HG : Hid ((fun i => (extV S a b k l t) (i % (PW)) (i / (PW))) i = (extV S a b k l t) X Y) := by show (extV S a b k l t) (i % (PW)) (i / (PW)) = _; rw [hX, hY]
      have wX : IntKind.i64.wrap (X : Int) = (X : Int) := by rw [IntKind.wrap_i64]; omega
      have wY : IntKind.i64.wrap (Y : Int) = (Y : Int) := by rw [IntKind.wrap_i64]; omega
      obtain ⟨XL, hXL⟩ : ∃ XL, (X : Int) - (l : Int) = XL := ⟨_, rfl⟩
      obtain ⟨YT, hYT⟩ : ∃ YT, (Y : Int) - (t : Int) = YT := ⟨_, rfl⟩
      have hpb := HPB.out
      have u1 : IntKind.i64.wrap ((X : Int) - (l : Int)) = XL := by rw [IntKind.wrap_i64]; omega
      have u2 : IntKind.i64.wrap ((Y : Int) - (t : Int)) = YT := by rw [IntKind.wrap_i64]; omega
      have CX : Hid (∀ n : QW wr, Calls Try.prog 33 #[.int .i64 k, .int .i64 (a : Int), .int .i64 XL] n.x fun e w' => e = .returned (.tuple #[.int .i64 (borV k a XL), .int .i64 0]) ∧ w' = n.x) := fun n => BX.out XL n.x
      have CY : Hid (∀ (w5 : World) (n : QW w5), Calls Try.prog 33 #[.int .i64 k, .int .i64 (b : Int), .int .i64 YT] n.x fun e w' => e = .returned (.tuple #[.int .i64 (borV k b YT), .int .i64 0]) ∧ w' = n.x) := fun w5 n => BY.out YT n.x
      have lx := LX.out XL
      have ly := LY.out YT
      replace HG : Hid ((fun i => (extV S a b k l t) (i % (PW)) (i / (PW))) i = smp S a (borV k a XL).toNat (borV k b YT).toNat) := by
        have := HG.out
        unfold extV at this
        rw [hXL, hYT] at this
        exact this
      obtain ⟨PX, hPX⟩ : ∃ PX, (borV k (a : Int) XL).toNat = PX := ⟨_, rfl⟩
      obtain ⟨PY, hPY⟩ : ∃ PY, (borV k (b : Int) YT).toNat = PY := ⟨_, rfl⟩
      have ex : borV k (a : Int) XL = (PX : Int) := by omega
      have ey : borV k (b : Int) YT = (PY : Int) := by omega
      rw [ex] at CX
      rw [ey] at CY
      have l1 : PX < a := by omega
      have l2 : PY < b := by omega
      rw [hPX, hPY] at HG
      clear lx ly ex ey hPX hPY hXL hYT
      have n0 := qw_some wr
      have df00 := qw_cell f00
      have dx0 := qw_cell x0
      go_wp2_with fail
      refine wp_region_quiet_Q (by kernel_rfl) (by kernel_rfl) ?_
      repeat (first | go_big_quiet_step (first | (go_at_call 33; exact calls_qs (CX.out _))) | quiet_step (first | (go_at_call 33; exact calls_qs (CX.out _))))
      refine wpQuiet_nil ?_
      intro w5 hw'
      have qw5 := qw_out hw'
      clear hw' n0 df00 dx0
      replace f00 := qw5.cell f00
      replace f01 := qw5.cell f01
      replace f02 := qw5.cell f02
      replace x0 := qw5.cell x0
      replace x1 := qw5.cell x1
      replace x2 := qw5.cell x2
      replace hu := qw5.cell hu
      replace fz : w5.frozen? ⟨gq, i, none⟩ = false := by rw [qw5.2]; exact fz
      replace FI : Hid (Fill w2 w5 gq nq (fun i => (extV S a b k l t) (i % (PW)) (i / (PW))) i) := FI.out.next qw5
      replace BI : Hid (PBox w5 V (PW) (PH) (.slice (some ⟨gq, 0, none⟩) nq nq)) := BI.out.next qw5
      replace QX : Hid (Q w w5) := QX.out.trans qw5
      clear qw5
      have n0 := qw_some w5
      have df01 := qw_cell f01
      have dx0 := qw_cell x0
      go_wp2_with fail
      refine wp_region_quiet_Q (by kernel_rfl) (by kernel_rfl) ?_
      repeat (first | go_big_quiet_step (first | (go_at_call 33; exact calls_qs (CY.out _ _))) | quiet_step (first | (go_at_call 33; exact calls_qs (CY.out _ _))))
      refine wpQuiet_nil ?_
      intro w6 hw'
      have qw6 := qw_out hw'
      clear hw' n0 df01 dx0
      replace f00 := qw6.cell f00
      replace f01 := qw6.cell f01
      replace f02 := qw6.cell f02
      replace x0 := qw6.cell x0
      replace x1 := qw6.cell x1
      replace x2 := qw6.cell x2
      replace hu := qw6.cell hu
      replace fz : w6.frozen? ⟨gq, i, none⟩ = false := by rw [qw6.2]; exact fz
      replace FI : Hid (Fill w2 w6 gq nq (fun i => (extV S a b k l t) (i % (PW)) (i / (PW))) i) := FI.out.next qw6
      replace BI : Hid (PBox w6 V (PW) (PH) (.slice (some ⟨gq, 0, none⟩) nq nq)) := BI.out.next qw6
      replace QX : Hid (Q w w6) := QX.out.trans qw6
      clear qw6
      have SA : Hid (∀ n : QW w6, Calls Try.prog 48 #[.agg #[.int .i64 (a : Int), .int .i64 (b : Int), .slice (some ⟨g, o, none⟩) S.length cap], .int .i64 (PX : Int), .int .i64 (PY : Int)] n.x fun e w' => e = .returned (.int .u32 (smp S a (PX) (PY) : Nat)) ∧ Q n.x w') := fun n => rat_any HS.out HL.out _ _ (x := PX) (y := PY) (by omega) (by omega) (by omega) (by omega) (HU.out.next (QX.out.trans n.q))
      have HV : Hid (smp S a (PX) (PY) = (fun i => (extV S a b k l t) (i % (PW)) (i / (PW))) i) := by show smp S a (PX) (PY) = _; exact HG.out.symm
      obtain ⟨VV, hVV⟩ : ∃ VV, smp S a (PX) (PY) = VV := ⟨_, rfl⟩
      rw [hVV] at SA HV
      have n0 := qw_some w6
      have df00 := qw_cell f00
      have df01 := qw_cell f01
      have df02 := qw_cell f02
      have dx0 := qw_cell x0
      have dx1 := qw_cell x1
      have dx2 := qw_cell x2
      clear hVV HG hX hY
      go_wp2_with fail
      refine wp_region_lastn 8 rfl _ rfl (by kernel_rfl) (by kernel_rfl) (by kernel_rfl) ?_
      simp only [List.take_succ_cons, List.take_zero]
      repeat (first | go_big_quiet_step (first | (go_at_call 48; exact calls_qw (SA.out _))) | quiet_step (first | (go_at_call 48; exact calls_qw (SA.out _))))
      refine wpQuiet_nil ?_
      intro nn K hK
      have hu' := nn.q.cell hu
      have fz' : nn.x.frozen? ⟨gq, i, none⟩ = false := by rw [nn.q.2]; exact fz
      have FN : Hid (Fill w2 (nn.x.setCell ⟨gq, i, none⟩ (.int .u32 (VV : Nat))) gq nq (fun i => (extV S a b k l t) (i % (PW)) (i / (PW))) (i + 1)) := (FI.out.next nn.q).step hi HV.out
      have BN : Hid (PBox (nn.x.setCell ⟨gq, i, none⟩ (.int .u32 (VV : Nat))) V (PW) (PH) (.slice (some ⟨gq, 0, none⟩) nq nq)) := by
        obtain ⟨m0, m1, m2⟩ := BI.out.next nn.q
        constructor <;> (rw [World.cell?_setCell_other _ _ _ _ (fun e => hgv (by injection e))]; assumption)
      clear SA n0 df00 df01 df02 dx0 dx1 dx2
      go_wp2_with fail
      go_roundg (nq - (i + 1))
      case measure => go_light; omega
      case rel => go_light; exact ⟨i + 1, by go_num, by omega, FN, BN⟩

    · have hie : i = nq := by omega
      have FE : Hid (Fill w2 wr gq nq (fun i => (extV S a b k l t) (i % (PW)) (i / (PW))) nq) := by rw [hie] at FI; exact FI
      have OW : Hid (Own w wr gq (tab (PW) (PH) (extV S a b k l t))) := (Fill.own FE.out (by rw [tab_length]; exact HNQ.out.symm) (fun k hk => by rw [HNQ.out] at hk; exact tab_get hk)).base QT.out
      have f10 := FI.out.q.cell z10
      have f11 := FI.out.q.cell z11
      have f12 := FI.out.q.cell z12
      have ff : ∀ j, wr.frozen? ⟨w.heap.size + 1, j, none⟩ = false := fun j => by rw [FI.out.q.2]; exact yf j
      have hgr : gq ≠ w.heap.size + 1 := by omega
      clear FI FE
      go_wp2_with fail
      refine bodyPost_ret (v := .tuple #[.agg #[.int .i64 ((PW : Nat) : Int), .int .i64 ((PH : Nat) : Int), .slice (some ⟨gq, 0, none⟩) nq nq], .int .i64 0]) (by simp [results, Try.results34, go_sem, f10, f11, f12]) rfl ?_
      have OW2 := ((OW.out.set (c := w.heap.size + 1) (j := 0) (v := .int .i64 ((PW : Nat) : Int)) (by omega) (fun e => hgr e.symm)).set (c := w.heap.size + 1) (j := 1) (v := .int .i64 ((PH : Nat) : Int)) (by omega) (fun e => hgr e.symm)).set (c := w.heap.size + 1) (j := 2) (v := .slice (some ⟨gq, 0, none⟩) nq nq) (by omega) (fun e => hgr e.symm)
      exact ⟨gq, nq, rfl, OW2.q, OW2.new, OW2.free, ⟨HZ.out, tab_length _ _ _, by rw [tab_length]; exact HNQ.out, Nat.le_refl _, OW2.cells⟩⟩
end Go.Proofs.Ytkgfohodahkmmaa
