/- The document's planes: Turn. -/
import Derived.Test.YtkgfohodahkmmaaPrJ
namespace Go.Proofs.Ytkgfohodahkmmaa
open Go.RowKit
set_option linter.unusedVariables false
set_option linter.unusedSimpArgs false

theorem set_otherP (w : World) {rb i : Nat} {x : Value} {a : Addr} (h : a.block ≠ rb) : (w.setCell ⟨rb, i, none⟩ x).cell? a = w.cell? a := World.cell?_setCell_other _ _ _ _ (fun e => h (by rw [← e]))
/-- Turned once more. -/
theorem tuL_next {j a b : Nat} {S : List Nat} (hj : j + 1 < 4) (hs : Size a b) : tab (tuB j a b) (tuA j a b) (fun x y => smp (tuL j a b S) (tuA j a b) y (tuB j a b - 1 - x)) = tuL (j + 1) a b S ∧ tuB j a b = tuA (j + 1) a b ∧ tuA j a b = tuB (j + 1) a b := by
  have h1 := tuL_add (q1 := j) (q2 := 1) (q3 := j + 1) (a := a) (b := b) (S := S) (by omega) (by decide) (by omega) hs
  have h2 := tuA_add (q1 := j) (q2 := 1) (q3 := j + 1) (a := a) (b := b) (by omega) (by decide) (by omega)
  exact ⟨h1, h2.1, h2.2⟩
set_option maxHeartbeats 8000000 in
set_option maxRecDepth 100000 in
theorem rturn_good {a b : Nat} (hs : Size a b) {S : List Nat} (hl : S.length = a * b) (g o cap : Nat) (k : Int) {q0 : Nat} (hk : k % 4 = q0) (w : World) (hu : UIs w g o S) :
    Calls Try.prog 31 #[.agg #[.int .i64 (a : Int), .int .i64 (b : Int), .slice (some ⟨g, o, none⟩) S.length cap], .int .i64 k] w (Mk w (tuA q0 a b) (tuB q0 a b) (tuL q0 a b S)) := by
  have hb : ((0 : Int) != 0) = false := by decide
  have hn : S.length ≤ 65536 := by rw [hl]; exact hs.ab
  have q4 : q0 < 4 := by omega
  obtain ⟨w1, hw1⟩ : ∃ w1, (w.alloc (.cells #[.int .i64 (a : Int), .int .i64 (b : Int), .slice (some ⟨g, o, none⟩) S.length cap] 25)).alloc (.cells #[.int .i64 0, .int .i64 0, .slice none 0 0] 25) = w1 := ⟨_, rfl⟩
  have Q1 : Hid (Q w w1) := by rw [← hw1]; exact (((Q.refl w).cells _ _).cells _ _)
  have S1 : w1.heap.size = w.heap.size + 1 + 1 := by rw [← hw1]; simp
  have z00 : w1.cell? ⟨w.heap.size, 0, none⟩ = some (.int .i64 (a : Int)) := by rw [← hw1]; simp [go_sem]
  have z01 : w1.cell? ⟨w.heap.size, 1, none⟩ = some (.int .i64 (b : Int)) := by rw [← hw1]; simp [go_sem]
  have z02 : w1.cell? ⟨w.heap.size, 2, none⟩ = some (.slice (some ⟨g, o, none⟩) S.length cap) := by rw [← hw1]; simp [go_sem]
  have z10 : w1.cell? ⟨w.heap.size + 1, 0, none⟩ = some (.int .i64 0) := by rw [← hw1]; simp [go_sem]
  have z11 : w1.cell? ⟨w.heap.size + 1, 1, none⟩ = some (.int .i64 0) := by rw [← hw1]; simp [go_sem]
  have z12 : w1.cell? ⟨w.heap.size + 1, 2, none⟩ = some (.slice none 0 0) := by rw [← hw1]; simp [go_sem]
  have yf : ∀ j, w1.frozen? ⟨w.heap.size + 1, j, none⟩ = false := fun j => by rw [← hw1]; simp [go_sem]
  have CK := rcheck_any (a : Int) (b : Int) (some ⟨g, o, none⟩) S.length cap (by omega) w1
  rw [show chk (a : Int) (b : Int) S.length = 0 by rw [hl]; exact chk_size hs] at CK
  have tw := tmod_twice k 4 (by decide)
  rw [hk] at tw
  obtain ⟨_, _, t3, t4⟩ := tmod_mod k 4 (by decide)
  have e1 : IntKind.i64.wrap (Int.tmod k 4) = Int.tmod k 4 := by rw [IntKind.wrap_i64]; omega
  have e2 : IntKind.i64.wrap (Int.tmod k 4 + 4) = Int.tmod k 4 + 4 := by rw [IntKind.wrap_i64]; omega
  have e3 : IntKind.i64.wrap (q0 : Int) = (q0 : Int) := by rw [IntKind.wrap_i64]; omega
  have HS : Hid (Size a b) := hs
  have HL : Hid (S.length = a * b) := hl
  have HU : Hid (UIs w g o S) := hu
  clear hs hl hu hk
  go_enter Try.func31, Try.ntmps31
  go_wp2_with fail
  clear hw1
  refine CK.mono ?_
  rintro e w2 ⟨rfl, q2⟩
  replace z00 := q2.cell z00
  replace z01 := q2.cell z01
  replace z02 := q2.cell z02
  replace z10 := q2.cell z10
  replace z11 := q2.cell z11
  replace z12 := q2.cell z12
  replace yf : ∀ j, w2.frozen? ⟨w.heap.size + 1, j, none⟩ = false := fun j => by rw [q2.2]; exact yf j
  have QT : Hid (Q w w2) := Q1.out.trans q2
  have hsz : w.heap.size + 1 + 1 ≤ w2.heap.size := by have := q2.1.size; omega
  clear CK q2 Q1 S1
  go_wp2_with fail
  refine (rcopy_any HS.out HL.out g o cap w2 (HU.out.next QT.out)).mono ?_
  rintro e w3 ⟨gc0, nc0, rfl, hnq, OC⟩
  obtain ⟨w4, hw4⟩ : ∃ w4, w3.alloc (.cells #[.int .i64 (a : Int), .int .i64 (b : Int), .slice (some ⟨gc0, 0, none⟩) nc0 nc0] 25) = w4 := ⟨_, rfl⟩
  have qq4 : Q w3 w4 := by rw [← hw4]; exact (Q.refl _).cells _ _
  have BX0 : Hid (PBox w4 w3.heap.size (tuA 0 a b) (tuB 0 a b) (.slice (some ⟨gc0, 0, none⟩) nc0 nc0)) := by rw [← hw4]; exact ⟨by simp [go_sem, tuA], by simp [go_sem, tuB], by simp [go_sem]⟩
  have vf0 : ∀ j, w4.frozen? ⟨w3.heap.size, j, none⟩ = false := fun j => by rw [← hw4]; simp [go_sem]
  have PL0 : Hid (Pl w4 gc0 0 nc0 nc0 (tuA 0 a b) (tuB 0 a b) (tuL 0 a b S)) := by
    rw [tuL_zero HL.out]
    exact ⟨HS.out, HL.out, by rw [hnq, HL.out], Nat.le_refl _, OC.out.cells.next qq4⟩
  have FR0 : Hid (w2.heap.size ≤ gc0 ∧ ∀ j, w4.frozen? ⟨gc0, j, none⟩ = false) := ⟨OC.out.new, fun j => by rw [qq4.2]; exact OC.out.free j⟩
  have QQ0 : Hid (Q w2 w4) := OC.out.q.trans qq4
  have hV2 : w2.heap.size ≤ w3.heap.size := OC.out.q.1.size
  have hgv0 : gc0 ≠ w3.heap.size := by
    have hc := OC.out.cells 0 (by rw [HL.out]; exact HS.out.pos)
    have := World.block_lt_of_cell? _ _ hc
    have : gc0 < w3.heap.size := this
    omega
  obtain ⟨V, hV⟩ : ∃ V, w3.heap.size = V := ⟨_, rfl⟩
  rw [hV] at BX0 vf0 hgv0 hV2
  clear OC qq4 hnq
  go_wp2_with fail
  clear hw4 HU
  go_loopg [8] q0 (fun m s8 wr => ∃ (j gc nc : Nat), s8 = .int .i64 ((m : Nat) : Int) ∧ j + m = q0 ∧ Hid (Q w2 wr) ∧ Hid (PBox wr V (tuA j a b) (tuB j a b) (.slice (some ⟨gc, 0, none⟩) nc nc)) ∧ Hid (Pl wr gc 0 nc nc (tuA j a b) (tuB j a b) (tuL j a b S)) ∧ Hid (w2.heap.size ≤ gc ∧ ∀ j, wr.frozen? ⟨gc, j, none⟩ = false) ∧ (∀ j, wr.frozen? ⟨V, j, none⟩ = false) ∧ gc ≠ V)
  case atStart => exact ⟨0, gc0, nc0, rfl, by omega, QQ0, BX0, PL0, FR0, vf0, hgv0⟩
  case round =>
    obtain ⟨j, gc, nc, rfl, hj, HQ, BX, PL, FR, vf, hgv⟩ := hrel
    clear BX0 vf0 PL0 FR0 QQ0 hgv0
    generalize wr = wo at *
    generalize gk = gm at *
    have NX : Hid (j + 1 < 4 → tab (tuB j a b) (tuA j a b) (fun x y => smp (tuL j a b S) (tuA j a b) y (tuB j a b - 1 - x)) = tuL (j + 1) a b S ∧ tuB j a b = tuA (j + 1) a b ∧ tuA j a b = tuB (j + 1) a b) := fun h => tuL_next h HS.out
    have EN : Hid (gm = 0 → tuA j a b = tuA q0 a b ∧ tuB j a b = tuB q0 a b ∧ tuL j a b S = tuL q0 a b S) := fun h => by
      have : j = q0 := by omega
      subst this
      exact ⟨rfl, rfl, rfl⟩
    obtain ⟨A0, hA0⟩ : ∃ A0, tuA j a b = A0 := ⟨_, rfl⟩
    obtain ⟨B0, hB0⟩ : ∃ B0, tuB j a b = B0 := ⟨_, rfl⟩
    obtain ⟨L0, hL0⟩ : ∃ L0, tuL j a b S = L0 := ⟨_, rfl⟩
    rw [hA0, hB0] at BX
    rw [hA0, hB0, hL0] at PL NX EN
    clear hA0 hB0 hL0
    obtain ⟨c0, c1, c2⟩ := id BX.out
    by_cases hm0 : 0 < gm
    · have g1 : (0 : Int) < (gm : Int) := by omega
      have s1 := PL.out.size.a1
      have s2 := PL.out.size.a2
      have s3 := PL.out.size.b1
      have s4 := PL.out.size.b2
      go_wp2_with fail
      refine (blank_any B0 A0 PL.out.size.swap wo).mono ?_
      rintro e w5 ⟨gt, nt, rfl, hnt, FL⟩
      have HNT : Hid (nt = B0 * A0) := hnt
      have nt2 : nt ≤ 65536 := by rw [hnt]; exact PL.out.size.swap.ab
      clear hnt
      obtain ⟨w6, hw6⟩ : ∃ w6, w5.alloc (.cells #[.int .i64 (B0 : Int), .int .i64 (A0 : Int), .slice (some ⟨gt, 0, none⟩) nt nt] 25) = w6 := ⟨_, rfl⟩
      have q6 : Q w5 w6 := by rw [← hw6]; exact (Q.refl _).cells _ _
      have BT0 : Hid (PBox w6 w5.heap.size B0 A0 (.slice (some ⟨gt, 0, none⟩) nt nt)) := by rw [← hw6]; exact ⟨by simp [go_sem], by simp [go_sem], by simp [go_sem]⟩
      have hgt : gt < w5.heap.size := by
        obtain ⟨u, hu⟩ := FL.out.room 0 (by rw [HNT.out]; exact PL.out.size.swap.pos)
        exact World.block_lt_of_cell? _ _ hu
      have hgn : wo.heap.size ≤ gt := FL.out.new
      have hVr : V < wo.heap.size := World.block_lt_of_cell? _ _ c0
      have F0 : Hid (Fill wo w6 gt nt (fun i => (fun x y => smp L0 A0 y (B0 - 1 - x)) (i % B0) (i / B0)) 0) := by
        obtain ⟨p1, p2, p3, p4, p5⟩ := FL.out.next q6
        exact ⟨p1, p2, fun i hi => absurd hi (Nat.not_lt_zero _), p4, p5⟩
      have y2w := BT0.out.c2
      obtain ⟨VT, hVT⟩ : ∃ VT, w5.heap.size = VT := ⟨_, rfl⟩
      rw [hVT] at BT0 hgt y2w
      clear FL q6
      go_wp2_with fail
      clear hw6 y2w
      go_loopg [10] nt (fun m s10 wx => ∃ i : Nat, s10 = .int .i64 i ∧ i + m = nt ∧ Hid (Fill wo wx gt nt (fun i => (fun x y => smp L0 A0 y (B0 - 1 - x)) (i % B0) (i / B0)) i) ∧ Hid (PBox wx VT B0 A0 (.slice (some ⟨gt, 0, none⟩) nt nt)))
      case atStart => exact ⟨0, rfl, by omega, F0, BT0⟩
      case round =>
        obtain ⟨i, rfl, hm, FI, BI⟩ := hrel
        obtain ⟨y0, y1, y2⟩ := id BI.out
        have k0 := FI.out.q.cell c0
        have k1 := FI.out.q.cell c1
        have k2 := FI.out.q.cell c2
        clear F0 BT0
        by_cases hi : i < nt
        · have hi0 : (0 : Int) ≤ (i : Int) := by omega
          have hi1 : (i : Int) < (nt : Int) := by omega
          obtain ⟨u, hu⟩ := FI.out.room i hi
          have fz := FI.out.free i
          obtain ⟨X, hX⟩ : ∃ X, i % B0 = X := ⟨_, rfl⟩
          obtain ⟨Y, hY⟩ : ∃ Y, i / B0 = Y := ⟨_, rfl⟩
          have hpl := row_lt (W := B0) (H := A0) (i := i) (by rw [← HNT.out]; exact hi)
          rw [hX, hY] at hpl
          obtain ⟨ap, xl, yl⟩ := hpl
          have tX : Int.tmod (i : Int) (B0 : Int) = (X : Int) := by rw [Int.tmod_eq_emod_of_nonneg (by omega), ← Int.natCast_emod, hX]
          have tY : Int.tdiv (i : Int) (B0 : Int) = (Y : Int) := by rw [Int.tdiv_eq_ediv_of_nonneg (by omega), ← Int.natCast_ediv, hY]
          have az : (B0 : Int) ≠ 0 := by omega
          have azb : ((B0 : Int) == 0) = false := by rw [beq_eq_false_iff_ne]; exact az
          have wX : IntKind.i64.wrap (X : Int) = (X : Int) := by rw [IntKind.wrap_i64]; omega
          have wY : IntKind.i64.wrap (Y : Int) = (Y : Int) := by rw [IntKind.wrap_i64]; omega
          obtain ⟨AM, hAM⟩ : ∃ AM, (B0 : Int) - 1 = AM := ⟨_, rfl⟩
          obtain ⟨PX, hPX⟩ : ∃ PX, B0 - 1 - X = PX := ⟨_, rfl⟩
          have u1 : IntKind.i64.wrap ((B0 : Int) - 1) = AM := by rw [IntKind.wrap_i64]; omega
          have u2 : IntKind.i64.wrap (AM - (X : Int)) = (PX : Int) := by rw [IntKind.wrap_i64]; omega
          have u3 : AM - (X : Int) = (PX : Int) := by omega
          have lPX : PX < B0 := by omega
          have SA : Hid (∀ n : QW wr, Calls Try.prog 48 #[.agg #[.int .i64 (A0 : Int), .int .i64 (B0 : Int), .slice (some ⟨gc, 0, none⟩) nc nc], .int .i64 (Y : Int), .int .i64 (PX : Int)] n.x fun e w' => e = .returned (.int .u32 (smp L0 A0 Y PX : Nat)) ∧ Q n.x w') := fun n => by
            have := rat_any (cap := nc) PL.out.size PL.out.len (Y : Int) (PX : Int) (x := Y) (y := PX) rfl rfl yl lPX (PL.out.us.next (FI.out.q.trans n.q))
            rw [← PL.out.eq] at this
            exact this
          have HV : Hid (smp L0 A0 Y PX = (fun i => (fun x y => smp L0 A0 y (B0 - 1 - x)) (i % B0) (i / B0)) i) := by
            show smp L0 A0 Y PX = smp L0 A0 (i / B0) (B0 - 1 - i % B0)
            rw [hX, hY, hPX]
          obtain ⟨VV, hVV⟩ : ∃ VV, smp L0 A0 Y PX = VV := ⟨_, rfl⟩
          rw [hVV] at SA HV
          have n0 := qw_some wr
          have dk0 := qw_cell k0
          have dk1 := qw_cell k1
          have dk2 := qw_cell k2
          have dy0 := qw_cell y0
          have dy2 := qw_cell y2
          clear hVV hX hY hPX
          go_wp2_with fail
          refine wp_region_lastn 18 rfl _ rfl (by kernel_rfl) (by kernel_rfl) (by kernel_rfl) ?_
          simp only [List.take_succ_cons, List.take_zero]
          repeat (first | go_big_quiet_step (first | (go_at_call 48; exact calls_qw (SA.out _))) | quiet_step (first | (go_at_call 48; exact calls_qw (SA.out _))))
          refine wpQuiet_nil ?_
          intro nn K hK
          have hu' := nn.q.cell hu
          have fz' : nn.x.frozen? ⟨gt, i, none⟩ = false := by rw [nn.q.2]; exact fz
          have FN : Hid (Fill wo (nn.x.setCell ⟨gt, i, none⟩ (.int .u32 (VV : Nat))) gt nt (fun i => (fun x y => smp L0 A0 y (B0 - 1 - x)) (i % B0) (i / B0)) (i + 1)) := (FI.out.next nn.q).step hi HV.out
          have BN : Hid (PBox (nn.x.setCell ⟨gt, i, none⟩ (.int .u32 (VV : Nat))) VT B0 A0 (.slice (some ⟨gt, 0, none⟩) nt nt)) := by
            obtain ⟨m0, m1, m2⟩ := BI.out.next nn.q
            constructor <;> (rw [World.cell?_setCell_other _ _ _ _ (fun e => by injection e; omega)]; assumption)
          clear SA n0 dk0 dk1 dk2 dy0 dy2
          go_wp2_with fail
          go_roundg (nt - (i + 1))
          case measure => go_light; omega
          case rel => go_light; exact ⟨i + 1, by go_num, by omega, FN, BN⟩
        · have hie : i = nt := by omega
          have hjl : j + 1 < 4 := by omega
          obtain ⟨x1, x2, x3⟩ := NX.out hjl
          have OW : Own wo wr gt (tab B0 A0 (fun x y => smp L0 A0 y (B0 - 1 - x))) := by
            have f := FI.out
            rw [hie] at f
            exact Fill.own f (by rw [tab_length]; exact HNT.out.symm) (fun k hk => by rw [HNT.out] at hk; exact tab_get hk)
          have vg : ∀ j, (wr).frozen? ⟨V, j, none⟩ = false := fun j => by rw [FI.out.q.2]; exact vf j
          have hVg : V ≠ gt := by omega
          have QF : Hid (Q w2 (((wr.setCell ⟨V, 0, none⟩ (.int .i64 (B0 : Int))).setCell ⟨V, 1, none⟩ (.int .i64 (A0 : Int))).setCell ⟨V, 2, none⟩ (.slice (some ⟨gt, 0, none⟩) nt nt))) := (((HQ.out.trans FI.out.q).put (by omega)).put (by omega)).put (by omega)
          have BF : Hid (PBox (((wr.setCell ⟨V, 0, none⟩ (.int .i64 (B0 : Int))).setCell ⟨V, 1, none⟩ (.int .i64 (A0 : Int))).setCell ⟨V, 2, none⟩ (.slice (some ⟨gt, 0, none⟩) nt nt)) V (tuA (j + 1) a b) (tuB (j + 1) a b) (.slice (some ⟨gt, 0, none⟩) nt nt)) := by
            rw [← x2, ← x3]
            exact ⟨by simp [go_sem, k0, k1, k2], by simp [go_sem, k0, k1, k2], by simp [go_sem, k0, k1, k2]⟩
          have PF : Hid (Pl (((wr.setCell ⟨V, 0, none⟩ (.int .i64 (B0 : Int))).setCell ⟨V, 1, none⟩ (.int .i64 (A0 : Int))).setCell ⟨V, 2, none⟩ (.slice (some ⟨gt, 0, none⟩) nt nt)) gt 0 nt nt (tuA (j + 1) a b) (tuB (j + 1) a b) (tuL (j + 1) a b S)) := by
            rw [← x1, ← x2, ← x3]
            refine ⟨PL.out.size.swap, tab_length _ _ _, by rw [tab_length]; exact HNT.out, Nat.le_refl _, fun i hi => ?_⟩
            rw [set_otherP _ hVg.symm, set_otherP _ hVg.symm, set_otherP _ hVg.symm]
            exact OW.cells i hi
          have RF : Hid (w2.heap.size ≤ gt ∧ ∀ j, ((((wr.setCell ⟨V, 0, none⟩ (.int .i64 (B0 : Int))).setCell ⟨V, 1, none⟩ (.int .i64 (A0 : Int))).setCell ⟨V, 2, none⟩ (.slice (some ⟨gt, 0, none⟩) nt nt))).frozen? ⟨gt, j, none⟩ = false) := ⟨Nat.le_trans HQ.out.1.size hgn, fun j => by
            rw [World.frozen?_setCell, World.frozen?_setCell, World.frozen?_setCell]; exact OW.free j⟩
          have VF : ∀ j, ((((wr.setCell ⟨V, 0, none⟩ (.int .i64 (B0 : Int))).setCell ⟨V, 1, none⟩ (.int .i64 (A0 : Int))).setCell ⟨V, 2, none⟩ (.slice (some ⟨gt, 0, none⟩) nt nt))).frozen? ⟨V, j, none⟩ = false := fun j => by rw [World.frozen?_setCell, World.frozen?_setCell, World.frozen?_setCell]; exact vg j
          have gs : IntKind.i64.wrap ((gm : Int) - 1) = ((gm - 1 : Nat) : Int) := by rw [IntKind.wrap_i64]; omega
          obtain ⟨GK, hGK⟩ : ∃ GK, gm - 1 = GK := ⟨_, rfl⟩
          have gs2 : (gm : Int) - 1 = (GK : Int) := by omega
          rw [hGK] at gs
          clear x1 x2 x3 OW
          go_wp2_with fail
          go_roundg (gm - 1)
          case measure => go_light; omega
          case rel =>
            go_light
            rw [hGK]
            exact ⟨j + 1, gt, nt, rfl, by omega, QF, BF, PF, RF, VF, fun e => hVg e.symm⟩
    · have hz0 : gm = 0 := by omega
      obtain ⟨n1, n2, n3⟩ := EN.out hz0
      have HN3 : Hid (A0 = tuA q0 a b ∧ B0 = tuB q0 a b ∧ L0 = tuL q0 a b S) := ⟨n1, n2, n3⟩
      have QW2 : Hid (Q w wo) := QT.out.trans HQ.out
      have f10 := HQ.out.cell z10
      have f11 := HQ.out.cell z11
      have f12 := HQ.out.cell z12
      have ff : ∀ j, wo.frozen? ⟨w.heap.size + 1, j, none⟩ = false := fun j => by rw [HQ.out.2]; exact yf j
      have hgr : w.heap.size + 1 ≠ gc := by have := FR.out.1; omega
      subst hz0
      clear n1 n2 n3
      go_wp2_with fail
      refine bodyPost_ret (v := .tuple #[.agg #[.int .i64 (A0 : Int), .int .i64 (B0 : Int), .slice (some ⟨gc, 0, none⟩) nc nc], .int .i64 0]) (by simp [results, Try.results31, go_sem, f10, f11, f12]) rfl ?_
      have OW : Own w wo gc L0 := ⟨QW2.out, Nat.le_trans QT.out.1.size FR.out.1, PL.out.us, FR.out.2⟩
      have OW2 := ((OW.set (c := w.heap.size + 1) (j := 0) (v := .int .i64 (A0 : Int)) (by omega) hgr).set (c := w.heap.size + 1) (j := 1) (v := .int .i64 (B0 : Int)) (by omega) hgr).set (c := w.heap.size + 1) (j := 2) (v := .slice (some ⟨gc, 0, none⟩) nc nc) (by omega) hgr
      rw [← HN3.out.1, ← HN3.out.2.1, ← HN3.out.2.2]
      exact ⟨gc, nc, rfl, OW2.q, OW2.new, OW2.free, ⟨PL.out.size, PL.out.len, PL.out.eq, Nat.le_refl _, OW2.cells⟩⟩
end Go.Proofs.Ytkgfohodahkmmaa
