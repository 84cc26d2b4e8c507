/- The statement KernelRows: its walk. -/
import Derived.Test.YtlbeoiopgkkcdaaG7207e83d
namespace Go.Proofs.Ytlbeoiopgkkcdaa
open Go.RowKit
set_option linter.unusedVariables false
set_option linter.unusedSimpArgs false

theorem bin_sum : ∀ r : Nat, r ≤ 8 → sumF (binV (2 * (r : Int))) (2 * r + 1) = ((2 ^ (2 * r) : Nat) : Int) := by decide
theorem bin_sym : ∀ r : Nat, r ≤ 8 → ∀ i : Nat, i ≤ 16 → i ≤ 2 * r → binV (2 * (r : Int)) i = binV (2 * (r : Int)) (2 * r - i) := by decide
theorem bin_part : ∀ r : Nat, r ≤ 8 → ∀ i : Nat, i ≤ 17 → 0 ≤ sumF (binV (2 * (r : Int))) i ∧ sumF (binV (2 * (r : Int))) i ≤ 400000 := by decide
set_option maxHeartbeats 8000000 in
set_option maxRecDepth 1000000 in
theorem krows_walk (W : World) (r : Int) (h1 : -9223372036854775808 ≤ r) (h2 : r ≤ 9223372036854775807) :
    Calls Try.prog 6 #[.int .i64 r] W fun e w' => e = .returned (.bool true) ∧ Q W w' := by
  have C0 := known9_any W
  by_cases hb : r < 0 ∨ 8 < r
  · have HB1 : Hid (∀ w : World, Calls Try.prog 17 #[.int .i64 r] w fun e w' => e = .returned (.tuple #[.slice none 0 0, .int .i64 91]) ∧ w' = w) := fun w => rbin_bad r w hb
    have HB2 : Hid (∀ w : World, Calls Try.prog 18 #[.int .i64 r] w fun e w' => e = .returned (.tuple #[.slice none 0 0, .int .i64 91]) ∧ w' = w) := fun w => bin_bad r w hb
    by_cases hf : r < 0 ∨ 31 < r
    · have HF1 : Hid (∀ w : World, Calls Try.prog 19 #[.int .i64 r] w fun e w' => e = .returned (.tuple #[.slice none 0 0, .int .i64 91]) ∧ w' = w) := fun w => rflat_bad r w hf
      have HF2 : Hid (∀ w : World, Calls Try.prog 20 #[.int .i64 r] w fun e w' => e = .returned (.tuple #[.slice none 0 0, .int .i64 91]) ∧ w' = w) := fun w => flat_bad r w hf
      clear hb hf
      go_enter Try.func6, Try.ntmps6
      go_wp2_with fail
      refine C0.mono ?_
      rintro e w1 ⟨rfl, q1⟩
      have HQ1 : Hid (Q W w1) := q1
      clear C0 q1
      go_wp2_with fail
      refine (HB1.out w1).mono ?_
      rintro e w2 ⟨rfl, hw⟩
      obtain rfl := hw.symm
      clear hw
      go_wp2_with fail
      refine (HB2.out w1).mono ?_
      rintro e w2 ⟨rfl, hw⟩
      obtain rfl := hw.symm
      clear hw
      go_wp2_with fail
      refine (HF1.out w1).mono ?_
      rintro e w2 ⟨rfl, hw⟩
      obtain rfl := hw.symm
      clear hw
      go_wp2_with fail
      refine (HF2.out w1).mono ?_
      rintro e w2 ⟨rfl, hw⟩
      obtain rfl := hw.symm
      clear hw
      go_wp2_with fail
      refine (ints_any (.slice none 0 0) (.slice none 0 0) [] [] w1 (Or.inr ⟨_, _, rfl, rfl⟩) (Or.inr ⟨_, _, rfl, rfl⟩) (by decide) (by decide)).mono ?_
      rintro e w3 ⟨rfl, q3⟩
      rw [decide_eq_true rfl]
      have HQ3 : Hid (Q W w3) := HQ1.out.trans q3
      clear q3
      go_wp2_with fail
      refine (ints_any (.slice none 0 0) (.slice none 0 0) [] [] w3 (Or.inr ⟨_, _, rfl, rfl⟩) (Or.inr ⟨_, _, rfl, rfl⟩) (by decide) (by decide)).mono ?_
      rintro e w4 ⟨rfl, q4⟩
      rw [decide_eq_true rfl]
      have HQ4 : Hid (Q W w4) := HQ3.out.trans q4
      clear q4
      go_wp2_with fail
      go_loopg [11, 12] 0 (fun gh s11 s12 wr => s11 = .int .i64 0 ∧ s12 = .int .i64 0 ∧ wr = w4)
      case atStart => exact ⟨rfl, rfl, rfl⟩
      case round =>
        obtain ⟨rfl, rfl, hwr⟩ := hrel
        obtain rfl := hwr
        go_wp2_with fail
        go_ret
        exact ⟨by first | rfl | simp, HQ4.out⟩
    · obtain ⟨R, hR⟩ : ∃ R : Nat, r = (R : Int) := ⟨r.toNat, by omega⟩
      subst hR
      have HF1 : Hid (∀ w : World, Calls Try.prog 19 #[.int .i64 (R : Int)] w fun e w' => ∃ v n, e = .returned (.tuple #[v, .int .i64 0]) ∧ Il w w' v (tabI (2 * R + 1) fun _ => 1) n) := fun w => rflat_good R w (by omega)
      have HF2 : Hid (∀ w : World, Calls Try.prog 20 #[.int .i64 (R : Int)] w fun e w' => ∃ g, e = .returned (.tuple #[.slice (some ⟨g, 0, none⟩) (2 * R + 1) (2 * R + 1), .int .i64 0]) ∧ IRow w' g (tabI (2 * R + 1) fun _ => 1) ∧ Q w w') := fun w => flat_good R w (by omega)
      obtain ⟨N, hN⟩ : ∃ N, 2 * R + 1 = N := ⟨_, rfl⟩
      rw [hN] at HF1 HF2
      have hN2 : N ≤ 63 := by omega
      clear hb hf hN
      go_enter Try.func6, Try.ntmps6
      go_wp2_with fail
      refine C0.mono ?_
      rintro e w1 ⟨rfl, q1⟩
      have HQ1 : Hid (Q W w1) := q1
      clear C0 q1
      go_wp2_with fail
      refine (HB1.out w1).mono ?_
      rintro e w2 ⟨rfl, hw⟩
      obtain rfl := hw.symm
      clear hw
      go_wp2_with fail
      refine (HB2.out w1).mono ?_
      rintro e w2 ⟨rfl, hw⟩
      obtain rfl := hw.symm
      clear hw
      go_wp2_with fail
      refine (HF1.out w1).mono ?_
      rintro e w4 ⟨v4, n4, rfl, h4⟩
      have H4 : Hid (Il w1 w4 v4 (tabI N fun _ => 1) n4) := h4
      clear h4
      go_wp2_with fail
      refine (HF2.out w4).mono ?_
      rintro e w5 ⟨g5, rfl, h5, q5⟩
      have HR5 : Hid (IRow w5 g5 (tabI N fun _ => 1)) := h5
      have HQ5 : Hid (Q w4 w5) := q5
      clear h5 q5
      go_wp2_with fail
      refine (ints_any (.slice none 0 0) (.slice none 0 0) [] [] w5 (Or.inr ⟨_, _, rfl, rfl⟩) (Or.inr ⟨_, _, rfl, rfl⟩) (by decide) (by decide)).mono ?_
      rintro e w6 ⟨rfl, q6⟩
      rw [decide_eq_true rfl]
      have HQ6 : Hid (Q w5 w6) := q6
      clear q6
      go_wp2_with fail
      refine (ints_any (.slice (some ⟨g5, 0, none⟩) N N) v4 (tabI N fun _ => 1) (tabI N fun _ => 1) w6 (by have := (HR5.out.isl N).next HQ6.out; rw [tabI_len] at this; exact this) ((H4.out.isl.next HQ5.out).next HQ6.out) (by rw [tabI_len]; omega) (by rw [tabI_len]; omega)).mono ?_
      rintro e w7 ⟨rfl, q7⟩
      rw [decide_eq_true rfl]
      have HQ7 : Hid (Q w6 w7) := q7
      clear q7
      go_wp2_with fail
      go_loopg [11, 12] 0 (fun gh s11 s12 wr => s11 = .int .i64 0 ∧ s12 = .int .i64 0 ∧ wr = w7)
      case atStart => exact ⟨rfl, rfl, rfl⟩
      case round =>
        obtain ⟨rfl, rfl, hwr⟩ := hrel
        obtain rfl := hwr
        go_wp2_with fail
        go_ret
        exact ⟨by first | rfl | simp, (((HQ1.out.trans H4.out.q).trans HQ5.out).trans HQ6.out).trans HQ7.out⟩
  · obtain ⟨R, hR⟩ : ∃ R : Nat, r = (R : Int) := ⟨r.toNat, by omega⟩
    subst hR
    have hR8 : R ≤ 8 := by omega
    have HB1 : Hid (∀ w : World, Calls Try.prog 17 #[.int .i64 (R : Int)] w fun e w' => ∃ v n, e = .returned (.tuple #[v, .int .i64 0]) ∧ Il w w' v (tabI (2 * R + 1) (pasc (2 * R))) n) := fun w => rbin_good R w hR8
    have HB2 : Hid (∀ w : World, Calls Try.prog 18 #[.int .i64 (R : Int)] w fun e w' => ∃ v n, e = .returned (.tuple #[v, .int .i64 0]) ∧ Il w w' v (tabI (2 * R + 1) (binV (2 * (R : Int)))) n) := fun w => bin_good R w hR8
    have HF1 : Hid (∀ w : World, Calls Try.prog 19 #[.int .i64 (R : Int)] w fun e w' => ∃ v n, e = .returned (.tuple #[v, .int .i64 0]) ∧ Il w w' v (tabI (2 * R + 1) fun _ => 1) n) := fun w => rflat_good R w (by omega)
    have HF2 : Hid (∀ w : World, Calls Try.prog 20 #[.int .i64 (R : Int)] w fun e w' => ∃ g, e = .returned (.tuple #[.slice (some ⟨g, 0, none⟩) (2 * R + 1) (2 * R + 1), .int .i64 0]) ∧ IRow w' g (tabI (2 * R + 1) fun _ => 1) ∧ Q w w') := fun w => flat_good R w (by omega)
    rw [← pasc_bin R hR8] at HB1
    have Hsum : Hid (sumF (binV (2 * (R : Int))) (2 * R + 1) = ((2 ^ (2 * R) : Nat) : Int)) := bin_sum R hR8
    have Hsym : Hid (∀ i : Nat, i ≤ 16 → i ≤ 2 * R → binV (2 * (R : Int)) i = binV (2 * (R : Int)) (2 * R - i)) := bin_sym R hR8
    have Hpart : Hid (∀ i : Nat, i ≤ 17 → 0 ≤ sumF (binV (2 * (R : Int))) i ∧ sumF (binV (2 * (R : Int))) i ≤ 400000) := bin_part R hR8
    have Hbd : Hid (∀ k : Nat, k ≤ 16 → 0 ≤ binV (2 * (R : Int)) k ∧ binV (2 * (R : Int)) k ≤ 20000) := bin_bd R hR8
    generalize binV (2 * (R : Int)) = bn at *
    obtain ⟨N, hN⟩ : ∃ N, 2 * R + 1 = N := ⟨_, rfl⟩
    rw [hN] at HB1 HB2 HF1 HF2 Hsum
    have hN2 : N ≤ 63 := by omega
    have hN17 : N ≤ 17 := by omega
    have HN : Hid (2 * R + 1 = N) := hN
    clear hb hN
    go_enter Try.func6, Try.ntmps6
    go_wp2_with fail
    refine C0.mono ?_
    rintro e w1 ⟨rfl, q1⟩
    have HQ0 : Hid (Q W w1) := q1
    clear C0 q1
    go_wp2_with fail
    refine (HB1.out w1).mono ?_
    rintro e wb ⟨vb, nb, rfl, hb1⟩
    have Hb1 : Hid (Il w1 wb vb (tabI N bn) nb) := hb1
    clear hb1
    go_wp2_with fail
    refine (HB2.out wb).mono ?_
    rintro e wc ⟨vc, nc, rfl, hb2⟩
    have Hb2 : Hid (Il wb wc vc (tabI N bn) nc) := hb2
    have hnc : nc = N := by rw [hb2.len, tabI_len]
    obtain ⟨gc, cc, rfl⟩ : ∃ gc cc, vc = .slice (some ⟨gc, 0, none⟩) nc cc := by
      rcases hb2.o.2 with ⟨_, e⟩ | ⟨g', c', cur, e1, _⟩
      · have := HN.out; omega
      · exact ⟨g', c', e1⟩
    have HNc : Hid (nc = N) := hnc
    clear hb2 hnc
    go_wp2_with fail
    refine (HF1.out wc).mono ?_
    rintro e w4 ⟨v4, n4, rfl, h4⟩
    have H4 : Hid (Il wc w4 v4 (tabI N fun _ => 1) n4) := h4
    clear h4
    go_wp2_with fail
    refine (HF2.out w4).mono ?_
    rintro e w5 ⟨g5, rfl, h5, q5⟩
    have HR5 : Hid (IRow w5 g5 (tabI N fun _ => 1)) := h5
    have HQ5 : Hid (Q w4 w5) := q5
    clear h5 q5
    go_wp2_with fail
    refine (ints_any (.slice (some ⟨gc, 0, none⟩) nc cc) vb (tabI N bn) (tabI N bn) w5 (Hb2.out.isl.next (H4.out.q.trans HQ5.out)) (Hb1.out.isl.next ((Hb2.out.q.trans H4.out.q).trans HQ5.out)) (by rw [tabI_len]; omega) (by rw [tabI_len]; omega)).mono ?_
    rintro e w6 ⟨rfl, q6⟩
    rw [decide_eq_true rfl]
    have HQ6 : Hid (Q w5 w6) := q6
    clear q6
    go_wp2_with fail
    refine (ints_any (.slice (some ⟨g5, 0, none⟩) N N) v4 (tabI N fun _ => 1) (tabI N fun _ => 1) w6 (by have := (HR5.out.isl N).next HQ6.out; rw [tabI_len] at this; exact this) ((H4.out.isl.next HQ5.out).next HQ6.out) (by rw [tabI_len]; omega) (by rw [tabI_len]; omega)).mono ?_
    rintro e w7 ⟨rfl, q7⟩
    rw [decide_eq_true rfl]
    have HQ7 : Hid (Q w6 w7) := q7
    clear q7
    have HQ8 : Hid (Q W w7) := (((((HQ0.out.trans Hb1.out.q).trans Hb2.out.q).trans H4.out.q).trans HQ5.out).trans HQ6.out).trans HQ7.out
    have Hl : Hid (Il wb w7 (.slice (some ⟨gc, 0, none⟩) nc cc) (tabI N bn) nc) := Hb2.out.next (((H4.out.q.trans HQ5.out).trans HQ6.out).trans HQ7.out)
    obtain rfl : nc = N := HNc.out
    clear Hb1 Hb2 H4 HQ5 HQ6 HQ7 HR5 HQ0 HNc HB1 HB2 HF1 HF2
    go_wp2_with fail
    go_loopg [11, 12] nc (fun gh s11 s12 wr => ∃ (i : Nat) (T : Int), s11 = .int .i64 T ∧ s12 = .int .i64 (i : Int) ∧ i ≤ nc ∧ gh = nc - i ∧ Hid (T = sumF bn i) ∧ Hid (Q w7 wr))
    case atStart => exact ⟨0, 0, rfl, rfl, Nat.zero_le _, rfl, rfl, Q.refl w7⟩
    case round =>
      obtain ⟨i, T, rfl, rfl, hi, rfl, HT, HQ⟩ := hrel
      by_cases hlt : i < nc
      · have hltz : (i : Int) < (nc : Int) := by omega
        obtain ⟨m, hm⟩ : ∃ m : Nat, nc = m + 1 + i := ⟨nc - 1 - i, by omega⟩
        have em : (nc : Int) - 1 - (i : Int) = (m : Int) := by omega
        have em1 : ((nc : Int) - 1) - (i : Int) = (m : Int) := by omega
        have hmz : (m : Int) < (nc : Int) := by omega
        have hmn : m < nc := by omega
        obtain ⟨x, hx⟩ : ∃ x, bn i = x := ⟨_, rfl⟩
        have hsy : bn m = x := by
          rw [← hx, Hsym.out i (by omega) (by have := HN.out; omega)]
          congr 1
          have := HN.out
          omega
        have c1 := HQ.out.cell (own_at Hl.out.o (i := i) (z := bn i) (tabI_at hlt) (tabI_len _ _))
        have c2 := HQ.out.cell (own_at Hl.out.o (i := m) (z := bn m) (tabI_at hmn) (tabI_len _ _))
        rw [hx] at c1
        rw [hsy] at c2
        have b1 := Hpart.out i (by omega)
        have b2 := Hbd.out i (by omega)
        rw [← HT.out] at b1
        rw [hx] at b2
        have HT2 : Hid (T + x = sumF bn (i + 1)) := by show T + x = sumF bn i + bn i; rw [HT.out, hx]
        obtain ⟨b1a, b1b⟩ := b1
        obtain ⟨b2a, b2b⟩ := b2
        have n0 := qw_some wr
        have f0 := qw_cell c1
        have f1 := qw_cell c2
        have wm : IntKind.i64.wrap (m : Int) = (m : Int) := by rw [IntKind.wrap_i64]; omega
        have wn : IntKind.i64.wrap ((nc : Int) - 1) = (nc : Int) - 1 := by rw [IntKind.wrap_i64]; omega
        clear hx hsy hm HT
        go_wp2_with fail
        refine wp_region_quiet_Q (by kernel_rfl) (by kernel_rfl) ?_
        repeat (first | go_big_quiet_step (fail) | quiet_step (fail))
        refine wpQuiet_nil ?_
        intro w9 hw'
        have HQ9 : Hid (Q w7 w9) := HQ.out.trans (qw_out hw')
        clear hw' f0 f1 n0 c1 c2
        go_wp2_with fail
        go_roundg (nc - (i + 1))
        case measure => go_light; omega
        case rel => go_light; exact ⟨i + 1, T + x, rfl, by simp, by omega, rfl, HT2, HQ9⟩
      · have hge : ¬ (i : Int) < (nc : Int) := by omega
        obtain rfl : i = nc := by omega
        have hT : T = ((2 ^ (2 * R) : Nat) : Int) := by rw [HT.out]; exact Hsum.out
        have hcase : R = 0 ∨ R = 1 ∨ R = 2 ∨ R = 3 ∨ R = 4 ∨ R = 5 ∨ R = 6 ∨ R = 7 ∨ R = 8 := by omega
        rcases hcase with rfl | rfl | rfl | rfl | rfl | rfl | rfl | rfl | rfl
        · have hT2 : T = 1 := hT.trans (by decide)
          subst hT2
          clear hT
          go_wp2_with fail
          go_ret
          exact ⟨by first | rfl | simp, HQ8.out.trans HQ.out⟩
        · have hT2 : T = 4 := hT.trans (by decide)
          subst hT2
          clear hT
          go_wp2_with fail
          go_ret
          exact ⟨by first | rfl | simp, HQ8.out.trans HQ.out⟩
        · have hT2 : T = 16 := hT.trans (by decide)
          subst hT2
          clear hT
          go_wp2_with fail
          go_ret
          exact ⟨by first | rfl | simp, HQ8.out.trans HQ.out⟩
        · have hT2 : T = 64 := hT.trans (by decide)
          subst hT2
          clear hT
          go_wp2_with fail
          go_ret
          exact ⟨by first | rfl | simp, HQ8.out.trans HQ.out⟩
        · have hT2 : T = 256 := hT.trans (by decide)
          subst hT2
          clear hT
          go_wp2_with fail
          go_ret
          exact ⟨by first | rfl | simp, HQ8.out.trans HQ.out⟩
        · have hT2 : T = 1024 := hT.trans (by decide)
          subst hT2
          clear hT
          go_wp2_with fail
          go_ret
          exact ⟨by first | rfl | simp, HQ8.out.trans HQ.out⟩
        · have hT2 : T = 4096 := hT.trans (by decide)
          subst hT2
          clear hT
          go_wp2_with fail
          go_ret
          exact ⟨by first | rfl | simp, HQ8.out.trans HQ.out⟩
        · have hT2 : T = 16384 := hT.trans (by decide)
          subst hT2
          clear hT
          go_wp2_with fail
          go_ret
          exact ⟨by first | rfl | simp, HQ8.out.trans HQ.out⟩
        · have hT2 : T = 65536 := hT.trans (by decide)
          subst hT2
          clear hT
          go_wp2_with fail
          go_ret
          exact ⟨by first | rfl | simp, HQ8.out.trans HQ.out⟩
end Go.Proofs.Ytlbeoiopgkkcdaa
