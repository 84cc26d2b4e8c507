/- SpaceBack: sizes; three alike. -/
import Derived.Test.YtedafbbpcpebbaaG801fb8ef
import Derived.Test.YtedafbbpcpebbaaG7a02fef1
import Derived.Test.YtedafbbpcpebbaaG76c6a4a2
namespace Go.Proofs.Ytedafbbpcpebbaa
open Go.RowKit
set_option linter.unusedVariables false
set_option linter.unusedSimpArgs false

set_option maxHeartbeats 2000000 in
theorem size_any (a : Nat) (ha : a < 4294967296) (fa : rung32 a < 2139095040) (w : World) : Calls Try.prog 25 #[.int .u32 (a : Int)] w fun x w' => ∃ v, x = .returned v ∧ Sz w' v (sampleZ a).natAbs ∧ Q w w' := by
  have ew1 : IntKind.u64.wrap (a : Int) = a := by rw [IntKind.wrap_u64]; omega
  have HF : Hid (rung32 a < 2139095040) := fa
  clear fa
  go_enter Try.func25, Try.ntmps25
  go_wp2_with fail
  have hB : Hid (ABox w _ w.heap.size) := ⟨(Q.refl w).cells _ _, (zero_box w).1, (zero_box w).2, Nat.le_refl _⟩
  generalize w.alloc (.cells #[.int .i64 0, .bool false, .slice none 0 0, .int .i64 0, .bool false] 38) = wz at hB ⊢
  refine (f32_any _).mono ?_
  rintro e' w1 ⟨rfl, q1⟩
  replace hB : Hid (ABox w w1 w.heap.size) := hB.out.next q1
  clear q1
  go_wp2_with fail
  refine (of32_any a _ ha).mono ?_
  rintro e' w5 ⟨v, rfl, hv3, q5⟩
  replace hB : Hid (ABox w w5 w.heap.size) := hB.out.next q5
  rw [single_num HF.out] at hv3
  have HS : Hid (blen (mag32 (rung32 a)) ≤ 2000 ∧ -1074 ≤ -149 + (plc32 (rung32 a) : Int) ∧ -149 + (plc32 (rung32 a) : Int) ≤ 2000 ∧ zm (mag32 (rung32 a)) (-149 + (plc32 (rung32 a) : Int)) = (sampleZ a).natAbs) := by
    have hp := plc_le32 HF.out
    have hm := blen_le (k := 24) (show mag32 (rung32 a) < 2 ^ 24 from mag_lt32 _)
    refine ⟨by omega, by omega, by omega, ?_⟩
    unfold zm sampleZ
    rw [signed_abs, show (-149 + (plc32 (rung32 a) : Int) + 1074).toNat = plc32 (rung32 a) + 925 by omega]
  generalize mag32 (rung32 a) = N at *
  generalize -149 + (plc32 (rung32 a) : Int) = E at *
  obtain ⟨nv, rfl, p, bb, L, C, rfl, hI⟩ := hv3
  have HV : Hid (NumAt w5 (.agg #[.int .i64 2, .bool false, .slice p L C, .int .i64 E, .bool false]) (.fin false N E false)) := ⟨_, rfl, p, bb, L, C, rfl, hI⟩
  clear hI q5
  replace hB : Hid (ABox w (w5.alloc (.cells #[.int .i64 2, .bool false, .slice p L C, .int .i64 E, .bool false] 38)) w.heap.size) := hB.out.next ((Q.refl w5).cells _ _)
  replace HV : Hid (NumAt (w5.alloc (.cells #[.int .i64 2, .bool false, .slice p L C, .int .i64 E, .bool false] 38)) (.agg #[.int .i64 2, .bool false, .slice p L C, .int .i64 E, .bool false]) (.fin false N E false)) := ((Q.refl w5).cells #[.int .i64 2, .bool false, .slice p L C, .int .i64 E, .bool false] 38).num HV.out
  obtain ⟨h1, h2⟩ := five_set hB.out.b 2 false p L C E false
  have HN : Hid _ := h1 _ _ HV.out
  have HQ : Hid _ := h2 _ hB.out.q hB.out.v
  clear h1 h2 HV
  obtain ⟨c0, c1, c2, c3, c4⟩ := hB.out.b
  have hf := hB.out.f
  clear hB
  go_wp2_with fail
  refine bodyPost_ret (v := .agg #[.int .i64 2, .bool false, .slice p L C, .int .i64 E, .bool false]) (by simp [results, Try.results25, go_sem, c0, c1, c2, c3, c4]) rfl ⟨_, rfl, ⟨N, E, HN.out, HS.out⟩, HQ.out⟩
/-- A word by its place. -/
theorem word_srung {a b : Nat} (ha : a < 4294967296) (hb : b < 4294967296) (h : srung32 a = srung32 b) (h0 : srung32 a ≠ 0) : a = b := by
  unfold srung32 rung32 at *
  rw [sgn_hi ha] at *
  rw [sgn_hi hb] at h
  by_cases x : 2147483648 ≤ a <;> by_cases y : 2147483648 ≤ b
  · rw [decide_eq_true x, decide_eq_true y, if_pos rfl, if_pos rfl] at h; omega
  · rw [decide_eq_true x, decide_eq_false y, if_pos rfl, if_neg (by decide)] at h; rw [decide_eq_true x, if_pos rfl] at h0; omega
  · rw [decide_eq_false x, decide_eq_true y, if_neg (by decide), if_pos rfl] at h; rw [decide_eq_false x, if_neg (by decide)] at h0; omega
  · rw [decide_eq_false x, decide_eq_false y, if_neg (by decide), if_neg (by decide)] at h; omega
theorem sub_self64 {x : Nat} (hx : rung64 x < 9218868437227405312) : opT .sub x x = 0 := by
  have e := sub_fin hx hx
  rw [Int.sub_self] at e
  rw [opT_of hA2 e]
  unfold wordOf sg
  rw [if_pos rfl, show (0 : Int).natAbs = 0 from rfl, rungOf_zero]
  cases sgn64 x <;> rfl
theorem zero_cases {r : Nat} (hr : r < 4294967296) (h : rung32 r = 0) : r = 0 ∨ r = 2147483648 := by unfold rung32 at h; omega
theorem yS_yD {r : Nat} (hr : rung32 r < 2139095040) : ∃ x, yS r r = x ∧ yD r = x ∧ Wf x (2 * sampleZ r) := by
  obtain ⟨D, K, C⟩ := caps
  have R := wide_wf hr
  have r1 := C.sk r hr
  have a1 := ab_add (sampleZ r) (sampleZ r)
  have e1 := add_fin R.fin R.fin
  rw [R.val] at e1
  have eS : yS r r = wordOf (sgn64 (wideW r)) (2 * sampleZ r) := by
    show opT .add (wideW r) (wideW r) = _
    rw [opT_of hA1 e1, ← Int.two_mul]
    unfold wordOf
    congr 1
    unfold sg
    by_cases z : 2 * sampleZ r = 0
    · rw [if_pos z, Bool.and_self]
    · rw [if_neg z]
      have := signed_sign (s := sgn32 r) (m := mag32 (rung32 r)) (k := plc32 (rung32 r) + 925)
      have h0 : sampleZ r ≠ 0 := by omega
      have h1 := this h0
      have hw : sgn64 (wideW r) = sgn32 r := by rw [wideW_of (fin_num hr)]; exact (wide_fin hr).2.1
      rw [hw]
      refine Eq.trans ?_ h1.symm
      rw [decide_eq_decide]
      show 2 * sampleZ r < 0 ↔ sampleZ r < 0
      omega
  have eD : yD r = wordOf (sgn64 (wideW r)) (2 * sampleZ r) := by
    unfold yD
    rw [mul_2, shfW_num (read_fin64 R.fin)]
    unfold wordOf
    congr 1
    have hz : 2 * sampleZ r = Ieee.signed (sgn64 (wideW r)) (mag64 (rung64 (wideW r))) (plc64 (rung64 (wideW r)) + 1) := by
      rw [signed_mul, ← sval_signed, R.val, Int.mul_comm]; rfl
    rw [hz, signed_abs, rung_scale]
    congr 1; omega
  refine ⟨_, eS, eD, ?_⟩
  have S := add_wf R R (C.lg _ (by omega))
  have e2 := RN_two (a := r) (j := 1) (by decide) hr
  rw [show sampleZ r * 2 ^ 1 = 2 * sampleZ r by rw [Int.mul_comm]; rfl] at e2
  rw [← Int.two_mul, e2] at S
  rw [← eS]; exact S
/-- Three alike: what ToYCC tells, to the bit. -/
theorem alike {r : Nat} (hl : r < 4294967296) (hr : rung32 r < 2139095040) : ycc0 r r r = r ∧ ycc1 r r r = 0 ∧ ycc2 r r r = 0 := by
  obtain ⟨x, e1, e2, wx⟩ := yS_yD hr
  have z1 : shfW 0 (-2) = 0 := by decide +kernel
  have z2 : shfW 0 (-1) = 0 := by decide +kernel
  have z3 : narW 0 = 0 := by decide +kernel
  refine ⟨?_, ?_, ?_⟩
  · by_cases h0 : rung32 r = 0
    · rcases zero_cases hl h0 with rfl | rfl <;> decide +kernel
    · obtain ⟨k1, k2, k3⟩ := mean_between hr hr hr hr hr (Int.le_refl _) (Int.le_refl _) (Int.le_refl _) (Int.le_refl _) (Int.le_refl _) (Int.le_refl _)
      refine (word_srung hl (narW_lt _) (Int.le_antisymm k1 k2) ?_).symm
      unfold srung32; split <;> omega
  · unfold ycc1
    rw [e1, e2, sub_self64 wx.fin, quo_4, z1, z3]
  · unfold ycc2
    rw [sub_self64 (wide_wf hr).fin, quo_2, z2, z3]
theorem wide_0 : wideW 0 = 0 := by decide +kernel
/-- .. and what comes back, by value. -/
theorem alike_back {r : Nat} (hr : rung32 r < 2139095040) : srung32 (rgb0 r 0 0) = srung32 r ∧ srung32 (rgb1 r 0 0) = srung32 r ∧ srung32 (rgb2 r 0 0) = srung32 r := by
  obtain ⟨D, K, C⟩ := caps
  obtain ⟨v1, v2, v3⟩ := rgb_vals C hr (show rung32 0 < 2139095040 by decide) (show rung32 0 < 2139095040 by decide)
  have z : sampleZ 0 = 0 := by
    obtain ⟨c, hc⟩ : ∃ c : Nat, c = 925 := ⟨_, rfl⟩
    have := samp_abs (a := 0) hc
    rw [show rung32 0 = 0 from by decide, val_zero32, Nat.zero_mul] at this
    exact Int.natAbs_eq_zero.1 this
  have e := RN_two (a := r) (j := 0) (by decide) hr
  rw [Int.pow_zero, Int.mul_one] at e
  rw [z, Int.sub_zero, Int.add_zero, e, e, RS_self hr] at v1
  rw [z, Int.add_zero, e, RS_self hr] at v2
  rw [z, Int.sub_zero, Int.sub_zero, e, e, RS_self hr] at v3
  exact ⟨v1, v2, v3⟩
end Go.Proofs.Ytedafbbpcpebbaa
/- Log and Exp rise; the scale's ends. -/
namespace Go.Proofs.Ytedafbbpcpebbaa
open Go.RowKit
set_option linter.unusedVariables false

theorem exN_val (y : Nat) : exN y = rne (val32 (rung32 y)) 126 := by
  unfold val32
  rcases Nat.le_total (plc32 (rung32 y)) 126 with h | h
  · rw [exN_lo h]
    have := rne_scale (mag32 (rung32 y)) (126 - plc32 (rung32 y)) (plc32 (rung32 y))
    rw [show 126 - plc32 (rung32 y) + plc32 (rung32 y) = 126 by omega] at this
    exact this.symm
  · rw [exN_hi h]
    have := rne_exact (mag32 (rung32 y) * 2 ^ (plc32 (rung32 y) - 126)) 126
    rw [Nat.mul_assoc, ← Nat.pow_add, show plc32 (rung32 y) - 126 + 126 = plc32 (rung32 y) by omega] at this
    exact this.symm
theorem exN_mono {x y : Nat} (h : rung32 x ≤ rung32 y) : exN x ≤ exN y := by
  rw [exN_val, exN_val]; exact rne_mono _ (val_le32 h)
theorem expI_mono {x y : Nat} (h : srung32 x ≤ srung32 y) : expI x ≤ expI y := by
  unfold expI
  rw [sgn0, sgn0]
  unfold srung32 at h
  cases hx : sgn32 x <;> cases hy : sgn32 y <;> rw [hx, hy] at h <;> simp only [Bool.false_eq_true, if_false, if_true] at h ⊢
  · have := exN_mono (x := x) (y := y) (by omega); omega
  · have h1 : rung32 x = 0 := by omega
    have h2 : rung32 y = 0 := by omega
    have e1 : exN x = 0 := by rw [exN_val, h1]; decide +kernel
    have e2 : exN y = 0 := by rw [exN_val, h2]; decide +kernel
    omega
  · omega
  · have := exN_mono (x := y) (y := x) (by omega); omega
theorem expW_mid {y : Nat} (h : nanN y = false) (h1 : srung32 y < 1124073472) (h2 : -1123942400 ≤ srung32 y) : (expW y : Int) = expI y + 1065353216 := by
  obtain ⟨_, _, b1, b2⟩ := exp_int h1 h2
  unfold expW
  rw [if_neg (by rw [h]; decide), if_neg (by omega), if_neg (by omega)]
  unfold expP; omega
theorem expW_hi {y : Nat} (h : nanN y = false) (h1 : 1124073472 ≤ srung32 y) : expW y = 2139095040 := by
  unfold expW
  rw [if_neg (by rw [h]; decide), if_pos h1]
theorem expW_low {y : Nat} (h : nanN y = false) (h1 : srung32 y < -1123942400) : expW y = 0 := by
  unfold expW
  rw [if_neg (by rw [h]; decide), if_neg (by omega), if_pos h1]
theorem srung_small {x : Nat} (h : x < 2147483648) : srung32 x = x := by
  unfold srung32 sgn32 rung32
  rw [show (x / 2147483648 % 2 == 1) = false from by rw [beq_eq_false_iff_ne]; omega, if_neg (by decide)]
  omega
theorem expW_top {y : Nat} (h : nanN y = false) : expW y ≤ 2139095040 := by
  rcases Int.lt_or_le (srung32 y) 1124073472 with g | g
  · rcases Int.lt_or_le (srung32 y) (-1123942400) with k | k
    · rw [expW_low h k]; omega
    · have := expW_mid h g k
      obtain ⟨_, _, b1, b2⟩ := exp_int g k
      omega
  · rw [expW_hi h g]; omega
theorem exp_rises {x y : Nat} (hx : nanN x = false) (hy : nanN y = false) (h : srung32 x ≤ srung32 y) : srung32 (expW x) ≤ srung32 (expW y) := by
  have tx := expW_top hx
  have ty := expW_top hy
  rw [srung_small (by omega), srung_small (by omega)]
  rcases Int.lt_or_le (srung32 y) 1124073472 with g | g
  · rcases Int.lt_or_le (srung32 x) (-1123942400) with k | k
    · rw [expW_low hx k]; omega
    · have e1 := expW_mid hx (by omega) k
      have e2 := expW_mid hy g (by omega)
      have := expI_mono h
      omega
  · rw [expW_hi hy g]; omega
theorem log_key {x : Nat} (hx : x < 4294967296) {c : Nat} (hc : c = 1051) : srung32 (logP x) = RS (((x : Int) - 1065353216) * 2 ^ c) ∧ nanN (logP x) = false := by
  rw [logP_eq hx, show Ieee.single.nearest (decide ((x : Int) - 1065353216 < 0)) ((x : Int) - 1065353216).natAbs (-23) = toldD (some (.number (decide ((x : Int) - 1065353216 < 0)) ((x : Int) - 1065353216).natAbs (-23))) from rfl]
  have hp : (0 : Int) < 2 ^ c := Int.pow_pos (by decide)
  refine srung_told (fun h => ?_) ?_
  · rw [decide_eq_decide]
    constructor
    · intro h1; exact Int.mul_neg_of_neg_of_pos h1 hp
    · intro h1
      rcases Int.lt_or_le ((x : Int) - 1065353216) 0 with g | g
      · exact g
      · have := Int.mul_nonneg g (Int.le_of_lt hp); omega
  · rw [Int.natAbs_mul, Int.natAbs_pow, show (2 : Int).natAbs = 2 from rfl, rung_scale]
    congr 1; omega
theorem ends {c : Nat} (hc : c = 1051) : RS ((-1065353216) * 2 ^ c) = -1123942400 ∧ RS (1073741824 * 2 ^ c) = 1124073472 := by
  have e1 : sampleZ 3271426048 = (-1065353216) * 2 ^ c := by
    unfold sampleZ
    rw [show sgn32 3271426048 = true from by decide, show mag32 (rung32 3271426048) = 16646144 from by decide, show plc32 (rung32 3271426048) + 925 = 6 + c from by rw [hc]; decide, signed_mul, show Ieee.signed true 16646144 6 = -1065353216 from by decide]
  have e2 : sampleZ 1124073472 = 1073741824 * 2 ^ c := by
    unfold sampleZ
    rw [show sgn32 1124073472 = false from by decide, show mag32 (rung32 1124073472) = 8388608 from by decide, show plc32 (rung32 1124073472) + 925 = 7 + c from by rw [hc]; decide, signed_mul, show Ieee.signed false 8388608 7 = 1073741824 from by decide]
  rw [← e1, ← e2, RS_self (by decide), RS_self (by decide)]
  exact ⟨by decide, by decide⟩
theorem pow_le {a b : Int} {c : Nat} (h : a ≤ b) : a * 2 ^ c ≤ b * 2 ^ c := Int.mul_le_mul_of_nonneg_right h (Int.le_of_lt (Int.pow_pos (by decide)))
theorem log_between {x : Nat} (h : x < 2139095040) : -1123942400 ≤ srung32 (logP x) ∧ srung32 (logP x) ≤ 1124073472 ∧ nanN (logP x) = false := by
  obtain ⟨c, hc⟩ : ∃ c : Nat, c = 1051 := ⟨_, rfl⟩
  obtain ⟨k1, k2⟩ := log_key (x := x) (by omega) hc
  obtain ⟨e1, e2⟩ := ends hc
  have m1 := RS_mono (pow_le (c := c) (show (-1065353216 : Int) ≤ (x : Int) - 1065353216 by omega))
  have m2 := RS_mono (pow_le (c := c) (show (x : Int) - 1065353216 ≤ 1073741824 by omega))
  rw [k1, ← e1, ← e2]
  exact ⟨m1, m2, k2⟩
theorem pos_word {x : Nat} (hx : x < 4294967296) (h : 0 < srung32 x) : x < 2147483648 ∧ srung32 x = x := by
  have hlt : x < 2147483648 := by
    rcases Nat.lt_or_ge x 2147483648 with g | g
    · exact g
    · unfold srung32 at h
      rw [sgn_hi hx, decide_eq_true g, if_pos rfl] at h
      omega
  exact ⟨hlt, srung_small hlt⟩
theorem logV_zero {x : Nat} (hn : nanN x = false) (h : srung32 x = 0) : logV x = 4286578688 := by
  unfold logV; rw [if_neg (by rw [hn]; simp; omega), if_pos h]
theorem logV_inf : logV 2139095040 = 2139095040 := by decide +kernel
theorem logV_pos {x : Nat} (hx : x < 4294967296) (hn : nanN x = false) (h : 0 < srung32 x) (hi : x ≠ 2139095040) : logV x = logP x ∧ x < 2139095040 := by
  obtain ⟨h1, h2⟩ := pos_word hx h
  refine ⟨by unfold logV; rw [if_neg (by rw [hn]; simp; omega), if_neg (by omega), if_neg hi], ?_⟩
  rw [nanN_rung] at hn
  have hn := of_decide_eq_false hn
  unfold rung32 at hn
  omega
theorem log_rises {x y : Nat} (hx : x < 4294967296) (hy : y < 4294967296) (nx : nanN x = false) (ny : nanN y = false) (h0 : 0 ≤ srung32 x) (h : srung32 x ≤ srung32 y) : srung32 (logV x) ≤ srung32 (logV y) := by
  have s1 : srung32 4286578688 = -2139095040 := by decide
  have s2 : srung32 2139095040 = 2139095040 := by decide
  have bd : ∀ z, z < 4294967296 → nanN z = false → 0 ≤ srung32 z → -2139095040 ≤ srung32 (logV z) ∧ srung32 (logV z) ≤ 2139095040 := by
    intro z hz nz h0
    by_cases g : srung32 z = 0
    · rw [logV_zero nz g]; omega
    · by_cases k : z = 2139095040
      · rw [k, logV_inf]; omega
      · obtain ⟨e, hl⟩ := logV_pos hz nz (by omega) k
        have := log_between hl
        rw [e]; omega
  have b1 := bd x hx nx h0
  have b2 := bd y hy ny (by omega)
  by_cases g : srung32 x = 0
  · rw [logV_zero nx g]; omega
  · by_cases k : y = 2139095040
    · rw [k, logV_inf]; omega
    · obtain ⟨e2, l2⟩ := logV_pos hy ny (by omega) k
      by_cases k' : x = 2139095040
      · have a1 := pos_word hy (by omega)
        have a2 := pos_word hx (by omega)
        omega
      · obtain ⟨e1, l1⟩ := logV_pos hx nx (by omega) k'
        obtain ⟨c, hc⟩ : ∃ c : Nat, c = 1051 := ⟨_, rfl⟩
        rw [e1, e2, (log_key hx hc).1, (log_key hy hc).1]
        refine RS_mono (pow_le ?_)
        have a1 := pos_word hy (by omega)
        have a2 := pos_word hx (by omega)
        omega
theorem and_7f (s : Int) (h0 : 0 ≤ s) (h1 : s ≤ 4294967295) : bits .and .u32 s 2147483647 = s % 2147483648 := by go_bits2
set_option maxHeartbeats 400000 in
theorem fin7_any (a : Nat) (ha : a < 4294967296) (w : World) : Calls Try.prog 24 #[.int .u32 (a : Int)] w fun e w' => e = .returned (.bool (decide (rung32 a < 2139095040))) ∧ w' = w := by
  have e2 := and_7f a (by omega) (by omega)
  have e3 : decide ((a : Int) % 2147483648 < 2139095040) = decide (rung32 a < 2139095040) := by rw [decide_eq_decide]; unfold rung32; omega
  go_enter Try.func24, Try.ntmps24
  go_wp2
  go_ret
  exact ⟨rfl, rfl⟩
end Go.Proofs.Ytedafbbpcpebbaa
