/- The scale there and back: plain facts. -/
import Derived.Test.YtedafbbpcpebbabGa3bf4f91
namespace Go.Proofs.Ytedafbbpcpebbab
open Go.RowKit
set_option linter.unusedVariables false

/-- A whole number rounded to 24 digits. -/
theorem round24 {N : Nat} (hN : N ≤ 1073741824) : ∃ m : Nat, val32 (rungOf Ieee.single N (-23)) = m * 2 ^ 126 ∧ m ≤ N + 32 ∧ N ≤ m + 32 ∧ (N ≤ 16777216 → m = N) ∧ (8388608 ∣ N → m = N) ∧ rungOf Ieee.single N (-23) < 2139095040 := by
  by_cases h0 : N = 0
  · subst h0
    exact ⟨0, by rw [rungOf_zero]; decide, by omega, by omega, fun _ => rfl, fun _ => rfl, by rw [rungOf_zero]; decide⟩
  · have e0 : rungOf Ieee.single N (-23) = rungOf Ieee.single (N * 2 ^ 126) (-149) := by rw [rung_scale]; congr 1
    have hl : N.log2 ≤ 30 := by have := (Nat.log2_lt h0).2 (show N < 2 ^ 31 by omega); omega
    have hl2 : (N * 2 ^ 126).log2 = N.log2 + 126 := log2_mul_pow h0 126
    have hK : lostK32 (N * 2 ^ 126) = N.log2 + 103 := by unfold lostK32; omega
    have hr : rungOf Ieee.single N (-23) < 2139095040 := by
      rw [e0, rung32_eq (by omega), hK]
      have := (kept_bd32 (M := N * 2 ^ 126)).1
      rw [hK] at this
      omega
    rcases Nat.lt_or_ge N.log2 23 with g | g
    · refine ⟨N, ?_, by omega, by omega, fun _ => rfl, fun _ => rfl, hr⟩
      rw [e0]
      refine vN_div32 (by omega) ?_
      rw [hK]
      exact Nat.dvd_trans (Nat.pow_dvd_pow 2 (show N.log2 + 103 ≤ 126 by omega)) (Nat.dvd_mul_left ..)
    · obtain ⟨j, hj⟩ : ∃ j, N.log2 = j + 23 := ⟨N.log2 - 23, by omega⟩
      have hv : val32 (rungOf Ieee.single N (-23)) = rne N j * 2 ^ j * 2 ^ 126 := by
        rw [e0, vN_eq32 (by omega), hK, show N.log2 + 103 = j + 126 by omega, rne_scale, Nat.pow_add, ← Nat.mul_assoc]
      have hlow : 2 ^ (j + 23) ≤ N := by rw [← hj]; exact Nat.log2_self_le h0
      have hj7 : j ≤ 7 := by omega
      obtain ⟨n1, n2⟩ := rne_near N j
      have hex : 2 ^ j ∣ N → rne N j * 2 ^ j = N := by
        rintro ⟨q, rfl⟩
        rw [Nat.mul_comm (2 ^ j) q, rne_exact]
      have hj6 : 2 ^ j ≤ 64 ∨ N = 1073741824 := by
        rcases Nat.lt_or_ge j 7 with k | k
        · left; exact Nat.le_trans (Nat.pow_le_pow_right (by decide) (show j ≤ 6 by omega)) (by decide)
        · right
          have : j = 7 := by omega
          subst this
          have : 2 ^ (7 + 23) = 1073741824 := by decide
          omega
      have hdv : 8388608 ∣ N → rne N j * 2 ^ j = N := fun h => hex (Nat.dvd_trans (show 2 ^ j ∣ 8388608 from by rw [show (8388608 : Nat) = 2 ^ 23 from rfl]; exact Nat.pow_dvd_pow 2 (by omega)) h)
      refine ⟨rne N j * 2 ^ j, hv, ?_, ?_, fun h => ?_, hdv, hr⟩
      · rcases hj6 with k | k
        · omega
        · rw [hdv (by rw [k]; decide)]; omega
      · rcases hj6 with k | k
        · omega
        · rw [hdv (by rw [k]; decide)]; omega
      · refine hex ?_
        rcases Nat.eq_zero_or_pos j with z | z
        · subst z; exact ⟨N, by rw [Nat.pow_zero, Nat.one_mul]⟩
        · have h1 : j = 1 := by
            rcases Nat.lt_or_ge j 2 with k | k
            · omega
            · have : 2 ^ (2 + 23) ≤ 2 ^ (j + 23) := Nat.pow_le_pow_right (by decide) (by omega)
              have : 2 ^ (2 + 23) = 33554432 := by decide
              omega
          subst h1
          have : 2 ^ (1 + 23) = 16777216 := by decide
          have : N = 16777216 := by omega
          rw [this]; exact ⟨8388608, by decide⟩
def nOf (x : Nat) : Int := (x : Int) - 1065353216
/-- What Log tells, as sign and rung. -/
theorem logP_parts {x : Nat} (hx : x < 2139095040) : sgn32 (logP x) = decide (nOf x < 0) ∧ rung32 (logP x) = rungOf Ieee.single (nOf x).natAbs (-23) := by
  rw [logP_eq (by omega), nearest_rung]
  obtain ⟨_, _, _, _, _, _, hr⟩ := round24 (N := (nOf x).natAbs) (by unfold nOf; omega)
  exact sgn_word32 _ (by unfold nOf at hr; omega)
/-- There and back. -/
theorem exp_log {x : Nat} (hx : x < 2139095040) (h0 : 0 < x) : ∃ m : Nat, (expW (logP x) : Int) = 1065353216 + (if nOf x < 0 then -(m : Int) else (m : Int)) ∧ m ≤ (nOf x).natAbs + 32 ∧ (nOf x).natAbs ≤ m + 32 ∧ ((nOf x).natAbs ≤ 16777216 → m = (nOf x).natAbs) ∧ (8388608 ∣ (nOf x).natAbs → m = (nOf x).natAbs) ∧ expW (logP x) ≤ 2139095040 := by
  obtain ⟨m, m1, m2, m3, m4, m5, m6⟩ := round24 (N := (nOf x).natAbs) (by unfold nOf; omega)
  obtain ⟨p1, p2⟩ := logP_parts hx
  obtain ⟨l1, l2, l3⟩ := log_between hx
  have he : exN (logP x) = m := by rw [exN_val, p2, m1, rne_exact]
  have hi : expI (logP x) = if nOf x < 0 then -(m : Int) else (m : Int) := by
    unfold expI
    rw [he, p1, sgn0]
    by_cases h : nOf x < 0
    · rw [decide_eq_true h, if_pos rfl, if_pos h]
    · rw [decide_eq_false h, if_neg (by decide), if_neg h]
  refine ⟨m, ?_, m2, m3, m4, m5, expW_top l3⟩
  rcases Int.lt_or_le (srung32 (logP x)) 1124073472 with g | g
  · rw [expW_mid l3 g l1, hi]; omega
  · rw [expW_hi l3 g]
    have hs : srung32 (logP x) = 1124073472 := by omega
    unfold srung32 at hs
    rw [p1] at hs
    by_cases h : nOf x < 0
    · rw [decide_eq_true h, if_pos rfl] at hs; omega
    · rw [decide_eq_false h, if_neg (by decide)] at hs
      have hrr : rung32 (logP x) = 1124073472 := by omega
      have hv : val32 1124073472 = 1073741824 * 2 ^ 126 := by decide +kernel
      rw [← p2, hrr, hv] at m1
      have : m = 1073741824 := (Nat.eq_of_mul_eq_mul_right (Nat.two_pow_pos 126) m1).symm
      rw [if_neg h, this]; omega
/-- Exp of y, y strictly between -127 and 128. -/
theorem exp_range {y : Nat} (h1 : srung32 y < 1124073472) (h2 : -1123942400 < srung32 y) : ∃ X, expW y = X ∧ 0 < X ∧ X < 2139095040 ∧ nOf X = expI y := by
  obtain ⟨hf, _, b1, b2⟩ := exp_int h1 (by omega)
  have hn := fin_num hf
  have e := expW_mid hn h1 (by omega)
  have hb : -1065353216 < expI y := by
    have hs : srung32 y = if sgn32 y = true then -(rung32 y : Int) else rung32 y := rfl
    unfold expI; rw [sgn0]
    cases g : sgn32 y
    · simp; omega
    · rw [g] at hs
      simp at hs ⊢
      have hr : rung32 y < 1123942400 := by omega
      have hm := mag_lt32 (rung32 y)
      have hp : plc32 (rung32 y) ≤ 132 := by unfold plc32; omega
      rcases Nat.le_total (plc32 (rung32 y)) 126 with k | k
      · have e := rne_upper (n := mag32 (rung32 y)) (d := 126 - plc32 (rung32 y)) (k := 16777216) (by
          have := Nat.two_pow_pos (126 - plc32 (rung32 y))
          have := Nat.mul_le_mul_left 16777216 this
          omega)
        rw [exN_lo k]; omega
      · rw [exN_hi k]
        rcases Nat.lt_or_ge (plc32 (rung32 y)) 132 with k' | k'
        · have : mag32 (rung32 y) * 2 ^ (plc32 (rung32 y) - 126) ≤ 16777215 * 2 ^ 5 := Nat.mul_le_mul (by omega) (Nat.pow_le_pow_right (by decide) (by omega))
          omega
        · have k' : plc32 (rung32 y) = 132 := by omega
          rw [k']
          have hr : mag32 (rung32 y) = rung32 y - 132 * 8388608 := by unfold mag32; rw [k']
          omega
  refine ⟨expW y, rfl, by omega, by omega, by unfold nOf; omega⟩
theorem logP_lt (x : Nat) : logP x < 4294967296 := narW_lt (shfW (floatOfInt .f64 ((x : Int) - 1065353216)) (-23))
theorem pow126 : ∃ P : Nat, 2 ^ 125 = P ∧ (2 : Nat) ^ 126 = 2 * P ∧ (2 : Int) ^ 126 = 2 * (P : Int) := by
  refine ⟨2 ^ 125, rfl, by rw [Nat.pow_succ, Nat.mul_comm], ?_⟩
  rw [Int.pow_succ, Int.mul_comm, Int.natCast_pow]; rfl
theorem expI_abs (y : Nat) : (expI y).natAbs = exN y := by unfold expI; rw [sgn0]; split <;> omega
set_option maxHeartbeats 1000000 in
/-- Log of Exp: the number, and how far it is off. -/
theorem log_exp {y : Nat} (hy : y < 4294967296) (h1 : srung32 y < 1124073472) (h2 : -1123942400 < srung32 y) : ∃ b, logV (expW y) = b ∧ b < 4294967296 ∧ rung32 b < 2139095040 ∧ sval32 b = expI y * 2 ^ 126 ∧ (sval32 y - sval32 b).natAbs ≤ 2 ^ 125 ∧ (1065353216 ≤ rung32 y → b = y) := by
  obtain ⟨X, e, x0, x1, xn⟩ := exp_range h1 h2
  obtain ⟨hf, _, b1, b2⟩ := exp_int h1 (by omega)
  have hl : logV X = logP X := (logV_pos (by omega) (by rw [nanN_rung]; exact decide_eq_false (by unfold rung32; omega)) (by rw [srung_small (by omega)]; omega) (by omega)).1
  obtain ⟨p1, p2⟩ := logP_parts x1
  obtain ⟨m, m1, m2, m3, m4, m5, m6⟩ := round24 (N := (nOf X).natAbs) (by rw [xn]; omega)
  have hlt : logP X < 4294967296 := logP_lt X
  have hexa : (nOf X).natAbs = exN y := by rw [xn]; exact expI_abs y
  have M1 : Hid (val32 (rungOf Ieee.single (nOf X).natAbs (-23)) = m * 2 ^ 126) := m1
  clear m1
  have hm : m = exN y := by
    rcases Nat.lt_or_ge (plc32 (rung32 y)) 127 with g | g
    · rw [← hexa]
      refine m4 ?_
      rw [hexa]
      rcases Nat.lt_or_ge (plc32 (rung32 y)) 126 with k | k
      · rw [exN_lo (by omega)]
        refine rne_upper ?_
        have := Nat.two_pow_pos (126 - plc32 (rung32 y))
        have := Nat.mul_le_mul_left 16777216 this
        have := mag_lt32 (rung32 y)
        omega
      · rw [exN_hi k, show plc32 (rung32 y) - 126 = 0 by omega, Nat.pow_zero]
        have := mag_lt32 (rung32 y)
        omega
    · have ev : val32 (rungOf Ieee.single (exN y) (-23)) = val32 (rung32 y) := by
        rw [exN_hi (by omega), rung_scale, show (-23 : Int) + ((plc32 (rung32 y) - 126 : Nat) : Int) = -149 + (plc32 (rung32 y) : Int) by omega, self32 hf]
      rw [← hexa, M1.out] at ev
      have e2 : val32 (rung32 y) = exN y * 2 ^ 126 := by
        rw [exN_hi (by omega)]
        unfold val32
        rw [Nat.mul_assoc, ← Nat.pow_add, show plc32 (rung32 y) - 126 + 126 = plc32 (rung32 y) by omega]
      rw [e2] at ev
      exact Nat.eq_of_mul_eq_mul_right (Nat.two_pow_pos 126) ev
  have hsv : sval32 (logP X) = expI y * 2 ^ 126 := by
    unfold sval32
    rw [p1, p2, M1.out, hm]
    have hsg : nOf X < 0 ∨ 0 ≤ nOf X := by omega
    have hI : expI y = nOf X := xn.symm
    rcases hsg with h | h
    · rw [decide_eq_true h, if_pos rfl, hI, ← hexa, Int.natCast_mul, Int.natCast_pow]
      have : ((nOf X).natAbs : Int) = -nOf X := by omega
      rw [this, Int.neg_mul, Int.neg_neg]; rfl
    · rw [decide_eq_false (by omega), if_neg (by decide), hI, ← hexa, Int.natCast_mul, Int.natCast_pow]
      have : ((nOf X).natAbs : Int) = nOf X := by omega
      rw [this]; rfl
  have hoff : (sval32 y - expI y * 2 ^ 126).natAbs ≤ 2 ^ 125 := by
    obtain ⟨r1, r2⟩ := rne_near (val32 (rung32 y)) 126
    rw [← exN_val] at r1 r2
    unfold sval32 expI
    rw [sgn0]
    obtain ⟨P, hP, hP2, hP3⟩ := pow126
    rw [hP2] at r1 r2
    rw [hP3, hP]
    clear hP hP2 hP3
    generalize val32 (rung32 y) = V at *
    generalize exN y = E at *
    have hm : ((E : Int)) * (2 * (P : Int)) = ((E * (2 * P) : Nat) : Int) := by rw [Int.natCast_mul, Int.natCast_mul]; rfl
    generalize E * (2 * P) = F at *
    cases sgn32 y
    · simp only [Bool.false_eq_true, if_false]
      rw [hm]; omega
    · simp only [if_true]
      rw [Int.neg_mul, hm]; omega
  refine ⟨logP X, by rw [e]; exact hl, hlt, by rw [p2]; exact m6, hsv, by rw [hsv]; exact hoff, fun hb => ?_⟩
  clear hsv hoff M1
  have hp : 126 ≤ plc32 (rung32 y) := by unfold plc32; omega
  have hmg : 8388608 ≤ mag32 (rung32 y) := mag_ge32 (by omega)
  have hE : 0 < exN y := by
    rw [exN_hi hp]
    exact Nat.mul_pos (by omega) (Nat.two_pow_pos _)
  have hsg : decide (nOf X < 0) = sgn32 y := by
    rw [xn]; unfold expI; rw [sgn0]
    cases sgn32 y
    · simp
    · simp; omega
  rw [word_of32 hlt, p1, p2, hexa, exN_hi hp, rung_scale, show (-23 : Int) + ((plc32 (rung32 y) - 126 : Nat) : Int) = -149 + (plc32 (rung32 y) : Int) by omega, self32 hf, hsg, ← word_of32 hy]
/-- Powers of two. -/
theorem log_power {k : Int} (h0 : -126 ≤ k) (h1 : k ≤ 127) : ∃ x : Nat, (x : Int) = (k + 127) * 8388608 ∧ 0 < x ∧ x < 2139095040 ∧ logV x = Ieee.single.write (.number (decide (k < 0)) k.natAbs 0) ∧ expW (logV x) = x := by
  obtain ⟨x, hx⟩ : ∃ x : Nat, (x : Int) = (k + 127) * 8388608 := ⟨((k + 127) * 8388608).toNat, by omega⟩
  have x0 : 0 < x := by omega
  have x1 : x < 2139095040 := by omega
  have hn : nOf x = k * 8388608 := by unfold nOf; omega
  have hl : logV x = logP x := (logV_pos (by omega) (by rw [nanN_rung]; exact decide_eq_false (by unfold rung32; omega)) (by rw [srung_small (by omega)]; omega) (by omega)).1
  refine ⟨x, hx, x0, x1, ?_, ?_⟩
  · rw [hl, logP_eq (by omega)]
    show Ieee.single.nearest (decide (nOf x < 0)) (nOf x).natAbs (-23) = Ieee.single.nearest (decide (k < 0)) k.natAbs 0
    have e1 : decide (nOf x < 0) = decide (k < 0) := by rw [decide_eq_decide, hn]; omega
    have e2 : (nOf x).natAbs = k.natAbs * 2 ^ 23 := by rw [hn]; omega
    rw [e1, e2, nearest_rung, nearest_rung, rung_scale]
    rfl
  · obtain ⟨m, e, _, _, _, m5, _⟩ := exp_log x1 x0
    rw [hl]
    have hm := m5 (by rw [hn]; exact ⟨k.natAbs, by omega⟩)
    unfold nOf at *
    split at e <;> omega
end Go.Proofs.Ytedafbbpcpebbab
