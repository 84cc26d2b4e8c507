/- Plain facts: rounding to binary64 and then to binary32 does not show where no half-way number lies near. -/
import Derived.Test.YtjjjgdpgfndbdaaDoorGe88a4714
import Derived.Test.YtjjjgdpgfndbdaaDoorGc1b7d8f6
namespace Go.Proofs.YtjjjgdpgfndbdaaDoor
open Go.RowKit

theorem up_not {M D : Nat} (h : 2 * (M % 2 ^ D) < 2 ^ D) : rne M D = M / 2 ^ D := by
  unfold rne
  have : ¬ goesUp M D := by unfold goesUp; omega
  rw [if_neg this, Nat.add_zero]
theorem up_yes {M D : Nat} (h : 2 ^ D < 2 * (M % 2 ^ D)) : rne M D = M / 2 ^ D + 1 := by
  unfold rne
  rw [if_pos (show goesUp M D from Or.inl h)]
/-- Rounded twice. -/
theorem twice_gen {M K D : Nat} (hKD : K + 1 ≤ D) (hmid : rne M K * 2 ^ K % 2 ^ D = 2 ^ (D - 1) → rne M K * 2 ^ K = M) : rne (rne M K * 2 ^ K) D = rne M D := by
  obtain ⟨n1, n2⟩ := rne_near M K
  obtain ⟨c, hc⟩ : ∃ c, c = rne M K := ⟨_, rfl⟩
  rw [← hc] at n1 n2 hmid ⊢
  by_cases hCM : c * 2 ^ K = M
  · rw [hCM]
  have hno : c * 2 ^ K % 2 ^ D ≠ 2 ^ (D - 1) := fun h => hCM (hmid h)
  obtain ⟨i, hi⟩ : ∃ i, D = K + 1 + i := ⟨D - K - 1, by omega⟩
  have eU : 2 ^ D = 2 * 2 ^ i * 2 ^ K := by
    rw [hi, show K + 1 + i = 1 + i + K by omega, Nat.pow_add, Nat.pow_add, Nat.pow_one]
  have eH : 2 ^ (D - 1) = 2 ^ i * 2 ^ K := by rw [hi, show K + 1 + i - 1 = i + K by omega, Nat.pow_add]
  have hE := Nat.two_pow_pos K
  have hh := Nat.two_pow_pos i
  have et : c * 2 ^ K % 2 ^ D = c % (2 * 2 ^ i) * 2 ^ K := by rw [eU, Nat.mul_mod_mul_right]
  have hτ : c % (2 * 2 ^ i) < 2 * 2 ^ i := Nat.mod_lt _ (by omega)
  rw [et, eH] at hno
  have hτn : c % (2 * 2 ^ i) ≠ 2 ^ i := fun h => hno (by rw [h])
  have dC := Nat.div_add_mod (c * 2 ^ K) (2 ^ D)
  have dM := Nat.div_add_mod M (2 ^ D)
  have bM := Nat.mod_lt M (show 0 < 2 ^ D by rw [eU]; exact Nat.mul_pos (by omega) hE)
  -- how the rest lies
  have ht : 2 * (c * 2 ^ K % 2 ^ D) + 2 * 2 ^ K ≤ 2 ^ D ∨ (2 ^ D + 2 * 2 ^ K ≤ 2 * (c * 2 ^ K % 2 ^ D) ∧ c * 2 ^ K % 2 ^ D + 2 ^ K ≤ 2 ^ D) := by
    rw [et, eU]
    rcases Nat.lt_or_ge (c % (2 * 2 ^ i)) (2 ^ i) with g | g
    · left
      have := Nat.mul_le_mul_right (2 ^ K) (show c % (2 * 2 ^ i) + 1 ≤ 2 ^ i from g)
      rw [Nat.add_mul, Nat.one_mul] at this
      rw [Nat.mul_assoc 2]
      omega
    · right
      have h1 := Nat.mul_le_mul_right (2 ^ K) (show 2 ^ i + 1 ≤ c % (2 * 2 ^ i) by omega)
      have h2 := Nat.mul_le_mul_right (2 ^ K) (show c % (2 * 2 ^ i) + 1 ≤ 2 * 2 ^ i from hτ)
      rw [Nat.add_mul, Nat.one_mul] at h1 h2
      rw [Nat.mul_assoc 2] at h2 ⊢
      omega
  obtain ⟨U, hU⟩ : ∃ U, U = 2 ^ D := ⟨_, rfl⟩
  obtain ⟨E, hEe⟩ : ∃ E, E = 2 ^ K := ⟨_, rfl⟩
  obtain ⟨C, hC⟩ : ∃ C, C = c * 2 ^ K := ⟨_, rfl⟩
  have r1 := up_not (M := C) (D := D)
  have r2 := up_yes (M := C) (D := D)
  have r3 := up_not (M := M) (D := D)
  have r4 := up_yes (M := M) (D := D)
  rw [← hC] at n1 n2 dC ht ⊢
  rw [← hEe] at n1 n2 ht hE
  rw [← hU] at dC dM bM ht r1 r2 r3 r4
  obtain ⟨q, hq⟩ : ∃ q, q = C / U := ⟨_, rfl⟩
  obtain ⟨t, htt⟩ : ∃ t, t = C % U := ⟨_, rfl⟩
  obtain ⟨a, haa⟩ : ∃ a, a = M / U := ⟨_, rfl⟩
  obtain ⟨b, hbb⟩ : ∃ b, b = M % U := ⟨_, rfl⟩
  rw [← hq, ← htt] at dC
  rw [← haa, ← hbb] at dM
  rw [← htt] at ht
  rw [← hq, ← htt] at r1 r2
  rw [← haa, ← hbb] at r3 r4
  rw [← hbb] at bM
  rcases Nat.lt_trichotomy a q with g | g | g
  · -- one below
    obtain ⟨z, hz⟩ : ∃ z, q = a + 1 + z := ⟨q - a - 1, by omega⟩
    have e1 : U * q = U * a + U + U * z := by rw [hz, Nat.mul_add, Nat.mul_add, Nat.mul_one]
    have hz0 : z = 0 := by
      rcases Nat.eq_zero_or_pos z with k | k
      · exact k
      · have : U * 1 ≤ U * z := Nat.mul_le_mul_left _ k
        omega
    rw [hz0, Nat.mul_zero] at e1
    rcases ht with ht | ⟨ht, ht2⟩
    · rw [r1 (by omega), r4 (by omega)]; omega
    · omega
  · rw [g] at dM
    rcases ht with ht | ⟨ht, ht2⟩
    · rw [r1 (by omega), r3 (by omega), g]
    · rw [r2 (by omega), r4 (by omega), g]
  · obtain ⟨z, hz⟩ : ∃ z, a = q + 1 + z := ⟨a - q - 1, by omega⟩
    have e1 : U * a = U * q + U + U * z := by rw [hz, Nat.mul_add, Nat.mul_add, Nat.mul_one]
    rcases ht with ht | ⟨ht, ht2⟩ <;> omega

/-- To binary64, then to binary32. -/
theorem narrow_twice {Z : Nat} (hZ : Z.log2 ≤ 2000) (hmid : 0 < lostK Z → rne Z (lostK Z) * 2 ^ lostK Z % 2 ^ max (Z.log2 - 23) 925 = 2 ^ (max (Z.log2 - 23) 925 - 1) → rne Z (lostK Z) * 2 ^ lostK Z = Z) :
    rungOf Ieee.single (val64 (rungOf Ieee.double Z (-1074))) (-1074) = rungOf Ieee.single Z (-1074) := by
  rcases Nat.eq_zero_or_pos (lostK Z) with g | g
  · rw [vN_div hZ (by rw [g]; exact Nat.one_dvd _)]
  · rw [vN_eq hZ]
    have hL : Z.log2 = 52 + lostK Z := by unfold lostK at *; omega
    have h0 : Z ≠ 0 := by intro h0; rw [h0] at g; exact absurd g (by decide)
    obtain ⟨D, hD⟩ : ∃ D, D = max (Z.log2 - 23) 925 := ⟨_, rfl⟩
    have htw := twice_gen (M := Z) (K := lostK Z) (D := D) (by omega) (by rw [hD]; exact hmid g)
    obtain ⟨b1, b2⟩ := kept_bd (M := Z)
    have b2 := b2 g
    obtain ⟨c, hc⟩ : ∃ c, c = rne Z (lostK Z) := ⟨_, rfl⟩
    rw [← hc] at htw b1 b2 ⊢
    have hr : rungOf Ieee.single Z (-1074) = min ((D - 925) * 8388608 + rne Z D) 2139095040 := by
      unfold rungOf
      have hl : lastOf Ieee.single Z (-1074) = -1074 + (D : Int) := by unfold lastOf; rw [least32, show (Ieee.single.fractionBits : Int) = 23 from rfl]; omega
      rw [if_neg h0, hl, least32, binade32, inf32, show (-1074 : Int) - (-1074 + (D : Int)) = -(D : Int) by omega, rz_neg, show (-1074 + (D : Int) - -149).toNat = D - 925 by omega]
    rw [hr, ← htw]
    have hC0 : c * 2 ^ lostK Z ≠ 0 := Nat.mul_ne_zero (by omega) (by have := Nat.two_pow_pos (lostK Z); omega)
    rcases Nat.lt_or_ge c 9007199254740992 with k | k
    · have hlc : (c * 2 ^ lostK Z).log2 = Z.log2 := by
        rw [log2_mul_pow (by omega), hL, (Nat.log2_eq_iff (by omega)).2 ⟨show 2 ^ 52 ≤ c by omega, show c < 2 ^ 53 by omega⟩]
      unfold rungOf
      have hl : lastOf Ieee.single (c * 2 ^ lostK Z) (-1074) = -1074 + (D : Int) := by unfold lastOf; rw [least32, show (Ieee.single.fractionBits : Int) = 23 from rfl, hlc]; omega
      rw [if_neg hC0, hl, least32, binade32, inf32, show (-1074 : Int) - (-1074 + (D : Int)) = -(D : Int) by omega, rz_neg, show (-1074 + (D : Int) - -149).toNat = D - 925 by omega]
    · have hc1 : c = 2 ^ 53 := by omega
      have eC : c * 2 ^ lostK Z = 2 ^ (53 + lostK Z) := by rw [hc1, Nat.pow_add]
      have hlc : (c * 2 ^ lostK Z).log2 = Z.log2 + 1 := by rw [eC, Nat.log2_two_pow]; omega
      unfold rungOf
      rw [if_neg hC0]
      rcases Nat.lt_or_ge (Z.log2 - 23) 925 with j | j
      · have hl : lastOf Ieee.single (c * 2 ^ lostK Z) (-1074) = -1074 + (D : Int) := by unfold lastOf; rw [least32, show (Ieee.single.fractionBits : Int) = 23 from rfl, hlc]; omega
        rw [hl, least32, binade32, inf32, show (-1074 : Int) - (-1074 + (D : Int)) = -(D : Int) by omega, rz_neg, show (-1074 + (D : Int) - -149).toNat = D - 925 by omega]
      · have hl : lastOf Ieee.single (c * 2 ^ lostK Z) (-1074) = -1074 + ((D + 1 : Nat) : Int) := by unfold lastOf; rw [least32, show (Ieee.single.fractionBits : Int) = 23 from rfl, hlc]; omega
        rw [hl, least32, binade32, inf32, show (-1074 : Int) - (-1074 + ((D + 1 : Nat) : Int)) = -((D + 1 : Nat) : Int) by omega, rz_neg, show (-1074 + ((D + 1 : Nat) : Int) - -149).toNat = D + 1 - 925 by omega]
        have k1 : rne (c * 2 ^ lostK Z) (D + 1) = 8388608 := by
          rw [eC, show 53 + lostK Z = 23 + (D + 1) by omega, Nat.pow_add, rne_exact]
        have k2 : rne (c * 2 ^ lostK Z) D = 16777216 := by
          rw [eC, show 53 + lostK Z = 24 + D by omega, Nat.pow_add, rne_exact]
        rw [k1, k2, show (D + 1 - 925) * 8388608 + 8388608 = (D - 925) * 8388608 + 16777216 by omega]
/-- A word of binary64 made of a number, made narrow. -/
theorem told_twice {s : Bool} {Z : Nat} (hZ : Z.log2 ≤ 2000) (hmid : 0 < lostK Z → rne Z (lostK Z) * 2 ^ lostK Z % 2 ^ max (Z.log2 - 23) 925 = 2 ^ (max (Z.log2 - 23) 925 - 1) → rne Z (lostK Z) * 2 ^ lostK Z = Z) :
    toldD (some (Ieee.double.read (Ieee.double.word s (rungOf Ieee.double Z (-1074))))) = Ieee.single.word s (rungOf Ieee.single Z (-1074)) := by
  have hr : rungOf Ieee.double Z (-1074) < 9218868437227405312 := by
    rw [rung64_eq hZ]
    have := (kept_bd (M := Z)).1
    have : lostK Z ≤ 1948 := by unfold lostK; omega
    omega
  obtain ⟨a1, a2⟩ := sgn_word64 s (r := rungOf Ieee.double Z (-1074)) (by omega)
  rw [read_fin64 (by rw [a2]; exact hr), a1, a2, toldD_num, rung_word64, narrow_twice hZ hmid]
end Go.Proofs.YtjjjgdpgfndbdaaDoor
/- What the reference's Of returns at binary64, and F64. -/
namespace Go.Proofs.YtjjjgdpgfndbdaaDoor
open Go.RowKit

set_option maxHeartbeats 800000 in
theorem f64_any (w : World) : Calls Tryd.prog 49 #[] w fun e w' => e = .returned (.agg #[.int .i64 52, .int .i64 11]) ∧ Q w w' := by
  go_enter Tryd.func49, Tryd.ntmps49
  go_wp2
  exact bodyPost_ret (v := .agg #[.int .i64 52, .int .i64 11]) (by simp [results, Tryd.results49, go_sem]) rfl ⟨rfl, (Q.refl w).cells _ _⟩

theorem numOf_nan64 {b : Nat} (h1 : b / 4503599627370496 % 2048 = 2047) (h2 : b % 4503599627370496 ≠ 0) : numOf Ieee.double b = .nan := by
  unfold numOf Ieee.Format.read
  simp only [double_sign, double_binade, double_inf, double_least]
  rw [if_neg (by omega), if_neg (by omega), if_neg (by omega)]
theorem numOf_inf64 {b : Nat} (h1 : b / 4503599627370496 % 2048 = 2047) (h2 : b % 4503599627370496 = 0) : numOf Ieee.double b = .inf (b / 9223372036854775808 % 2 == 1) := by
  unfold numOf Ieee.Format.read
  simp only [double_sign, double_binade, double_inf, double_least]
  rw [if_neg (by omega), if_neg (by omega), if_pos (by omega)]
theorem numOf_small64 {b : Nat} (h1 : b / 4503599627370496 % 2048 = 0) : numOf Ieee.double b = .fin (b / 9223372036854775808 % 2 == 1) (b % 4503599627370496) (-1074) false := by
  unfold numOf Ieee.Format.read
  simp only [double_sign, double_binade, double_inf, double_least]
  rw [if_pos (by omega)]
  have : b % 9223372036854775808 = b % 4503599627370496 := by omega
  rw [this]
theorem numOf_norm64 {b : Nat} (h1 : b / 4503599627370496 % 2048 ≠ 0) (h2 : b / 4503599627370496 % 2048 ≠ 2047) :
    numOf Ieee.double b = .fin (b / 9223372036854775808 % 2 == 1) (b % 4503599627370496 + 4503599627370496) (((b / 4503599627370496 % 2048 : Nat) : Int) - 1075) false := by
  unfold numOf Ieee.Format.read
  simp only [double_sign, double_binade, double_inf, double_least]
  rw [if_neg (by omega), if_pos (by omega)]
  have e1 : 4503599627370496 + b % 9223372036854775808 % 4503599627370496 = b % 4503599627370496 + 4503599627370496 := by omega
  have e2 : (-1074 : Int) + ((b % 9223372036854775808 / 4503599627370496 - 1 : Nat) : Int) = ((b / 4503599627370496 % 2048 : Nat) : Int) - 1075 := by omega
  rw [e1, e2]

/-- The bits of a binary64 word among 64. -/
theorem of_bits64 {b : Nat} (hb : b < 18446744073709551616) :
    bits .and .u64 ((b : Int) / 9223372036854775808) 1 = ((b / 9223372036854775808 % 2 : Nat) : Int) ∧
    bits .and .u64 ((b : Int) / 4503599627370496) 2047 = ((b / 4503599627370496 % 2048 : Nat) : Int) ∧
    bits .and .u64 (b : Int) 4503599627370495 = ((b % 4503599627370496 : Nat) : Int) ∧
    bits .or .u64 ((b % 4503599627370496 : Nat) : Int) 4503599627370496 = ((b % 4503599627370496 + 4503599627370496 : Nat) : Int) := by
  refine ⟨?_, ?_, ?_, ?_⟩
  · have := u64_and1 (x := b / 9223372036854775808) (by omega)
    exact this
  · have : bits .and .u64 ((b : Int) / 4503599627370496) 2047 = (b : Int) / 4503599627370496 % 2048 := by go_bits2
    rw [this]; omega
  · have : bits .and .u64 (b : Int) 4503599627370495 = (b : Int) % 4503599627370496 := by go_bits2
    rw [this]; omega
  · rw [show (4503599627370496 : Int) = ((4503599627370496 : Nat) : Int) from rfl, u64_or_nat _ _ (by omega) (by decide), Nat.or_comm,
      show (4503599627370496 : Nat) = 2 ^ 52 * 1 from rfl, ← Nat.two_pow_add_eq_or_of_lt (i := 52) (by omega) 1]
    omega

set_option maxHeartbeats 4000000 in
theorem of64_any (b : Nat) (w : World) (hb : b < 18446744073709551616) :
    Calls Tryd.prog 53 #[.agg #[.int .i64 52, .int .i64 11], .int .u64 b] w fun e w' => ∃ v, e = .returned v ∧ NumAt w' v (numOf Ieee.double b) ∧ Q w w' := by
  obtain ⟨e1, e2, e3, e4⟩ := of_bits64 hb
  obtain ⟨sg, hsg⟩ : ∃ sg : Nat, sg = b / 9223372036854775808 % 2 := ⟨_, rfl⟩
  obtain ⟨ex, hex⟩ : ∃ ex : Nat, ex = b / 4503599627370496 % 2048 := ⟨_, rfl⟩
  obtain ⟨fr, hfr⟩ : ∃ fr : Nat, fr = b % 4503599627370496 := ⟨_, rfl⟩
  rw [← hsg] at e1
  rw [← hex] at e2
  rw [← hfr] at e3 e4
  have xb : ex ≤ 2047 := by omega
  have fb : fr < 4503599627370496 := by omega
  have esg : ((sg : Int) == 1) = (b / 9223372036854775808 % 2 == 1) := by
    rw [← hsg]
    rcases (by omega : sg = 0 ∨ sg = 1) with e | e <;> rw [e] <;> rfl
  have HSG : Hid _ := esg
  have hcase : (ex = 2047 ∧ fr ≠ 0 ∧ Hid (numOf Ieee.double b = .nan)) ∨ (ex = 2047 ∧ fr = 0 ∧ Hid (numOf Ieee.double b = .inf (b / 9223372036854775808 % 2 == 1))) ∨
      (ex = 0 ∧ Hid (numOf Ieee.double b = .fin (b / 9223372036854775808 % 2 == 1) fr (-1074) false)) ∨ (ex ≠ 0 ∧ ex ≠ 2047 ∧ Hid (numOf Ieee.double b = .fin (b / 9223372036854775808 % 2 == 1) (fr + 4503599627370496) ((ex : Int) - 1075) false)) := by
    by_cases h1 : ex = 2047
    · by_cases h2 : fr = 0
      · exact Or.inr (Or.inl ⟨h1, h2, numOf_inf64 (by omega) (by omega)⟩)
      · exact Or.inl ⟨h1, h2, numOf_nan64 (by omega) (by omega)⟩
    · by_cases h3 : ex = 0
      · exact Or.inr (Or.inr (Or.inl ⟨h3, by rw [hfr]; exact numOf_small64 (by omega)⟩))
      · exact Or.inr (Or.inr (Or.inr ⟨h3, h1, by rw [hfr, hex]; exact numOf_norm64 (by omega) (by omega)⟩))
  clear hsg hex hfr esg
  have w1 : IntKind.u64.wrap 2047 = 2047 := by decide
  have w2 : IntKind.u64.wrap 4503599627370496 = 4503599627370496 := by decide
  have w3 : IntKind.u64.wrap 4503599627370495 = 4503599627370495 := by decide
  have w4 : IntKind.i64.wrap (-1074) = -1074 := by decide
  rcases hcase with ⟨rfl, h2, HR⟩ | ⟨rfl, rfl, HR⟩ | ⟨rfl, HR⟩ | ⟨h1, h2, HR⟩
  · have h2b : ((fr : Int) != 0) = true := by simp; omega
    go_enter Tryd.func53, Tryd.ntmps53
    go_wp2_with fail
    go_region_held3 (fun w' => w'.cell? ⟨w.heap.size, 0, none⟩ = some (.int .i64 52) ∧ w'.cell? ⟨w.heap.size, 1, none⟩ = some (.int .i64 11)) (first | (simp [go_sem]; done) | go_keep) (first | (go_at_call 79; refine (top_any 52 11 2047 (by decide) _).mono ?_; rintro e w1 ⟨rfl, rfl⟩))
    go_wp2_with fail
    refine (top_any 52 11 2047 (by decide) _).mono ?_
    rintro e v1 ⟨rfl, rfl⟩
    go_wp2_with fail
    refine bodyPost_ret (v := .agg #[.int .i64 0, .bool false, .slice none 0 0, .int .i64 0, .bool false]) (by simp [results, Tryd.results53, go_sem]) rfl ⟨_, rfl, ?_, ?_⟩
    · rw [HR.out]; exact ⟨_, _, _, rfl⟩
    · exact (((((Q.refl w).cells _ _).cells _ _).cells _ _).cells _ _).drew
  · go_enter Tryd.func53, Tryd.ntmps53
    go_wp2_with fail
    go_region_held3 (fun w' => w'.cell? ⟨w.heap.size, 0, none⟩ = some (.int .i64 52) ∧ w'.cell? ⟨w.heap.size, 1, none⟩ = some (.int .i64 11)) (first | (simp [go_sem]; done) | go_keep) (first | (go_at_call 79; refine (top_any 52 11 2047 (by decide) _).mono ?_; rintro e w1 ⟨rfl, rfl⟩))
    go_wp2_with fail
    refine (top_any 52 11 2047 (by decide) _).mono ?_
    rintro e v1 ⟨rfl, rfl⟩
    go_wp2_with fail
    refine bodyPost_ret (v := .agg #[.int .i64 1, .bool ((sg : Int) == 1), .slice none 0 0, .int .i64 0, .bool false]) (by simp [results, Tryd.results53, go_sem]) rfl ⟨_, rfl, ?_, ?_⟩
    · rw [HR.out, HSG.out]; exact ⟨_, _, rfl⟩
    · exact (((((Q.refl w).cells _ _).cells _ _).cells _ _).cells _ _).drew
  · go_enter Tryd.func53, Tryd.ntmps53
    go_wp2_with fail
    go_region_held3 (fun w' => w'.cell? ⟨w.heap.size, 0, none⟩ = some (.int .i64 52) ∧ w'.cell? ⟨w.heap.size, 1, none⟩ = some (.int .i64 11)) (first | (simp [go_sem]; done) | go_keep) (first | (go_at_call 79; refine (top_any 52 11 2047 (by decide) _).mono ?_; rintro e w1 ⟨rfl, rfl⟩))
    go_wp2_with fail
    refine (top_any 52 11 2047 (by decide) _).mono ?_
    rintro e v1 ⟨rfl, rfl⟩
    go_wp2_with fail
    go_region_held3 (fun w' => w'.cell? ⟨w.heap.size, 0, none⟩ = some (.int .i64 52) ∧ w'.cell? ⟨w.heap.size, 1, none⟩ = some (.int .i64 11)) (first | (simp [go_sem]; done) | go_keep) (first | (go_at_call 86; refine (natof_any fr _ (by omega)).mono ?_; rintro e w1 ⟨C, rfl, rfl⟩) | (go_at_call 80; refine (bias_any 52 11 1075 (by decide) _).mono ?_; rintro e w1 ⟨rfl, rfl⟩))
    all_goals
      go_wp2
      refine bodyPost_ret (v := .agg #[.int .i64 2, .bool ((sg : Int) == 1), .slice (some ⟨w.heap.size + 1 + 1 + 1 + 1, 0, none⟩) (len64 fr) C, .int .i64 (-1074), .bool false]) (by simp [results, Tryd.results53, go_sem]) rfl ⟨_, rfl, ?_, ?_⟩
      · rw [HR.out, HSG.out]
        exact ⟨_, rfl, natAt_two (by omega) (by simp [go_sem]) (by simp [go_sem])⟩
      · exact (((((((Q.refl w).cells _ _).cells _ _).cells _ _).cells _ _).cells _ _).cells _ _).drew.drew.drew
  · have h1b : ((ex : Int) == 2047) = false := by simp; omega
    have h2b : ((ex : Int) == 0) = false := by simp; omega
    obtain ⟨M, hM⟩ : ∃ M, M = fr + 4503599627370496 := ⟨_, rfl⟩
    rw [← hM] at e4
    have hMb : M < 18446744073709551616 := by omega
    have w5 : IntKind.i64.wrap ((ex : Int) - 1075) = (ex : Int) - 1075 := by rw [IntKind.wrap_i64]; omega
    have w6 : IntKind.i64.wrap (ex : Int) = (ex : Int) := by rw [IntKind.wrap_i64]; omega
    have HM : Hid _ := hM
    clear hM
    go_enter Tryd.func53, Tryd.ntmps53
    go_wp2_with fail
    go_region_held3 (fun w' => w'.cell? ⟨w.heap.size, 0, none⟩ = some (.int .i64 52) ∧ w'.cell? ⟨w.heap.size, 1, none⟩ = some (.int .i64 11)) (first | (simp [go_sem]; done) | go_keep) (first | (go_at_call 79; refine (top_any 52 11 2047 (by decide) _).mono ?_; rintro e w1 ⟨rfl, rfl⟩))
    go_wp2_with fail
    refine (top_any 52 11 2047 (by decide) _).mono ?_
    rintro e v1 ⟨rfl, rfl⟩
    go_wp2_with fail
    go_region_held3 (fun w' => w'.cell? ⟨w.heap.size, 0, none⟩ = some (.int .i64 52) ∧ w'.cell? ⟨w.heap.size, 1, none⟩ = some (.int .i64 11)) (first | (simp [go_sem]; done) | go_keep) (first | (go_at_call 86; refine (natof_any M _ hMb).mono ?_; rintro e w1 ⟨C, rfl, rfl⟩) | (go_at_call 80; refine (bias_any 52 11 1075 (by decide) _).mono ?_; rintro e w1 ⟨rfl, rfl⟩))
    all_goals
      go_wp2
      refine bodyPost_ret (v := .agg #[.int .i64 2, .bool ((sg : Int) == 1), .slice (some ⟨w.heap.size + 1 + 1 + 1 + 1, 0, none⟩) (len64 M) C, .int .i64 ((ex : Int) - 1075), .bool false]) (by simp [results, Tryd.results53, go_sem]) rfl ⟨_, rfl, ?_, ?_⟩
      · rw [HR.out, HSG.out, ← HM.out]
        exact ⟨_, rfl, natAt_two hMb (by simp [go_sem]) (by simp [go_sem])⟩
      · exact (((((((Q.refl w).cells _ _).cells _ _).cells _ _).cells _ _).cells _ _).cells _ _).drew.drew.drew
end Go.Proofs.YtjjjgdpgfndbdaaDoor
/- Plain facts: the reference's word of binary64, put together. -/
namespace Go.Proofs.YtjjjgdpgfndbdaaDoor
open Go.RowKit

/-- The word that the reference puts together. -/
theorem or_word_64 {neg : Bool} {r : Nat} (hr : r < 9223372036854775808) : bits .or .u64 (signV true neg) (r : Int) = ((Ieee.double.word neg r : Nat) : Int) := by
  unfold Ieee.Format.word signV
  rw [double_sign]
  cases neg
  · show bits .or .u64 ((0 : Nat) : Int) (r : Int) = _
    rw [u64_or_nat _ _ (by decide) (by omega), Nat.zero_or]; rfl
  · show bits .or .u64 ((9223372036854775808 : Nat) : Int) (r : Int) = _
    rw [u64_or_nat _ _ (by decide) (by omega), show (9223372036854775808 : Nat) = 2 ^ 63 * 1 from rfl, ← Nat.two_pow_add_eq_or_of_lt (i := 63) hr 1]
    rfl
theorem or_word2_64 {neg : Bool} {x fr : Nat} (hx : x < 2048) (hf : fr < 4503599627370496) :
    bits .or .u64 ((Ieee.double.word neg (x * 4503599627370496) : Nat) : Int) (fr : Int) = ((Ieee.double.word neg (x * 4503599627370496 + fr) : Nat) : Int) := by
  have e : Ieee.double.word neg (x * 4503599627370496) = 2 ^ 52 * ((if neg = true then 2048 else 0) + x) := by
    unfold Ieee.Format.word; rw [double_sign]; cases neg <;> simp <;> omega
  have e2 : Ieee.double.word neg (x * 4503599627370496 + fr) = 2 ^ 52 * ((if neg = true then 2048 else 0) + x) + fr := by
    unfold Ieee.Format.word; rw [double_sign]; cases neg <;> simp <;> omega
  have hb : (if neg = true then 2048 else 0) ≤ 2048 := by split <;> omega
  rw [e2, e, u64_or_nat _ _ (by omega) (by omega), ← Nat.two_pow_add_eq_or_of_lt (i := 52) hf]
theorem word_lt_64 {neg : Bool} {r : Nat} (hr : r < 9223372036854775808) : Ieee.double.word neg r < 18446744073709551616 := by
  unfold Ieee.Format.word; rw [double_sign]; split <;> omega

/-- Carried where it must be: what is kept, and its place. -/
theorem carried_64 {n K : Nat} {T : Int} {R : Nat} (h1 : K ≤ 2 * 4503599627370496) (h2 : -1074 ≤ T) (h3 : K < 4503599627370496 → T = -1074 ∨ n = 0) (h0 : n = 0 → K = 0)
    (h4 : R = if n = 0 then 0 else min ((T - -1074).toNat * 4503599627370496 + K) 9218868437227405312) :
    ∃ (K' : Nat) (T' : Int), K' < 9007199254740992 ∧ -1074 ≤ T' ∧ T' ≤ T + 1 ∧ ((K = 9007199254740992 ∧ K' = 4503599627370496 ∧ T' = T + 1) ∨ (K < 9007199254740992 ∧ K' = K ∧ T' = T)) ∧
      (K' < 4503599627370496 → R = K') ∧ (4503599627370496 ≤ K' → R = min ((T' + 1074).toNat * 4503599627370496 + K') 9218868437227405312) := by
  by_cases hK : K = 9007199254740992
  · refine ⟨4503599627370496, T + 1, by decide, by omega, by omega, Or.inl ⟨hK, rfl, rfl⟩, fun h => absurd h (by decide), fun _ => ?_⟩
    have : n ≠ 0 := fun e => by have := h0 e; omega
    rw [h4, if_neg this]
    have e1 : (T + 1 + 1074).toNat = (T - -1074).toNat + 1 := by omega
    have e2 : ∀ y : Nat, y * 4503599627370496 + 9007199254740992 = (y + 1) * 4503599627370496 + 4503599627370496 := fun y => by omega
    rw [e1, hK, e2]
  · refine ⟨K, T, by omega, h2, by omega, Or.inr ⟨by omega, rfl, rfl⟩, fun h => ?_, fun h => ?_⟩
    · rw [h4]
      by_cases hn : n = 0
      · rw [if_pos hn, h0 hn]
      · rw [if_neg hn]
        rcases h3 h with g | g
        · rw [g]; simp; omega
        · exact absurd g hn
    · have : n ≠ 0 := fun e => by have := h0 e; omega
      rw [h4, if_neg this]
      rw [show (T - -1074).toNat = (T + 1074).toNat by omega]
end Go.Proofs.YtjjjgdpgfndbdaaDoor
