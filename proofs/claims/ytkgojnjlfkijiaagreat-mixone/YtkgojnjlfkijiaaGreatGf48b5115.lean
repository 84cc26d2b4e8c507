/- Plain facts: a quotient with its rest told by one bit. -/
import Derived.Test.YtkgojnjlfkijiaaGreatG42d4e526
import Derived.Test.YtkgojnjlfkijiaaGreatG910a1356
import Derived.Test.YtkgojnjlfkijiaaGreatG7a60b832
import Derived.Test.YtkgojnjlfkijiaaGreatG81d9d39d
import Derived.Test.YtkgojnjlfkijiaaGreatG44b4cb07
namespace Go.Proofs.YtkgojnjlfkijiaaGreat
open Go.RowKit

/-- A quotient's digits, and one more that tells of a rest. -/
def sqV (m n A : Nat) : Nat := 2 * (m * 2 ^ A / n) + if m * 2 ^ A % n = 0 then 0 else 1
theorem sq_stick {m n B k : Nat} (hn : 0 < n) : stick (sqV m n (B + k)) (k + 1) = sqV m n B := by
  have hk := Nat.two_pow_pos k
  have e0 : m * 2 ^ (B + k) = m * 2 ^ B * 2 ^ k := by rw [Nat.pow_add, Nat.mul_assoc]
  -- the great quotient, cut, is the small one
  have e1 : m * 2 ^ (B + k) / n / 2 ^ k = m * 2 ^ B / n := by
    rw [Nat.div_div_eq_div_mul, e0, Nat.mul_div_mul_right _ _ hk]
  have d1 := Nat.div_add_mod (m * 2 ^ (B + k)) n
  have d2 := Nat.div_add_mod (m * 2 ^ B) n
  have d3 := Nat.div_add_mod (m * 2 ^ (B + k) / n) (2 ^ k)
  have r1 := Nat.mod_lt (m * 2 ^ (B + k)) hn
  have r2 := Nat.mod_lt (m * 2 ^ B) hn
  rw [e1] at d3
  obtain ⟨q, hq⟩ : ∃ q, q = m * 2 ^ B / n := ⟨_, rfl⟩
  obtain ⟨Q', hQ⟩ : ∃ Q', Q' = m * 2 ^ (B + k) / n := ⟨_, rfl⟩
  obtain ⟨r, hr⟩ : ∃ r, r = m * 2 ^ B % n := ⟨_, rfl⟩
  obtain ⟨R, hR⟩ : ∃ R, R = m * 2 ^ (B + k) % n := ⟨_, rfl⟩
  obtain ⟨t, ht⟩ : ∃ t, t = Q' % 2 ^ k := ⟨_, rfl⟩
  unfold stick sqV
  rw [← hQ, ← hR, ← hq, ← hr]
  rw [← hQ, ← hq, ← ht] at d3
  rw [← hQ, ← hR] at d1
  rw [← hq, ← hr] at d2
  have htk : t < 2 ^ k := by rw [ht]; exact Nat.mod_lt _ hk
  -- r * 2^k = n * t + R
  have key : r * 2 ^ k = n * t + R := by
    have a1 : n * Q' + R = (n * q + r) * 2 ^ k := by rw [d1, d2, e0]
    rw [← d3] at a1
    rw [Nat.mul_add, Nat.add_mul] at a1
    have a2 : n * (2 ^ k * q) = n * q * 2 ^ k := by rw [Nat.mul_comm (2 ^ k) q, Nat.mul_assoc]
    omega
  have hzero : r = 0 ↔ t = 0 ∧ R = 0 := by
    constructor
    · intro h
      rw [h, Nat.zero_mul] at key
      have k1 : n * t = 0 := by omega
      rcases Nat.mul_eq_zero.1 k1 with h' | h'
      · omega
      · exact ⟨h', by omega⟩
    · rintro ⟨h1, h2⟩
      rw [h1, h2, Nat.mul_zero] at key
      rcases Nat.mul_eq_zero.1 key with h' | h'
      · exact h'
      · omega
  have ep : 2 ^ (k + 1) = 2 * 2 ^ k := by rw [Nat.pow_succ]; omega
  obtain ⟨b, hb⟩ : ∃ b, b = if R = 0 then 0 else 1 := ⟨_, rfl⟩
  have hb2 : b < 2 := by rw [hb]; split <;> omega
  rw [← hb]
  have f1 : (2 * Q' + b) / 2 ^ (k + 1) = q := by
    rw [ep, ← Nat.div_div_eq_div_mul, show (2 * Q' + b) / 2 = Q' by omega, hQ, e1, hq]
  have f2 : (2 * Q' + b) % 2 ^ (k + 1) = 2 * t + b := by
    have g := Nat.div_add_mod (2 * Q' + b) (2 ^ (k + 1))
    rw [f1, ep] at g
    rw [ep]
    have g2 : 2 * 2 ^ k * q = 2 * (2 ^ k * q) := Nat.mul_assoc _ _ _
    omega
  rw [f1, f2]
  have hbR : b = 0 ↔ R = 0 := by rw [hb]; split <;> omega
  by_cases h : r = 0
  · obtain ⟨h1, h2⟩ := hzero.1 h
    rw [if_pos h, if_pos (by have := hbR.2 h2; omega)]
  · rw [if_neg h, if_neg]
    intro h'
    exact h (hzero.2 ⟨by omega, hbR.1 (by omega)⟩)
theorem sq_link (f : Ieee.Format) {m n A B : Nat} (x : Int) (hn : 0 < n) (hA : B ≤ A) (hq : 2 ^ (f.fractionBits + 1) ≤ m * 2 ^ B / n) :
    rungOf f (sqV m n A) (x - A - 1) = rungOf f (sqV m n B) (x - B - 1) := by
  obtain ⟨k, rfl⟩ : ∃ k, A = B + k := ⟨A - B, by omega⟩
  have e1 : m * 2 ^ (B + k) / n / 2 ^ k = m * 2 ^ B / n := by
    rw [Nat.div_div_eq_div_mul, Nat.pow_add, ← Nat.mul_assoc, Nat.mul_div_mul_right _ _ (Nat.two_pow_pos k)]
  have h1 : 2 ^ (f.fractionBits + 1 + k) ≤ m * 2 ^ (B + k) / n := by
    rw [Nat.pow_add]
    rw [← e1] at hq
    exact (Nat.le_div_iff_mul_le (Nat.two_pow_pos k)).1 hq
  have h2 : 2 ^ (f.fractionBits + 2 + k) ≤ sqV m n (B + k) := by
    unfold sqV
    rw [show f.fractionBits + 2 + k = f.fractionBits + 1 + k + 1 by omega, Nat.pow_succ]
    omega
  have hM : sqV m n (B + k) ≠ 0 := by have := Nat.two_pow_pos (f.fractionBits + 2 + k); omega
  have hlog : f.fractionBits + 2 + k ≤ (sqV m n (B + k)).log2 := (Nat.le_log2 hM).2 h2
  have := rung_stick f (M := sqV m n (B + k)) (k := k + 1) (x - (B + k : Nat) - 1) (by omega) hM (by unfold lastOf; omega)
  rw [sq_stick hn] at this
  rw [← this]
  congr 1; omega
theorem quo_digits {m n : Nat} (hm : m ≠ 0) (hn : n ≠ 0) {d : Nat} (h0 : 0 < d) : 2 ^ (d - 1) ≤ m * 2 ^ (d + n.log2 - m.log2) / n := by
  rw [Nat.le_div_iff_mul_le (by omega)]
  have h1 := Nat.log2_self_le hm
  have h2 : n < 2 ^ (n.log2 + 1) := Nat.lt_log2_self
  have a1 : 2 ^ (d - 1) * n < 2 ^ (d - 1) * 2 ^ (n.log2 + 1) := Nat.mul_lt_mul_of_pos_left h2 (Nat.two_pow_pos _)
  rw [← Nat.pow_add, show d - 1 + (n.log2 + 1) = d + n.log2 by omega] at a1
  have a2 : 2 ^ m.log2 * 2 ^ (d + n.log2 - m.log2) ≤ m * 2 ^ (d + n.log2 - m.log2) := Nat.mul_le_mul_right _ h1
  rw [← Nat.pow_add] at a2
  have a3 : 2 ^ (d + n.log2) ≤ 2 ^ (m.log2 + (d + n.log2 - m.log2)) := Nat.pow_le_pow_right (by decide) (by omega)
  omega
theorem sq_not (m n A : Nat) : 2 * (m * 2 ^ A / n) + (!decide (m * 2 ^ A % n = 0)).toNat = sqV m n A := by
  unfold sqV
  by_cases h : m * 2 ^ A % n = 0
  · rw [decide_eq_true h, if_pos h]; rfl
  · rw [decide_eq_false h, if_neg h]; rfl
theorem sq_model (m n A : Nat) : 2 * ((m <<< A) / n) + ((m <<< A) % n != 0).toNat = sqV m n A := by
  unfold sqV
  rw [Nat.shiftLeft_eq]
  by_cases h : m * 2 ^ A % n = 0
  · rw [if_pos h, h]; rfl
  · rw [if_neg h, bne_iff_ne.2 h]; rfl
end Go.Proofs.YtkgojnjlfkijiaaGreat
/- Plain facts: a quotient with its rest told by one bit, rounded: how many digits it has does not matter; the reference's quotients are the model's. -/
namespace Go.Proofs.YtkgojnjlfkijiaaGreat
open Go.RowKit

theorem zeroB_fin (s : Bool) (n : Nat) (e : Int) : zeroB (.fin s n e false) = decide (n = 0) := by
  unfold zeroB; cases n <;> rfl
theorem bne_xor (s t : Bool) : (s != t) = (s ^^ t) := by cases s <;> cases t <;> rfl
/-- Quotients. -/
theorem div_link (d d' : Ieee.Datum) : roundR (divR (datumR d) (datumR d')) = toldD (d.quotient 25 d') := by
  cases d with
  | nan s t => cases d' <;> rfl
  | infinity s =>
    cases d' with
    | nan t f => rfl
    | infinity t => rfl
    | number t n j =>
      show Ieee.single.word (s != t) 2139095040 = Ieee.single.word (s ^^ t) Ieee.single.infRung
      rw [single_inf, bne_xor]
  | number s m i =>
    cases d' with
    | nan t f => rfl
    | infinity t =>
      show roundR (.fin (s != t) 0 0 false) = Ieee.single.nearest (s ^^ t) 0 0
      rw [roundR_fin, bne_xor]
    | number t n j =>
      show roundR (divR (.fin s m i false) (.fin t n j false)) = _
      unfold divR
      dsimp only
      rw [zeroB_fin, zeroB_fin]
      simp only [decide_eq_true_eq]
      by_cases hn : n = 0
      · rw [if_pos (Or.inr hn), if_pos hn]
        by_cases hm : m = 0
        · rw [if_pos hm, show (Ieee.Datum.number s m i).quotient 25 (.number t n j) = none from by simp [Ieee.Datum.quotient, hn, hm]]; rfl
        · rw [if_neg hm, show (Ieee.Datum.number s m i).quotient 25 (.number t n j) = some (.infinity (s ^^ t)) from by simp [Ieee.Datum.quotient, hn, hm]]
          show Ieee.single.word (s != t) 2139095040 = Ieee.single.word (s ^^ t) Ieee.single.infRung
          rw [single_inf, bne_xor]
      · have em : (Ieee.Datum.number s m i).quotient 25 (.number t n j) = some (.number (s ^^ t) (sqV m n (25 + n.log2 - m.log2)) (i - j - ((25 + n.log2 - m.log2 : Nat) : Int) - 1)) := by
          rw [← sq_model]
          simp [Ieee.Datum.quotient, hn]
        rw [em]
        show _ = Ieee.single.nearest _ _ _
        rw [nearest_rung]
        by_cases hm : m = 0
        · rw [if_pos (Or.inl hm), if_neg hn, roundR_fin, nearest_rung, bne_xor]
          have z : sqV m n (25 + n.log2 - m.log2) = 0 := by unfold sqV; rw [hm, Nat.zero_mul, Nat.zero_div, Nat.zero_mod, if_pos rfl]
          rw [z]; unfold rungOf; rw [if_pos rfl, if_pos rfl]
        · rw [if_neg (by simp [hn, hm]), bne_xor]
          show Ieee.single.word _ (rungOf Ieee.single (2 * (m * 2 ^ shV m n / n) + (!decide (m * 2 ^ shV m n % n = 0)).toNat) (i - j - (shV m n : Int) - 1)) = _
          rw [sq_not]
          congr 1
          refine sq_link Ieee.single (i - j) (by omega) ?_ ?_
          · unfold shV blen
            rw [if_neg hn, if_neg hm]; omega
          · exact quo_digits hm hn (d := 25) (by omega)
end Go.Proofs.YtkgojnjlfkijiaaGreat
/- What the reference's Of returns at binary64, and F64. -/
namespace Go.Proofs.YtkgojnjlfkijiaaGreat
open Go.RowKit

set_option maxHeartbeats 800000 in
theorem f64_any (w : World) : Calls Tryz.prog 63 #[] w fun e w' => e = .returned (.agg #[.int .i64 52, .int .i64 11]) ∧ Q w w' := by
  go_enter Tryz.func63, Tryz.ntmps63
  go_wp2
  exact bodyPost_ret (v := .agg #[.int .i64 52, .int .i64 11]) (by simp [results, Tryz.results63, go_sem]) rfl ⟨rfl, (Q.refl w).cells _ _⟩

theorem numOf_nan64 {b : Nat} (h1 : b / 4503599627370496 % 2048 = 2047) (h2 : b % 4503599627370496 ≠ 0) : numOf Ieee.double b = .nan := by
  unfold numOf Ieee.Format.read
  simp only [double_sign, double_binade, double_inf, double_least]
  rw [if_neg (by omega), if_neg (by omega), if_neg (by omega)]
theorem numOf_inf64 {b : Nat} (h1 : b / 4503599627370496 % 2048 = 2047) (h2 : b % 4503599627370496 = 0) : numOf Ieee.double b = .inf (b / 9223372036854775808 % 2 == 1) := by
  unfold numOf Ieee.Format.read
  simp only [double_sign, double_binade, double_inf, double_least]
  rw [if_neg (by omega), if_neg (by omega), if_pos (by omega)]
theorem numOf_small64 {b : Nat} (h1 : b / 4503599627370496 % 2048 = 0) : numOf Ieee.double b = .fin (b / 9223372036854775808 % 2 == 1) (b % 4503599627370496) (-1074) false := by
  unfold numOf Ieee.Format.read
  simp only [double_sign, double_binade, double_inf, double_least]
  rw [if_pos (by omega)]
  have : b % 9223372036854775808 = b % 4503599627370496 := by omega
  rw [this]
theorem numOf_norm64 {b : Nat} (h1 : b / 4503599627370496 % 2048 ≠ 0) (h2 : b / 4503599627370496 % 2048 ≠ 2047) :
    numOf Ieee.double b = .fin (b / 9223372036854775808 % 2 == 1) (b % 4503599627370496 + 4503599627370496) (((b / 4503599627370496 % 2048 : Nat) : Int) - 1075) false := by
  unfold numOf Ieee.Format.read
  simp only [double_sign, double_binade, double_inf, double_least]
  rw [if_neg (by omega), if_pos (by omega)]
  have e1 : 4503599627370496 + b % 9223372036854775808 % 4503599627370496 = b % 4503599627370496 + 4503599627370496 := by omega
  have e2 : (-1074 : Int) + ((b % 9223372036854775808 / 4503599627370496 - 1 : Nat) : Int) = ((b / 4503599627370496 % 2048 : Nat) : Int) - 1075 := by omega
  rw [e1, e2]

/-- The bits of a binary64 word among 64. -/
theorem of_bits64 {b : Nat} (hb : b < 18446744073709551616) :
    bits .and .u64 ((b : Int) / 9223372036854775808) 1 = ((b / 9223372036854775808 % 2 : Nat) : Int) ∧
    bits .and .u64 ((b : Int) / 4503599627370496) 2047 = ((b / 4503599627370496 % 2048 : Nat) : Int) ∧
    bits .and .u64 (b : Int) 4503599627370495 = ((b % 4503599627370496 : Nat) : Int) ∧
    bits .or .u64 ((b % 4503599627370496 : Nat) : Int) 4503599627370496 = ((b % 4503599627370496 + 4503599627370496 : Nat) : Int) := by
  refine ⟨?_, ?_, ?_, ?_⟩
  · have := u64_and1 (x := b / 9223372036854775808) (by omega)
    exact this
  · have : bits .and .u64 ((b : Int) / 4503599627370496) 2047 = (b : Int) / 4503599627370496 % 2048 := by go_bits2
    rw [this]; omega
  · have : bits .and .u64 (b : Int) 4503599627370495 = (b : Int) % 4503599627370496 := by go_bits2
    rw [this]; omega
  · rw [show (4503599627370496 : Int) = ((4503599627370496 : Nat) : Int) from rfl, u64_or_nat _ _ (by omega) (by decide), Nat.or_comm,
      show (4503599627370496 : Nat) = 2 ^ 52 * 1 from rfl, ← Nat.two_pow_add_eq_or_of_lt (i := 52) (by omega) 1]
    omega

set_option maxHeartbeats 4000000 in
theorem of64_any (b : Nat) (w : World) (hb : b < 18446744073709551616) :
    Calls Tryz.prog 61 #[.agg #[.int .i64 52, .int .i64 11], .int .u64 b] w fun e w' => ∃ v, e = .returned v ∧ NumAt w' v (numOf Ieee.double b) ∧ Q w w' := by
  obtain ⟨e1, e2, e3, e4⟩ := of_bits64 hb
  obtain ⟨sg, hsg⟩ : ∃ sg : Nat, sg = b / 9223372036854775808 % 2 := ⟨_, rfl⟩
  obtain ⟨ex, hex⟩ : ∃ ex : Nat, ex = b / 4503599627370496 % 2048 := ⟨_, rfl⟩
  obtain ⟨fr, hfr⟩ : ∃ fr : Nat, fr = b % 4503599627370496 := ⟨_, rfl⟩
  rw [← hsg] at e1
  rw [← hex] at e2
  rw [← hfr] at e3 e4
  have xb : ex ≤ 2047 := by omega
  have fb : fr < 4503599627370496 := by omega
  have esg : ((sg : Int) == 1) = (b / 9223372036854775808 % 2 == 1) := by
    rw [← hsg]
    rcases (by omega : sg = 0 ∨ sg = 1) with e | e <;> rw [e] <;> rfl
  have HSG : Hid _ := esg
  have hcase : (ex = 2047 ∧ fr ≠ 0 ∧ Hid (numOf Ieee.double b = .nan)) ∨ (ex = 2047 ∧ fr = 0 ∧ Hid (numOf Ieee.double b = .inf (b / 9223372036854775808 % 2 == 1))) ∨
      (ex = 0 ∧ Hid (numOf Ieee.double b = .fin (b / 9223372036854775808 % 2 == 1) fr (-1074) false)) ∨ (ex ≠ 0 ∧ ex ≠ 2047 ∧ Hid (numOf Ieee.double b = .fin (b / 9223372036854775808 % 2 == 1) (fr + 4503599627370496) ((ex : Int) - 1075) false)) := by
    by_cases h1 : ex = 2047
    · by_cases h2 : fr = 0
      · exact Or.inr (Or.inl ⟨h1, h2, numOf_inf64 (by omega) (by omega)⟩)
      · exact Or.inl ⟨h1, h2, numOf_nan64 (by omega) (by omega)⟩
    · by_cases h3 : ex = 0
      · exact Or.inr (Or.inr (Or.inl ⟨h3, by rw [hfr]; exact numOf_small64 (by omega)⟩))
      · exact Or.inr (Or.inr (Or.inr ⟨h3, h1, by rw [hfr, hex]; exact numOf_norm64 (by omega) (by omega)⟩))
  clear hsg hex hfr esg
  have w1 : IntKind.u64.wrap 2047 = 2047 := by decide
  have w2 : IntKind.u64.wrap 4503599627370496 = 4503599627370496 := by decide
  have w3 : IntKind.u64.wrap 4503599627370495 = 4503599627370495 := by decide
  have w4 : IntKind.i64.wrap (-1074) = -1074 := by decide
  rcases hcase with ⟨rfl, h2, HR⟩ | ⟨rfl, rfl, HR⟩ | ⟨rfl, HR⟩ | ⟨h1, h2, HR⟩
  · have h2b : ((fr : Int) != 0) = true := by simp; omega
    go_enter Tryz.func61, Tryz.ntmps61
    go_wp2_with fail
    go_region_held3 (fun w' => w'.cell? ⟨w.heap.size, 0, none⟩ = some (.int .i64 52) ∧ w'.cell? ⟨w.heap.size, 1, none⟩ = some (.int .i64 11)) (first | (simp [go_sem]; done) | go_keep) (first | (go_at_call 91; refine (top_any 52 11 2047 (by decide) _).mono ?_; rintro e w1 ⟨rfl, rfl⟩))
    go_wp2_with fail
    refine (top_any 52 11 2047 (by decide) _).mono ?_
    rintro e v1 ⟨rfl, rfl⟩
    go_wp2_with fail
    refine bodyPost_ret (v := .agg #[.int .i64 0, .bool false, .slice none 0 0, .int .i64 0, .bool false]) (by simp [results, Tryz.results61, go_sem]) rfl ⟨_, rfl, ?_, ?_⟩
    · rw [HR.out]; exact ⟨_, _, _, rfl⟩
    · exact (((((Q.refl w).cells _ _).cells _ _).cells _ _).cells _ _).drew
  · go_enter Tryz.func61, Tryz.ntmps61
    go_wp2_with fail
    go_region_held3 (fun w' => w'.cell? ⟨w.heap.size, 0, none⟩ = some (.int .i64 52) ∧ w'.cell? ⟨w.heap.size, 1, none⟩ = some (.int .i64 11)) (first | (simp [go_sem]; done) | go_keep) (first | (go_at_call 91; refine (top_any 52 11 2047 (by decide) _).mono ?_; rintro e w1 ⟨rfl, rfl⟩))
    go_wp2_with fail
    refine (top_any 52 11 2047 (by decide) _).mono ?_
    rintro e v1 ⟨rfl, rfl⟩
    go_wp2_with fail
    refine bodyPost_ret (v := .agg #[.int .i64 1, .bool ((sg : Int) == 1), .slice none 0 0, .int .i64 0, .bool false]) (by simp [results, Tryz.results61, go_sem]) rfl ⟨_, rfl, ?_, ?_⟩
    · rw [HR.out, HSG.out]; exact ⟨_, _, rfl⟩
    · exact (((((Q.refl w).cells _ _).cells _ _).cells _ _).cells _ _).drew
  · go_enter Tryz.func61, Tryz.ntmps61
    go_wp2_with fail
    go_region_held3 (fun w' => w'.cell? ⟨w.heap.size, 0, none⟩ = some (.int .i64 52) ∧ w'.cell? ⟨w.heap.size, 1, none⟩ = some (.int .i64 11)) (first | (simp [go_sem]; done) | go_keep) (first | (go_at_call 91; refine (top_any 52 11 2047 (by decide) _).mono ?_; rintro e w1 ⟨rfl, rfl⟩))
    go_wp2_with fail
    refine (top_any 52 11 2047 (by decide) _).mono ?_
    rintro e v1 ⟨rfl, rfl⟩
    go_wp2_with fail
    go_region_held3 (fun w' => w'.cell? ⟨w.heap.size, 0, none⟩ = some (.int .i64 52) ∧ w'.cell? ⟨w.heap.size, 1, none⟩ = some (.int .i64 11)) (first | (simp [go_sem]; done) | go_keep) (first | (go_at_call 92; refine (natof_any fr _ (by omega)).mono ?_; rintro e w1 ⟨C, rfl, rfl⟩) | (go_at_call 93; refine (bias_any 52 11 1075 (by decide) _).mono ?_; rintro e w1 ⟨rfl, rfl⟩))
    all_goals
      go_wp2
      refine bodyPost_ret (v := .agg #[.int .i64 2, .bool ((sg : Int) == 1), .slice (some ⟨w.heap.size + 1 + 1 + 1 + 1, 0, none⟩) (len64 fr) C, .int .i64 (-1074), .bool false]) (by simp [results, Tryz.results61, go_sem]) rfl ⟨_, rfl, ?_, ?_⟩
      · rw [HR.out, HSG.out]
        exact ⟨_, rfl, natAt_two (by omega) (by simp [go_sem]) (by simp [go_sem])⟩
      · exact (((((((Q.refl w).cells _ _).cells _ _).cells _ _).cells _ _).cells _ _).cells _ _).drew.drew.drew
  · have h1b : ((ex : Int) == 2047) = false := by simp; omega
    have h2b : ((ex : Int) == 0) = false := by simp; omega
    obtain ⟨M, hM⟩ : ∃ M, M = fr + 4503599627370496 := ⟨_, rfl⟩
    rw [← hM] at e4
    have hMb : M < 18446744073709551616 := by omega
    have w5 : IntKind.i64.wrap ((ex : Int) - 1075) = (ex : Int) - 1075 := by rw [IntKind.wrap_i64]; omega
    have w6 : IntKind.i64.wrap (ex : Int) = (ex : Int) := by rw [IntKind.wrap_i64]; omega
    have HM : Hid _ := hM
    clear hM
    go_enter Tryz.func61, Tryz.ntmps61
    go_wp2_with fail
    go_region_held3 (fun w' => w'.cell? ⟨w.heap.size, 0, none⟩ = some (.int .i64 52) ∧ w'.cell? ⟨w.heap.size, 1, none⟩ = some (.int .i64 11)) (first | (simp [go_sem]; done) | go_keep) (first | (go_at_call 91; refine (top_any 52 11 2047 (by decide) _).mono ?_; rintro e w1 ⟨rfl, rfl⟩))
    go_wp2_with fail
    refine (top_any 52 11 2047 (by decide) _).mono ?_
    rintro e v1 ⟨rfl, rfl⟩
    go_wp2_with fail
    go_region_held3 (fun w' => w'.cell? ⟨w.heap.size, 0, none⟩ = some (.int .i64 52) ∧ w'.cell? ⟨w.heap.size, 1, none⟩ = some (.int .i64 11)) (first | (simp [go_sem]; done) | go_keep) (first | (go_at_call 92; refine (natof_any M _ hMb).mono ?_; rintro e w1 ⟨C, rfl, rfl⟩) | (go_at_call 93; refine (bias_any 52 11 1075 (by decide) _).mono ?_; rintro e w1 ⟨rfl, rfl⟩))
    all_goals
      go_wp2
      refine bodyPost_ret (v := .agg #[.int .i64 2, .bool ((sg : Int) == 1), .slice (some ⟨w.heap.size + 1 + 1 + 1 + 1, 0, none⟩) (len64 M) C, .int .i64 ((ex : Int) - 1075), .bool false]) (by simp [results, Tryz.results61, go_sem]) rfl ⟨_, rfl, ?_, ?_⟩
      · rw [HR.out, HSG.out, ← HM.out]
        exact ⟨_, rfl, natAt_two hMb (by simp [go_sem]) (by simp [go_sem])⟩
      · exact (((((((Q.refl w).cells _ _).cells _ _).cells _ _).cells _ _).cells _ _).cells _ _).drew.drew.drew
end Go.Proofs.YtkgojnjlfkijiaaGreat
/- Plain facts: the reference's word of binary64, put together. -/
namespace Go.Proofs.YtkgojnjlfkijiaaGreat
open Go.RowKit

/-- The word that the reference puts together. -/
theorem or_word_64 {neg : Bool} {r : Nat} (hr : r < 9223372036854775808) : bits .or .u64 (signV true neg) (r : Int) = ((Ieee.double.word neg r : Nat) : Int) := by
  unfold Ieee.Format.word signV
  rw [double_sign]
  cases neg
  · show bits .or .u64 ((0 : Nat) : Int) (r : Int) = _
    rw [u64_or_nat _ _ (by decide) (by omega), Nat.zero_or]; rfl
  · show bits .or .u64 ((9223372036854775808 : Nat) : Int) (r : Int) = _
    rw [u64_or_nat _ _ (by decide) (by omega), show (9223372036854775808 : Nat) = 2 ^ 63 * 1 from rfl, ← Nat.two_pow_add_eq_or_of_lt (i := 63) hr 1]
    rfl
theorem or_word2_64 {neg : Bool} {x fr : Nat} (hx : x < 2048) (hf : fr < 4503599627370496) :
    bits .or .u64 ((Ieee.double.word neg (x * 4503599627370496) : Nat) : Int) (fr : Int) = ((Ieee.double.word neg (x * 4503599627370496 + fr) : Nat) : Int) := by
  have e : Ieee.double.word neg (x * 4503599627370496) = 2 ^ 52 * ((if neg = true then 2048 else 0) + x) := by
    unfold Ieee.Format.word; rw [double_sign]; cases neg <;> simp <;> omega
  have e2 : Ieee.double.word neg (x * 4503599627370496 + fr) = 2 ^ 52 * ((if neg = true then 2048 else 0) + x) + fr := by
    unfold Ieee.Format.word; rw [double_sign]; cases neg <;> simp <;> omega
  have hb : (if neg = true then 2048 else 0) ≤ 2048 := by split <;> omega
  rw [e2, e, u64_or_nat _ _ (by omega) (by omega), ← Nat.two_pow_add_eq_or_of_lt (i := 52) hf]
theorem word_lt_64 {neg : Bool} {r : Nat} (hr : r < 9223372036854775808) : Ieee.double.word neg r < 18446744073709551616 := by
  unfold Ieee.Format.word; rw [double_sign]; split <;> omega

/-- Carried where it must be: what is kept, and its place. -/
theorem carried_64 {n K : Nat} {T : Int} {R : Nat} (h1 : K ≤ 2 * 4503599627370496) (h2 : -1074 ≤ T) (h3 : K < 4503599627370496 → T = -1074 ∨ n = 0) (h0 : n = 0 → K = 0)
    (h4 : R = if n = 0 then 0 else min ((T - -1074).toNat * 4503599627370496 + K) 9218868437227405312) :
    ∃ (K' : Nat) (T' : Int), K' < 9007199254740992 ∧ -1074 ≤ T' ∧ T' ≤ T + 1 ∧ ((K = 9007199254740992 ∧ K' = 4503599627370496 ∧ T' = T + 1) ∨ (K < 9007199254740992 ∧ K' = K ∧ T' = T)) ∧
      (K' < 4503599627370496 → R = K') ∧ (4503599627370496 ≤ K' → R = min ((T' + 1074).toNat * 4503599627370496 + K') 9218868437227405312) := by
  by_cases hK : K = 9007199254740992
  · refine ⟨4503599627370496, T + 1, by decide, by omega, by omega, Or.inl ⟨hK, rfl, rfl⟩, fun h => absurd h (by decide), fun _ => ?_⟩
    have : n ≠ 0 := fun e => by have := h0 e; omega
    rw [h4, if_neg this]
    have e1 : (T + 1 + 1074).toNat = (T - -1074).toNat + 1 := by omega
    have e2 : ∀ y : Nat, y * 4503599627370496 + 9007199254740992 = (y + 1) * 4503599627370496 + 4503599627370496 := fun y => by omega
    rw [e1, hK, e2]
  · refine ⟨K, T, by omega, h2, by omega, Or.inr ⟨by omega, rfl, rfl⟩, fun h => ?_, fun h => ?_⟩
    · rw [h4]
      by_cases hn : n = 0
      · rw [if_pos hn, h0 hn]
      · rw [if_neg hn]
        rcases h3 h with g | g
        · rw [g]; simp; omega
        · exact absurd g hn
    · have : n ≠ 0 := fun e => by have := h0 e; omega
      rw [h4, if_neg this]
      rw [show (T - -1074).toNat = (T + 1074).toNat by omega]
end Go.Proofs.YtkgojnjlfkijiaaGreat
/- What the reference's Round returns at binary64: the nearest word. -/
namespace Go.Proofs.YtkgojnjlfkijiaaGreat
open Go.RowKit

set_option maxHeartbeats 8000000 in
set_option maxRecDepth 1000000 in
theorem round64_fin (neg : Bool) (nv : Value) (n : Nat) (e : Int) (more : Bool) (w : World) (hn : NatAt w nv n) (hb : blen n ≤ 6000) (e0 : -5000 ≤ e) (e1 : e ≤ 5000)
    (hmore : more = true → n ≠ 0 ∧ e + 1 ≤ lastOf Ieee.double n e) :
    Calls Tryz.prog 64 #[.agg #[.int .i64 52, .int .i64 11], .agg #[.int .i64 2, .bool neg, nv, .int .i64 e, .bool more]] w
      fun x w' => x = .returned (.int .u64 ((Ieee.double.word neg (rungOf Ieee.double (2 * n + more.toNat) (e - 1)) : Nat) : Int)) ∧ Q w w' := by
  have hbl := hb
  have HMO : Hid _ := hmore
  clear hb hmore
  obtain ⟨T, hT⟩ : ∃ T : Int, T = toV n e 52 (-1074) := ⟨_, rfl⟩
  have HT : Hid _ := hT
  have hT1 : T ≤ 12000 := by rw [hT]; unfold toV; omega
  have hT0 : -1074 ≤ T := by rw [hT]; unfold toV; omega
  have hcase : ((blen n : Int) + e - 53 < -1074 ∧ Hid (T = -1074)) ∨ (¬ (blen n : Int) + e - 53 < -1074 ∧ Hid (T = (blen n : Int) + e - 53)) := by
    unfold toV at hT
    by_cases h : (blen n : Int) + e - 53 < -1074
    · exact Or.inl ⟨h, by show T = _; omega⟩
    · exact Or.inr ⟨h, by show T = _; omega⟩
  have HC : Hid _ := hcase
  clear hT hcase
  obtain ⟨pn, bn, Ln, Cn, rfl, hnI⟩ := hn
  have hn : NatAt w (.slice pn Ln Cn) n := ⟨pn, bn, Ln, Cn, rfl, hnI⟩
  go_enter Tryz.func64, Tryz.ntmps64
  go_wp2_with fail
  refine (bias_any 52 11 1075 (by decide) _).mono ?_
  rintro x v1 ⟨rfl, rfl⟩
  go_upto_region 8 with fail
  go_cut [8] from 17 (fun s8 wc => s8 = .int .i64 T ∧ RBox 52 11 w wc neg more)
  case first =>
    have a1 : IntKind.i64.wrap ((blen n : Int) + e) = (blen n : Int) + e := by rw [IntKind.wrap_i64]; omega
    have a2 : IntKind.i64.wrap 53 = 53 := by decide
    have a3 : IntKind.i64.wrap ((blen n : Int) + e - 53) = (blen n : Int) + e - 53 := by rw [IntKind.wrap_i64]; omega
    rcases HC.out with ⟨h1, h2⟩ | ⟨h1, h2⟩
    all_goals
      go_region_held3 (fun w' => w'.cell? ⟨w.heap.size, 0, none⟩ = some (.int .i64 52)) (first | (simp [go_sem]; done) | go_keep) (first | (go_at_call 96; refine (bits_any _ n _ (Q.nat (((((Q.refl w).cells _ _).cells _ _).cells _ _).drew.drew) hn)).mono ?_; rintro x v1 ⟨rfl, rfl⟩))
      all_goals
        go_wp2_with fail
        go_meet
        case rel =>
          go_light
          exact ⟨congrArg (Value.int .i64) h2.out.symm, ((((Q.refl w).cells _ _).cells _ _).cells _ _).drew.drew, by simp [go_sem], by simp [go_sem], by simp [go_sem], by simp [go_sem]⟩
  case rest =>
    obtain ⟨rfl, hB⟩ := hcut
    have b0 := hB.f0
    have b4 := hB.k4
    go_upto_if 54 with fail
    go_cut [5, 9] from 17 (fun s5 s9 wc => ∃ (up : Bool) (m : Nat), s9 = .bool up ∧ NatAt wc s5 m ∧ m + up.toNat = keptV n more.toNat e T ∧ RBox 52 11 w wc neg more)
    case first =>
      by_cases hTe : e < T
      · obtain ⟨d, hd⟩ : ∃ d : Nat, T = e + (d + 1 : Nat) := ⟨(T - e - 1).toNat, by omega⟩
        have hdz : T - e - 1 = (d : Int) := by omega
        have hdz2 : T - e = ((d + 1 : Nat) : Int) := by omega
        have HD : Hid _ := hd
        clear hd
        have hdn : d ≤ 20000 := by omega
        have hbv := bitV_le n d
        go_wp2_with fail
        refine (bit_any _ n d _ (hB.q.nat hn) hdn).mono ?_
        rintro x wd ⟨rfl, hwd⟩
        subst hwd
        go_upto_block 0 with fail
        go_cut [11] from 17 (fun s11 wx => s11 = .bool (more || restB n d) ∧ wd = wx)
        case first =>
          go_wp2_with fail
          go_loopg [11, 12] d (fun g s11 s12 wr => wd = wr ∧ ∃ k : Nat, k ≤ d ∧ g = d - k ∧ s12 = .int .i64 k ∧ s11 = .bool (more || restB n k))
          case atStart => exact ⟨rfl, 0, Nat.zero_le _, rfl, rfl, by rw [restB_zero, Bool.or_false]⟩
          case round =>
            obtain ⟨rfl, k, hk, rfl, rfl, rfl⟩ := hrel
            by_cases hkd : k < d
            · have hkz : (k : Int) < (d : Int) := by omega
              cases hbel : (more || restB n k)
              · have hf : more = false ∧ restB n k = false := by simpa using hbel
                have HF : Hid _ := restB_f hf.2
                have hm0 := hf.1
                subst hm0
                clear hf
                go_wp2_with fail
                refine (bit_any _ n k _ (hB.q.nat hn) (by omega)).mono ?_
                rintro x we ⟨rfl, hwe⟩
                subst hwe
                go_wp2_with fail
                go_roundg (d - (k + 1))
                case measure => go_light; omega
                case rel => go_light; exact ⟨rfl, k + 1, by omega, rfl, by simp, congrArg Value.bool (by rw [HF.out, Bool.false_or])⟩
              · go_wp2_with fail
                go_meet
                case rel =>
                  go_light
                  exact ⟨congrArg Value.bool (by rw [← below_more hkd hbel, ← hbel]), rfl⟩
            · obtain rfl : k = d := by omega
              have hkz : ¬ (k : Int) < (k : Int) := by omega
              go_wp2_with fail
              go_meet
              case rel => go_light; exact ⟨rfl, rfl⟩
        case rest =>
          obtain ⟨rfl, rfl⟩ := hcut
          have HK : Hid (keptV n more.toNat e T = _) := kept_down (d + 1) HD.out (by omega) (by cases more <;> decide)
          go_wp2_with fail
          refine (down_any _ n (d + 1) _ (hB.q.nat hn) (by omega)).mono ?_
          rintro x wf ⟨v, rfl, hv, qv⟩
          have hbv2 := bitV_le (n / 2 ^ (d + 1)) 0
          have HV : Hid (NatAt wf v (n / 2 ^ (d + 1))) := hv
          cases hhalf : ((bitV n d : Int) == 1)
          · have hh : bitV n d ≠ 1 := by have := beq_eq_false_iff_ne.1 hhalf; omega
            have HH : Hid _ := hh
            clear hh hbv hbv2
            go_wp2_with fail
            go_meet
            case rel =>
              go_light
              exact ⟨false, n / 2 ^ (d + 1), rfl, HV.out, by rw [HK.out, if_neg (fun c => HH.out c.1)]; rfl, hB.next qv⟩
          · have hh : bitV n d = 1 := by have := beq_iff_eq.1 hhalf; omega
            have HH : Hid _ := hh
            clear hh hbv
            cases hbel : (more || restB n d)
            · have hf : more = false ∧ restB n d = false := by simpa using hbel
              have HF : Hid _ := hf
              clear hf
              go_wp2_with fail
              refine (bit_any v _ 0 _ HV.out (by decide)).mono ?_
              rintro x wg ⟨rfl, hwg⟩
              subst hwg
              go_wp2_with fail
              go_meet
              case rel =>
                go_light
                refine ⟨((bitV (n / 2 ^ (d + 1)) 0 : Int) == 1), n / 2 ^ (d + 1), rfl, HV.out, ?_, hB.next qv⟩
                rw [HK.out]
                exact kept_odd HH.out HF.out.1 HF.out.2 hbv2
            · have HF : Hid _ := hbel
              go_wp2_with fail
              go_meet
              case rel =>
                go_light
                refine ⟨true, n / 2 ^ (d + 1), rfl, HV.out, ?_, hB.next qv⟩
                rw [HK.out]
                exact kept_below HH.out HF.out
      · obtain ⟨d, hd⟩ : ∃ d : Nat, e = T + (d : Nat) := ⟨(e - T).toNat, by omega⟩
        have hdz : e - T = (d : Int) := by omega
        have HD : Hid _ := hd
        clear hd
        go_wp2_with fail
        have HU : Hid (n * 2 ^ d < 2 ^ 53) := by
          have h1 := HD.out
          have h2 := HT.out
          have h3 := blen_lt n
          unfold toV at h2
          by_cases h0 : n = 0
          · show n * 2 ^ d < 2 ^ 53
            rw [h0, Nat.zero_mul]; decide
          · show n * 2 ^ d < 2 ^ 53
            have h4 : blen n + d ≤ 53 := by omega
            have h5 : n * 2 ^ d < 2 ^ blen n * 2 ^ d := Nat.mul_lt_mul_of_pos_right h3 (Nat.two_pow_pos d)
            rw [← Nat.pow_add] at h5
            exact Nat.lt_of_lt_of_le h5 (Nat.pow_le_pow_right (by decide) h4)
        refine (up_any _ n d _ (hB.q.nat hn) (lt_cap HU.out (by decide))).mono ?_
        rintro x wf ⟨v, rfl, hv, qv⟩
        have HV : Hid _ := hv
        clear hv
        go_wp2_with fail
        go_meet
        case rel =>
          go_light
          have hm0 : more = false := by
            cases hmm : more
            · rfl
            · have h1 := HMO.out hmm
              have h2 := HT.out
              have h3 := toV_last Ieee.double e h1.1
              rw [double_least] at h3
              have h4 : toV n e 52 (-1074) = lastOf Ieee.double n e := h3
              have h5 := HD.out
              omega
          exact ⟨false, n * 2 ^ d, rfl, HV.out, by rw [hm0]; exact (kept_up d HD.out).symm, hB.next qv⟩
    case rest =>
      obtain ⟨up, m, rfl, hm, hk, hB2⟩ := hcut
      have HK : Hid _ := hk
      clear hk b0 b4 hB
      obtain ⟨K, hK⟩ : ∃ K, K = keptV n more.toNat e T := ⟨_, rfl⟩
      have HKK : Hid _ := hK
      have hfacts := kept_facts Ieee.double n more.toNat e (by cases more <;> decide) (fun h => (HMO.out (by cases more <;> simp_all)).1)
      rw [double_binade, double_least, double_frac, double_inf] at hfacts
      have hTn : toV n e ((52 : Nat) : Int) (-1074) = T := HT.out.symm
      rw [hTn, ← hK] at hfacts
      have HFA : Hid _ := hfacts
      have hK24 : K ≤ 9007199254740992 := by have := hfacts.1; omega
      clear hfacts hK hTn
      go_upto_if 103 with fail
      go_cut [5] from 17 (fun s5 wc => NatAt wc s5 K ∧ RBox 52 11 w wc neg more)
      case first =>
        cases up
        · have hmk : m = K := by have h1 := HK.out; rw [← HKK.out] at h1; simpa using h1
          go_wp2_with fail
          go_meet
          case rel => go_light; rw [← hmk]; exact ⟨hm, hB2⟩
        · have hmk : m + 1 = K := by have h1 := HK.out; rw [← HKK.out] at h1; simpa using h1
          have HMK : Hid _ := hmk
          clear hmk
          go_wp2_with fail
          refine (natof_nat 1 _ (by decide)).mono ?_
          rintro x wf ⟨v, rfl, hv, qv⟩
          go_wp2_with fail
          refine (plus_any _ _ m 1 _ (qv.nat hm) hv (lt_cap (k := 54) (by have := HMK.out; omega) (by decide))).mono ?_
          rintro x wg ⟨v2, rfl, hv2, qv2⟩
          go_wp2_with fail
          go_meet
          case rel => go_light; rw [← HMK.out]; exact ⟨hv2, (hB2.next qv).next qv2⟩
      case rest =>
        obtain ⟨hs5, hB3⟩ := hcut
        have b0 := hB3.f0
        have b1 := hB3.f1
        have bk := hB3.k1
        obtain ⟨K', T', c1, c2, c3, c4, c5, c6⟩ := carried_64 HFA.out.1 HFA.out.2.1 HFA.out.2.2.1 (fun h => by
          have h1 := HFA.out.2.2.2
          have h2 : more = false := by
            cases hmm : more
            · rfl
            · exact absurd h (HMO.out hmm).1
          rw [HKK.out, h, h2]; exact kept_zero _ _) HFA.out.2.2.2
        have C5 : Hid _ := c5
        have C6 : Hid _ := c6
        have C4 : Hid _ := c4
        clear c4 c5 c6
        have a2 : IntKind.i64.wrap 53 = 53 := by decide
        go_upto_region 23 with fail
        go_cut [112] from 17 (fun s112 wx => s112 = .bool (decide (53 < (blen K : Int))) ∧ Q wc wx)
        case first =>
          go_region_held3 (fun w' => w'.cell? ⟨w.heap.size, 0, none⟩ = some (.int .i64 52)) (first | (simp [go_sem, b0]; done) | go_keep) (first | (go_at_call 96; refine (bits_any _ K _ ((Q.refl wc).drew.nat hs5)).mono ?_; rintro x v1 ⟨rfl, rfl⟩))
          all_goals
            go_wp2_with fail
            go_meet
            case rel => go_light; exact ⟨rfl, (Q.refl wc).drew⟩
        case rest =>
          obtain ⟨rfl, qx⟩ := hcut
          have hB4 := hB3.next qx
          have hs5b := qx.nat hs5
          clear b0 b1 bk hB3 hs5
          go_upto_if 112 with fail
          go_cut [5, 8] from 17 (fun s5 s8 wx => NatAt wx s5 K' ∧ s8 = .int .i64 T' ∧ RBox 52 11 w wx neg more)
          case first =>
            rcases C4.out with ⟨g1, g2, g3⟩ | ⟨g1, g2, g3⟩
            · have hd : (53 : Int) < (blen K : Int) := by rw [g1]; decide
              have G1 : Hid _ := g1
              have G2 : Hid _ := g2
              have G3 : Hid _ := g3
              clear g1 g2 g3
              go_wp2_with fail
              refine (down_any _ K 1 _ hs5b (by decide)).mono ?_
              rintro x wf ⟨v, rfl, hv, qv⟩
              go_wp2_with fail
              go_meet
              case rel =>
                go_light
                refine ⟨?_, congrArg (Value.int .i64) G3.out.symm, hB4.next qv⟩
                have : K / 2 ^ 1 = K' := by rw [G1.out, G2.out]
                rw [← this]; exact hv
            · have hd : ¬ (53 : Int) < (blen K : Int) := by
                have := blen_le (n := K) (k := 53) (by omega)
                omega
              have G2 : Hid _ := g2
              have G3 : Hid _ := g3
              clear g1 g2 g3
              go_wp2_with fail
              go_meet
              case rel => go_light; exact ⟨by rw [G2.out]; exact hs5b, congrArg (Value.int .i64) G3.out.symm, hB4⟩
          case rest =>
            obtain ⟨hs6, rfl, hB5⟩ := hcut
            have b0 := hB5.f0
            have b1 := hB5.f1
            have bk := hB5.k1
            have hlow : lowV K' = K' := Nat.mod_eq_of_lt (by omega)
            have w2 : IntKind.u64.wrap 4503599627370496 = 4503599627370496 := by decide
            have w3 : IntKind.u64.wrap 4503599627370495 = 4503599627370495 := by decide
            have w4 : IntKind.u64.wrap 9218868437227405312 = 9218868437227405312 := by decide
            by_cases hsub : K' < 4503599627370496
            · have hz : (K' : Int) < 4503599627370496 := by omega
              have hor := or_word_64 (neg := neg) (r := K') (by omega)
              go_wp2_with fail
              refine (low_any _ K' _ hs6).mono ?_
              rintro x wg ⟨rfl, hwg⟩
              subst hwg
              rw [hlow]
              go_wp2_with fail
              refine (sign_any 52 11 true neg (by decide) _).mono ?_
              rintro x wh ⟨rfl, rfl⟩
              go_wp2_with fail
              go_ret
              exact ⟨ret_int (by rw [C5.out hsub]), (hB5.q).cells _ _⟩
            · have hz : ¬ (K' : Int) < 4503599627370496 := by omega
              obtain ⟨X, hX⟩ : ∃ X : Nat, T' + 1075 = (X : Int) := ⟨(T' + 1075).toNat, by omega⟩
              have hXr := C6.out (by omega)
              rw [show (T' + 1074).toNat = X - 1 by omega] at hXr
              have HX : Hid _ := hXr
              have HX1 : Hid (1 ≤ X) := by show 1 ≤ X; omega
              have hX2 : X ≤ 14000 := by omega
              have hzb : decide ((K' : Int) < 4503599627370496) = false := decide_eq_false hz
              have HX0 : Hid _ := hX
              have HX2 : Hid _ := hX2
              clear hXr w2 w3 w4 hX hX2 c2 c3
              go_wp2_with fail
              refine (low_any _ K' _ hs6).mono ?_
              rintro x wg ⟨rfl, hwg⟩
              subst hwg
              rw [hlow]
              go_wp2_with fail
              refine (bias_any 52 11 1075 (by decide) _).mono ?_
              rintro x wh ⟨rfl, hwh⟩
              have hB6 : RBox 52 11 w wh neg more := hB5.next (by rw [hwh]; exact ((Q.refl _).cells _ _).drew)
              have b0 := hB6.f0
              have b1 := hB6.f1
              have bk := hB6.k1
              have hX := HX0.out
              have hX2 := HX2.out
              clear hz hzb hwh
              go_wp2_with fail
              refine (top_any 52 11 2047 (by decide) _).mono ?_
              rintro x wi ⟨rfl, hwi⟩
              have hB7 : RBox 52 11 w wi neg more := hB6.next (by rw [hwi]; exact (Q.refl _).cells _ _)
              have b0 := hB7.f0
              have b1 := hB7.f1
              have bk := hB7.k1
              clear hwi
              by_cases hinf : 2047 ≤ X
              · have hiz : (2047 : Int) ≤ (X : Int) := by omega
                have hib : decide ((2047 : Int) ≤ (X : Int)) = true := decide_eq_true hiz
                go_wp2_with fail
                have w4 : IntKind.u64.wrap 9218868437227405312 = 9218868437227405312 := by decide
                have hor := or_word_64 (neg := neg) (r := 9218868437227405312) (by decide)
                rw [show ((9218868437227405312 : Nat) : Int) = 9218868437227405312 from rfl] at hor
                obtain ⟨Wd, hWd⟩ : ∃ Wd : Nat, Wd = Ieee.double.word neg 9218868437227405312 := ⟨_, rfl⟩
                rw [← hWd] at hor
                have HWD : Hid _ := hWd
                clear hWd
                go_region_held3 (fun w' => w'.cell? ⟨w.heap.size, 0, none⟩ = some (.int .i64 52) ∧ w'.cell? ⟨w.heap.size, 1, none⟩ = some (.int .i64 11) ∧ w'.cell? ⟨w.heap.size + 1, 1, none⟩ = some (.bool neg)) (first | (simp [World.cell?_alloc_some, b0, b1, bk]; done) | (simp [World.cell?_alloc_some, b0, b1, bk, go_sem]; done) | go_keep) (first | (go_at_call 95; refine (sign_any 52 11 true neg (by decide) _).mono ?_; rintro x v1 ⟨rfl, rfl⟩) | (go_at_call 91; refine (top_any 52 11 2047 (by decide) _).mono ?_; rintro x v1 ⟨rfl, rfl⟩))
                all_goals
                  go_wp2_with fail
                  go_ret
                  refine ⟨ret_int ?_, ((hB7.q.cells _ _).cells _ _).drew⟩
                  rw [HX.out, HWD.out, Nat.min_eq_right]
                  have := HX1.out
                  omega
              · have hiz : ¬ (2047 : Int) ≤ (X : Int) := by omega
                have hib : decide ((2047 : Int) ≤ (X : Int)) = false := decide_eq_false hiz
                go_wp2_with fail
                have w2 : IntKind.u64.wrap 4503599627370496 = 4503599627370496 := by decide
                have w3 : IntKind.u64.wrap 4503599627370495 = 4503599627370495 := by decide
                have hmask : bits .and .u64 (K' : Int) 4503599627370495 = ((K' % 4503599627370496 : Nat) : Int) := by
                  have : bits .and .u64 (K' : Int) 4503599627370495 = (K' : Int) % 4503599627370496 := by go_bits2
                  rw [this]; rfl
                obtain ⟨fr, hfr⟩ : ∃ fr, fr = K' % 4503599627370496 := ⟨_, rfl⟩
                rw [← hfr] at hmask
                have hfb : fr < 4503599627370496 := by omega
                have HKF : Hid (K' = 4503599627370496 + fr) := by show K' = 4503599627370496 + fr; omega
                have hxb : IntKind.u64.wrap (X : Int) = (X : Int) := u64_wrap (by omega) (by omega)
                obtain ⟨Y, hY⟩ : ∃ Y, Y = X * 4503599627370496 := ⟨_, rfl⟩
                have hyw : IntKind.u64.wrap ((X : Int) * 4503599627370496) = (Y : Int) := by
                  rw [u64_wrap (by omega) (by omega), hY]; omega
                have ho1 := or_word_64 (neg := neg) (r := Y) (by omega)
                have ho2 := or_word2_64 (neg := neg) (x := X) (fr := fr) (by omega) hfb
                rw [← hY] at ho2
                obtain ⟨W1, hW1⟩ : ∃ W1 : Nat, W1 = Ieee.double.word neg Y := ⟨_, rfl⟩
                obtain ⟨W2, hW2⟩ : ∃ W2 : Nat, W2 = Ieee.double.word neg (Y + fr) := ⟨_, rfl⟩
                rw [← hW1] at ho1 ho2
                rw [← hW2] at ho2
                have HW2 : Hid _ := hW2
                have HY : Hid _ := hY
                clear hW1 hW2 hY hfr hfb hinf
                go_region_held3 (fun w' => w'.cell? ⟨w.heap.size, 0, none⟩ = some (.int .i64 52) ∧ w'.cell? ⟨w.heap.size, 1, none⟩ = some (.int .i64 11) ∧ w'.cell? ⟨w.heap.size + 1, 1, none⟩ = some (.bool neg)) (first | (simp [World.cell?_alloc_some, b0, b1, bk]; done) | (simp [World.cell?_alloc_some, b0, b1, bk, go_sem]; done) | go_keep) (first | (go_at_call 95; refine (sign_any 52 11 true neg (by decide) _).mono ?_; rintro x v1 ⟨rfl, rfl⟩) | (go_at_call 91; refine (top_any 52 11 2047 (by decide) _).mono ?_; rintro x v1 ⟨rfl, rfl⟩))
                all_goals
                  go_wp2_with fail
                  go_ret
                  refine ⟨ret_int ?_, (hB7.q.cells _ _).drew⟩
                  rw [HX.out, HW2.out, Nat.min_eq_left]
                  · have h1 := HX1.out
                    have h2 := HKF.out
                    have h3 := HY.out
                    congr 2
                    omega
                  · have h1 := HX1.out
                    have h2 := HKF.out
                    omega
end Go.Proofs.YtkgojnjlfkijiaaGreat
/- What the reference's Round returns at binary64 of whatever number; its Wide and Narrow. -/
namespace Go.Proofs.YtkgojnjlfkijiaaGreat
open Go.RowKit

/-- The word of binary64. -/
def roundD : RNum → Nat
  | ⟨none⟩ => 9221120237041090560
  | ⟨some (.inl s)⟩ => Ieee.double.word s 9218868437227405312
  | ⟨some (.inr (s, n, e, m))⟩ => Ieee.double.word s (rungOf Ieee.double (2 * n + m.toNat) (e - 1))
def fitsD : RNum → Prop
  | ⟨some (.inr (_, n, e, m))⟩ => blen n ≤ 6000 ∧ -5000 ≤ e ∧ e ≤ 5000 ∧ (m = true → n ≠ 0 ∧ e + 1 ≤ lastOf Ieee.double n e)
  | _ => True

set_option maxHeartbeats 4000000 in
set_option maxRecDepth 1000000 in
theorem round64_any (v : Value) (x : RNum) (w : World) (hx : NumAt w v x) (hf : fitsD x) :
    Calls Tryz.prog 64 #[.agg #[.int .i64 52, .int .i64 11], v] w fun e w' => e = .returned (.int .u64 (roundD x : Int)) ∧ Q w w' := by
  cases x using RNum.rec3 with
  | nan =>
    obtain ⟨b, e, m, rfl⟩ := hx
    go_enter Tryz.func64, Tryz.ntmps64
    go_wp2_with fail
    refine (fmade_any 52 11 9221120237041090560 (by decide) _).mono ?_
    rintro e w1 ⟨rfl, q1⟩
    go_wp2_with fail
    go_ret
    exact ⟨rfl, (((Q.refl w).cells _ _).cells _ _).trans q1⟩
  | inf s =>
    obtain ⟨e, m, rfl⟩ := hx
    have w4 : IntKind.u64.wrap 9218868437227405312 = 9218868437227405312 := by decide
    have hor := or_word_64 (neg := s) (r := 9218868437227405312) (by decide)
    rw [show ((9218868437227405312 : Nat) : Int) = 9218868437227405312 from rfl] at hor
    obtain ⟨Wd, hWd⟩ : ∃ Wd : Nat, Wd = Ieee.double.word s 9218868437227405312 := ⟨_, rfl⟩
    rw [← hWd] at hor
    have HWD : Hid _ := hWd
    clear hWd
    go_enter Tryz.func64, Tryz.ntmps64
    go_wp2_with fail
    go_region_held3 (fun w' => w'.cell? ⟨w.heap.size, 0, none⟩ = some (.int .i64 52) ∧ w'.cell? ⟨w.heap.size, 1, none⟩ = some (.int .i64 11) ∧ w'.cell? ⟨w.heap.size + 1, 1, none⟩ = some (.bool s)) (first | (simp [go_sem]; done) | go_keep) (first | (go_at_call 95; refine (sign_any 52 11 true s (by decide) _).mono ?_; rintro x v1 ⟨rfl, rfl⟩) | (go_at_call 91; refine (top_any 52 11 2047 (by decide) _).mono ?_; rintro x v1 ⟨rfl, rfl⟩))
    all_goals
      go_wp2_with fail
      go_ret
      exact ⟨ret_int (by rw [HWD.out]; rfl), (((((Q.refl w).cells _ _).cells _ _).cells _ _).cells _ _).drew⟩
  | fin s n e m =>
    obtain ⟨nv, rfl, hn⟩ := hx
    exact round64_fin s nv n e m w hn hf.1 hf.2.1 hf.2.2.1 hf.2.2.2
end Go.Proofs.YtkgojnjlfkijiaaGreat
/- Plain facts: sums, products and quotients of two samples, rounded to binary64 and then to binary32: it does not show. -/
namespace Go.Proofs.YtkgojnjlfkijiaaGreat
open Go.RowKit

/-- No sum of two samples lies near a half-way number without being one. -/
theorem sum_mid_le {s t : Bool} {m n k1 k2 Z : Nat} (hm : m < 16777216) (hn : n < 16777216) (hk : k2 ≤ k1) (h2 : 925 ≤ k2) (hZe : Z = (Ieee.signed s m k1 + Ieee.signed t n k2).natAbs) (hK : 0 < lostK Z)
    (hmod : rne Z (lostK Z) * 2 ^ lostK Z % 2 ^ max (Z.log2 - 23) 925 = 2 ^ (max (Z.log2 - 23) 925 - 1)) : rne Z (lostK Z) * 2 ^ lostK Z = Z := by
  obtain ⟨n1, n2⟩ := rne_near Z (lostK Z)
  have h0 : Z ≠ 0 := by intro h0; rw [h0] at hK; exact absurd hK (by decide)
  have hL : Z.log2 = 52 + lostK Z := by unfold lostK at *; omega
  have hd : 2 ^ k2 ∣ Z := by
    rw [hZe, ← Int.ofNat_dvd_left]
    exact Int.dvd_add (signed_dvd s m hk) (signed_dvd t n (Nat.le_refl _))
  rcases Nat.lt_or_ge Z (2 ^ (53 + k2)) with g | g
  · have hl := (Nat.log2_lt h0).2 g
    obtain ⟨o, ho⟩ := Nat.dvd_trans (Nat.pow_dvd_pow 2 (show lostK Z ≤ k2 by omega)) hd
    have e := rne_exact o (lostK Z)
    rw [Nat.mul_comm, ← ho] at e
    rw [e, Nat.mul_comm, ← ho]
  · exfalso
    have hl := (Nat.le_log2 h0).2 g
    rw [show max (Z.log2 - 23) 925 = 29 + lostK Z by omega, show 29 + lostK Z - 1 = 28 + lostK Z by omega, Nat.pow_add, Nat.pow_add, Nat.mul_mod_mul_right] at hmod
    have hE := Nat.two_pow_pos (lostK Z)
    have hc := Nat.eq_of_mul_eq_mul_right hE hmod
    have hlo := Nat.log2_self_le h0
    rw [hL, Nat.pow_add] at hlo
    have hY : n * 2 ^ k2 < 2 ^ 23 * 2 ^ lostK Z := by
      have a1 : n * 2 ^ k2 < 2 ^ 24 * 2 ^ k2 := Nat.mul_lt_mul_of_pos_right hn (Nat.two_pow_pos _)
      rw [← Nat.pow_add] at a1 ⊢
      exact Nat.lt_of_lt_of_le a1 (Nat.pow_le_pow_right (by decide) (by omega))
    have hX : Z ≤ m * 2 ^ k1 + n * 2 ^ k2 ∧ m * 2 ^ k1 ≤ Z + n * 2 ^ k2 := by
      have x1 := signed_abs s m k1
      have x2 := signed_abs t n k2
      omega
    have hk1 : 29 + lostK Z ≤ k1 := by
      rcases Nat.lt_or_ge k1 (29 + lostK Z) with j | j
      · exfalso
        have a1 : m * 2 ^ k1 ≤ 16777215 * (2 ^ 28 * 2 ^ lostK Z) := by
          rw [← Nat.pow_add]
          exact Nat.mul_le_mul (by omega) (Nat.pow_le_pow_right (by decide) (by omega))
        generalize m * 2 ^ k1 = xE at hX a1
        generalize n * 2 ^ k2 = yE at hX hY
        generalize 2 ^ lostK Z = E at hlo hY a1
        omega
      · exact j
    obtain ⟨x, hx⟩ : ∃ x, m * 2 ^ k1 = x * 2 ^ 29 * 2 ^ lostK Z := ⟨m * 2 ^ (k1 - (29 + lostK Z)), by
      rw [Nat.mul_assoc, Nat.mul_assoc, ← Nat.pow_add, ← Nat.pow_add, show k1 - (29 + lostK Z) + (29 + lostK Z) = k1 by omega]⟩
    rw [hx] at hX
    obtain ⟨c, hcc⟩ : ∃ c, c = rne Z (lostK Z) := ⟨_, rfl⟩
    rw [← hcc] at n1 n2 hc
    have u1 : c * 2 ^ lostK Z ≤ (x * 2 ^ 29 + 2 ^ 24) * 2 ^ lostK Z := by
      rw [Nat.add_mul]
      clear hc hcc hx hlo
      generalize c * 2 ^ lostK Z = cE at n1 n2 ⊢
      generalize x * 2 ^ 29 * 2 ^ lostK Z = xE at hX ⊢
      generalize n * 2 ^ k2 = yE at hX hY
      generalize 2 ^ lostK Z = E at n1 n2 hY ⊢
      omega
    have u2 : x * 2 ^ 29 * 2 ^ lostK Z ≤ (c + 2 ^ 24) * 2 ^ lostK Z := by
      rw [Nat.add_mul]
      clear hc hcc hx hlo
      generalize c * 2 ^ lostK Z = cE at n1 n2 ⊢
      generalize x * 2 ^ 29 * 2 ^ lostK Z = xE at hX ⊢
      generalize n * 2 ^ k2 = yE at hX hY
      generalize 2 ^ lostK Z = E at n1 n2 hY ⊢
      omega
    have v1 := Nat.le_of_mul_le_mul_right u1 hE
    have v2 := Nat.le_of_mul_le_mul_right u2 hE
    omega
theorem sum_mid {s t : Bool} {m n k1 k2 Z : Nat} (hm : m < 16777216) (hn : n < 16777216) (h1 : 925 ≤ k1) (h2 : 925 ≤ k2) (hZe : Z = (Ieee.signed s m k1 + Ieee.signed t n k2).natAbs) (hK : 0 < lostK Z)
    (hmod : rne Z (lostK Z) * 2 ^ lostK Z % 2 ^ max (Z.log2 - 23) 925 = 2 ^ (max (Z.log2 - 23) 925 - 1)) : rne Z (lostK Z) * 2 ^ lostK Z = Z := by
  rcases Nat.le_total k2 k1 with g | g
  · exact sum_mid_le hm hn g h2 hZe hK hmod
  · rw [Int.add_comm] at hZe
    exact sum_mid_le hn hm g h1 hZe hK hmod

/-- No quotient of two samples lies near a half-way number without being one. -/
theorem quo_mid {m n A K : Nat} (hn0 : 0 < n) (hn : n < 16777216) (hA : 37 ≤ A) (hK : K = 8 ∨ K = 9) (hd : 2 ^ (K + 28) ∣ rne (sqV m n A) K * 2 ^ K) : rne (sqV m n A) K * 2 ^ K = sqV m n A := by
  obtain ⟨n1, n2⟩ := rne_near (sqV m n A) K
  have hE : 2 ^ K ≤ 512 := by rcases hK with h | h <;> rw [h] <;> decide
  have hd36 : 2 ^ 36 ∣ rne (sqV m n A) K * 2 ^ K := Nat.dvd_trans (Nat.pow_dvd_pow 2 (by omega)) hd
  obtain ⟨C, hC⟩ : ∃ C, C = rne (sqV m n A) K * 2 ^ K := ⟨_, rfl⟩
  rw [← hC] at n1 n2 hd36 ⊢
  have dm := Nat.div_add_mod (m * 2 ^ A) n
  have rm := Nat.mod_lt (m * 2 ^ A) hn0
  have hS : sqV m n A = 2 * (m * 2 ^ A / n) + if m * 2 ^ A % n = 0 then 0 else 1 := rfl
  obtain ⟨S, hSe⟩ : ∃ S, S = sqV m n A := ⟨_, rfl⟩
  rw [← hSe] at n1 n2 hS ⊢
  obtain ⟨W, hW⟩ : ∃ W, m * 2 ^ A = 2 ^ 36 * W := by
    refine ⟨m * 2 ^ (A - 36), ?_⟩
    rw [Nat.mul_left_comm, ← Nat.pow_add, show 36 + (A - 36) = A by omega]
  obtain ⟨v, hv⟩ := hd36
  obtain ⟨q, hq⟩ : ∃ q, q = m * 2 ^ A / n := ⟨_, rfl⟩
  obtain ⟨r, hr⟩ : ∃ r, r = m * 2 ^ A % n := ⟨_, rfl⟩
  rw [← hq, ← hr] at dm hS
  rw [← hr] at rm
  -- n * S lies within n of 2 m 2^A
  have s1 : n * S = 2 * (n * q) + n * (if r = 0 then 0 else 1) := by
    rw [hS, Nat.mul_add, Nat.mul_left_comm]
  have s2 : n * (if r = 0 then 0 else 1) = if r = 0 then 0 else n := by split <;> simp
  rw [s2] at s1
  have c1 : n * C ≤ n * (S + 256) := Nat.mul_le_mul_left _ (by omega)
  have c2 : n * S ≤ n * (C + 256) := Nat.mul_le_mul_left _ (by omega)
  rw [Nat.mul_add] at c1 c2
  have e1 : n * C = 2 ^ 36 * (n * v) := by rw [hv, Nat.mul_left_comm]
  have key : n * v = 2 * W := by
    generalize n * v = nv at e1
    generalize n * C = nC at *
    generalize n * S = nS at *
    generalize n * q = nq at *
    split at s1 <;> omega
  -- so the quotient is exact
  have e2 : n * C = 2 * (m * 2 ^ A) := by rw [e1, key, hW]; omega
  have e3 : n * (C / 2) = m * 2 ^ A := by
    have : C = 2 * (C / 2) := by omega
    have e4 : n * C = 2 * (n * (C / 2)) := by rw [← Nat.mul_left_comm, ← this]
    omega
  have hr0 : r = 0 := by rw [hr, ← e3, Nat.mul_mod_right]
  have hq2 : q = C / 2 := by rw [hq, ← e3, Nat.mul_div_cancel_left _ hn0]
  rw [hS, hr0, if_pos rfl, hq2]
  omega
end Go.Proofs.YtkgojnjlfkijiaaGreat
