/- What the reference's DivNum and Div return of whatever samples. -/
import Derived.Test.YtjjjgdpgfndbdaaDoorGb07b2f7f
import Derived.Test.YtjjjgdpgfndbdaaDoorG66aa5247
import Derived.Test.YtjjjgdpgfndbdaaDoorG57c957d4
namespace Go.Proofs.YtjjjgdpgfndbdaaDoor
open Go.RowKit

/-- The quotient, cut behind its digits, and whether something is left. -/
def divR : RNum → RNum → RNum
  | ⟨none⟩, _ => .nan
  | ⟨some (.inl _)⟩, ⟨none⟩ => .nan
  | ⟨some (.inr _)⟩, ⟨none⟩ => .nan
  | ⟨some (.inl _)⟩, ⟨some (.inl _)⟩ => .nan
  | ⟨some (.inl s)⟩, ⟨some (.inr (t, _))⟩ => .inf (s != t)
  | ⟨some (.inr (s, _))⟩, ⟨some (.inl t)⟩ => .fin (s != t) 0 0 false
  | ⟨some (.inr (s, n, e, m))⟩, ⟨some (.inr (t, k, f, g))⟩ =>
    if zeroB (.fin s n e m) = true ∨ zeroB (.fin t k f g) = true then (if zeroB (.fin t k f g) = true then (if zeroB (.fin s n e m) = true then .nan else .inf (s != t)) else .fin (s != t) 0 0 false)
    else .fin (s != t) (n * 2 ^ shV n k / k) (e - f - (shV n k : Int)) (!decide (n * 2 ^ shV n k % k = 0))

theorem divnum_any (va vb : Value) (x y : RNum) (w : World) (hx : NumAt w va x) (hy : NumAt w vb y) (fx : few x) (fy : few y) :
    Calls Tryd.prog 92 #[va, vb] w fun e w' => ∃ v, e = .returned v ∧ NumAt w' v (divR x y) ∧ Q w w' := by
  cases x using RNum.rec3 with
  | nan => exact div_nan1 va vb y w hx hy
  | inf s =>
    cases y using RNum.rec3 with
    | nan => exact div_nan2 va vb _ w hx hy (fun k s' p L C e m h => by
        obtain ⟨e', m', h'⟩ := hx
        rw [h'] at h
        intro hk
        rw [hk] at h
        simp at h)
    | inf t => exact div_infinf va vb s t w hx hy
    | fin t n f g => exact div_inffin va vb s t n f g w hx hy
  | fin s n e m =>
    cases y using RNum.rec3 with
    | nan => exact div_nan2 va vb _ w hx hy (fun k s' p L C e' m' h => by
        obtain ⟨nv, h', hn⟩ := hx
        rw [h'] at h
        intro hk
        rw [hk] at h
        simp at h)
    | inf t => exact div_fininf va vb s t n e m w hx hy
    | fin t k f g =>
      show Calls Tryd.prog 92 #[va, vb] w fun x w' => ∃ v, x = .returned v ∧ NumAt w' v (if zeroB (.fin s n e m) = true ∨ zeroB (.fin t k f g) = true then (if zeroB (.fin t k f g) = true then (if zeroB (.fin s n e m) = true then .nan else .inf (s != t)) else .fin (s != t) 0 0 false) else .fin (s != t) (n * 2 ^ shV n k / k) (e - f - (shV n k : Int)) (!decide (n * 2 ^ shV n k % k = 0))) ∧ Q w w'
      by_cases hz : zeroB (.fin s n e m) = true ∨ zeroB (.fin t k f g) = true
      · rw [if_pos hz]; exact div_nought va vb s t n k e f m g w hx hy hz
      · rw [if_neg hz]
        obtain ⟨a1, a2, a3, rfl⟩ := fx
        obtain ⟨b1, b2, b3, rfl⟩ := fy
        obtain ⟨nv, rfl, hn⟩ := hx
        obtain ⟨kv, rfl, hk⟩ := hy
        have n0 : n ≠ 0 := fun c => hz (Or.inl (by rw [c]; rfl))
        have k0 : k ≠ 0 := fun c => hz (Or.inr (by rw [c]; rfl))
        exact div_fin s t nv kv n k e f w hn hk n0 k0 a1 (by omega) (by omega) b1 (by omega) (by omega)

/-- The quotient has 60 digits and more. -/
theorem quo_big {n k : Nat} (n0 : n ≠ 0) (k0 : k ≠ 0) : 2 ^ 59 ≤ n * 2 ^ shV n k / k := by
  have hA := blen_mul_pow n0 (shV n k)
  have h1 := blen_lt k
  have h2 : 2 ^ (n * 2 ^ shV n k).log2 ≤ n * 2 ^ shV n k := Nat.log2_self_le (Nat.mul_ne_zero n0 (by have := Nat.two_pow_pos (shV n k); omega))
  have h3 : (n * 2 ^ shV n k).log2 + 1 = blen n + shV n k := by
    rw [← hA]; unfold blen
    rw [if_neg (Nat.mul_ne_zero n0 (by have := Nat.two_pow_pos (shV n k); omega))]
  rw [Nat.le_div_iff_mul_le (by omega)]
  have h4 : 2 ^ 59 * k ≤ 2 ^ 59 * 2 ^ blen k := Nat.mul_le_mul_left _ (by omega)
  rw [← Nat.pow_add] at h4
  have h5 : 2 ^ (59 + blen k) ≤ 2 ^ (n * 2 ^ shV n k).log2 := Nat.pow_le_pow_right (by decide) (by unfold shV at h3 ⊢; omega)
  omega
theorem divR_fits {x y : RNum} (fx : few x) (fy : few y) : fits (divR x y) := by
  cases x using RNum.rec3 with
  | nan => exact trivial
  | inf s => cases y using RNum.rec3 <;> exact trivial
  | fin s n e m =>
    cases y using RNum.rec3 with
    | nan => exact trivial
    | inf t => exact ⟨by decide, by decide, by decide, fun h => by cases h⟩
    | fin t k f g =>
      show fits (if zeroB (.fin s n e m) = true ∨ zeroB (.fin t k f g) = true then (if zeroB (.fin t k f g) = true then (if zeroB (.fin s n e m) = true then .nan else .inf (s != t)) else .fin (s != t) 0 0 false) else .fin (s != t) (n * 2 ^ shV n k / k) (e - f - (shV n k : Int)) (!decide (n * 2 ^ shV n k % k = 0)))
      obtain ⟨a1, a2, a3, rfl⟩ := fx
      obtain ⟨b1, b2, b3, rfl⟩ := fy
      by_cases hz : zeroB (.fin s n e false) = true ∨ zeroB (.fin t k f false) = true
      · rw [if_pos hz]
        split
        · split <;> exact trivial
        · exact ⟨by decide, by decide, by decide, fun h => by cases h⟩
      · rw [if_neg hz]
        have n0 : n ≠ 0 := fun c => hz (Or.inl (by rw [c]; rfl))
        have k0 : k ≠ 0 := fun c => hz (Or.inr (by rw [c]; rfl))
        have hq := quo_big n0 k0
        have hsh : shV n k ≤ 560 := by unfold shV; omega
        have hle : n * 2 ^ shV n k / k ≤ n * 2 ^ shV n k := Nat.div_le_self _ _
        have hbl : blen (n * 2 ^ shV n k / k) ≤ blen n + shV n k := blen_le (Nat.lt_of_le_of_lt hle (by rw [← blen_mul_pow n0]; exact blen_lt _))
        have hp : (0 : Nat) < 2 ^ 59 := by decide
        have hne : n * 2 ^ shV n k / k ≠ 0 := by omega
        refine ⟨by omega, by omega, by omega, fun _ => ⟨hne, ?_⟩⟩
        have hl : 59 ≤ (n * 2 ^ shV n k / k).log2 := (Nat.le_log2 hne).2 hq
        unfold lastOf
        rw [single_frac]
        omega

end Go.Proofs.YtjjjgdpgfndbdaaDoor
/- Plain facts: a quotient with its rest told by one bit, rounded: how many digits it has does not matter; the reference's quotients are the model's. -/
namespace Go.Proofs.YtjjjgdpgfndbdaaDoor
open Go.RowKit

/-- A quotient's digits, and one more that tells of a rest. -/
def sqV (m n A : Nat) : Nat := 2 * (m * 2 ^ A / n) + if m * 2 ^ A % n = 0 then 0 else 1
theorem sq_stick {m n B k : Nat} (hn : 0 < n) : stick (sqV m n (B + k)) (k + 1) = sqV m n B := by
  have hk := Nat.two_pow_pos k
  have e0 : m * 2 ^ (B + k) = m * 2 ^ B * 2 ^ k := by rw [Nat.pow_add, Nat.mul_assoc]
  -- the great quotient, cut, is the small one
  have e1 : m * 2 ^ (B + k) / n / 2 ^ k = m * 2 ^ B / n := by
    rw [Nat.div_div_eq_div_mul, e0, Nat.mul_div_mul_right _ _ hk]
  have d1 := Nat.div_add_mod (m * 2 ^ (B + k)) n
  have d2 := Nat.div_add_mod (m * 2 ^ B) n
  have d3 := Nat.div_add_mod (m * 2 ^ (B + k) / n) (2 ^ k)
  have r1 := Nat.mod_lt (m * 2 ^ (B + k)) hn
  have r2 := Nat.mod_lt (m * 2 ^ B) hn
  rw [e1] at d3
  obtain ⟨q, hq⟩ : ∃ q, q = m * 2 ^ B / n := ⟨_, rfl⟩
  obtain ⟨Q', hQ⟩ : ∃ Q', Q' = m * 2 ^ (B + k) / n := ⟨_, rfl⟩
  obtain ⟨r, hr⟩ : ∃ r, r = m * 2 ^ B % n := ⟨_, rfl⟩
  obtain ⟨R, hR⟩ : ∃ R, R = m * 2 ^ (B + k) % n := ⟨_, rfl⟩
  obtain ⟨t, ht⟩ : ∃ t, t = Q' % 2 ^ k := ⟨_, rfl⟩
  unfold stick sqV
  rw [← hQ, ← hR, ← hq, ← hr]
  rw [← hQ, ← hq, ← ht] at d3
  rw [← hQ, ← hR] at d1
  rw [← hq, ← hr] at d2
  have htk : t < 2 ^ k := by rw [ht]; exact Nat.mod_lt _ hk
  -- r * 2^k = n * t + R
  have key : r * 2 ^ k = n * t + R := by
    have a1 : n * Q' + R = (n * q + r) * 2 ^ k := by rw [d1, d2, e0]
    rw [← d3] at a1
    rw [Nat.mul_add, Nat.add_mul] at a1
    have a2 : n * (2 ^ k * q) = n * q * 2 ^ k := by rw [Nat.mul_comm (2 ^ k) q, Nat.mul_assoc]
    omega
  have hzero : r = 0 ↔ t = 0 ∧ R = 0 := by
    constructor
    · intro h
      rw [h, Nat.zero_mul] at key
      have k1 : n * t = 0 := by omega
      rcases Nat.mul_eq_zero.1 k1 with h' | h'
      · omega
      · exact ⟨h', by omega⟩
    · rintro ⟨h1, h2⟩
      rw [h1, h2, Nat.mul_zero] at key
      rcases Nat.mul_eq_zero.1 key with h' | h'
      · exact h'
      · omega
  have ep : 2 ^ (k + 1) = 2 * 2 ^ k := by rw [Nat.pow_succ]; omega
  obtain ⟨b, hb⟩ : ∃ b, b = if R = 0 then 0 else 1 := ⟨_, rfl⟩
  have hb2 : b < 2 := by rw [hb]; split <;> omega
  rw [← hb]
  have f1 : (2 * Q' + b) / 2 ^ (k + 1) = q := by
    rw [ep, ← Nat.div_div_eq_div_mul, show (2 * Q' + b) / 2 = Q' by omega, hQ, e1, hq]
  have f2 : (2 * Q' + b) % 2 ^ (k + 1) = 2 * t + b := by
    have g := Nat.div_add_mod (2 * Q' + b) (2 ^ (k + 1))
    rw [f1, ep] at g
    rw [ep]
    have g2 : 2 * 2 ^ k * q = 2 * (2 ^ k * q) := Nat.mul_assoc _ _ _
    omega
  rw [f1, f2]
  have hbR : b = 0 ↔ R = 0 := by rw [hb]; split <;> omega
  by_cases h : r = 0
  · obtain ⟨h1, h2⟩ := hzero.1 h
    rw [if_pos h, if_pos (by have := hbR.2 h2; omega)]
  · rw [if_neg h, if_neg]
    intro h'
    exact h (hzero.2 ⟨by omega, hbR.1 (by omega)⟩)
theorem sq_link (f : Ieee.Format) {m n A B : Nat} (x : Int) (hn : 0 < n) (hA : B ≤ A) (hq : 2 ^ (f.fractionBits + 1) ≤ m * 2 ^ B / n) :
    rungOf f (sqV m n A) (x - A - 1) = rungOf f (sqV m n B) (x - B - 1) := by
  obtain ⟨k, rfl⟩ : ∃ k, A = B + k := ⟨A - B, by omega⟩
  have e1 : m * 2 ^ (B + k) / n / 2 ^ k = m * 2 ^ B / n := by
    rw [Nat.div_div_eq_div_mul, Nat.pow_add, ← Nat.mul_assoc, Nat.mul_div_mul_right _ _ (Nat.two_pow_pos k)]
  have h1 : 2 ^ (f.fractionBits + 1 + k) ≤ m * 2 ^ (B + k) / n := by
    rw [Nat.pow_add]
    rw [← e1] at hq
    exact (Nat.le_div_iff_mul_le (Nat.two_pow_pos k)).1 hq
  have h2 : 2 ^ (f.fractionBits + 2 + k) ≤ sqV m n (B + k) := by
    unfold sqV
    rw [show f.fractionBits + 2 + k = f.fractionBits + 1 + k + 1 by omega, Nat.pow_succ]
    omega
  have hM : sqV m n (B + k) ≠ 0 := by have := Nat.two_pow_pos (f.fractionBits + 2 + k); omega
  have hlog : f.fractionBits + 2 + k ≤ (sqV m n (B + k)).log2 := (Nat.le_log2 hM).2 h2
  have := rung_stick f (M := sqV m n (B + k)) (k := k + 1) (x - (B + k : Nat) - 1) (by omega) hM (by unfold lastOf; omega)
  rw [sq_stick hn] at this
  rw [← this]
  congr 1; omega
theorem quo_digits {m n : Nat} (hm : m ≠ 0) (hn : n ≠ 0) {d : Nat} (h0 : 0 < d) : 2 ^ (d - 1) ≤ m * 2 ^ (d + n.log2 - m.log2) / n := by
  rw [Nat.le_div_iff_mul_le (by omega)]
  have h1 := Nat.log2_self_le hm
  have h2 : n < 2 ^ (n.log2 + 1) := Nat.lt_log2_self
  have a1 : 2 ^ (d - 1) * n < 2 ^ (d - 1) * 2 ^ (n.log2 + 1) := Nat.mul_lt_mul_of_pos_left h2 (Nat.two_pow_pos _)
  rw [← Nat.pow_add, show d - 1 + (n.log2 + 1) = d + n.log2 by omega] at a1
  have a2 : 2 ^ m.log2 * 2 ^ (d + n.log2 - m.log2) ≤ m * 2 ^ (d + n.log2 - m.log2) := Nat.mul_le_mul_right _ h1
  rw [← Nat.pow_add] at a2
  have a3 : 2 ^ (d + n.log2) ≤ 2 ^ (m.log2 + (d + n.log2 - m.log2)) := Nat.pow_le_pow_right (by decide) (by omega)
  omega
theorem zeroB_fin (s : Bool) (n : Nat) (e : Int) : zeroB (.fin s n e false) = decide (n = 0) := by
  unfold zeroB; cases n <;> rfl
theorem bne_xor (s t : Bool) : (s != t) = (s ^^ t) := by cases s <;> cases t <;> rfl
theorem sq_not (m n A : Nat) : 2 * (m * 2 ^ A / n) + (!decide (m * 2 ^ A % n = 0)).toNat = sqV m n A := by
  unfold sqV
  by_cases h : m * 2 ^ A % n = 0
  · rw [decide_eq_true h, if_pos h]; rfl
  · rw [decide_eq_false h, if_neg h]; rfl
theorem sq_model (m n A : Nat) : 2 * ((m <<< A) / n) + ((m <<< A) % n != 0).toNat = sqV m n A := by
  unfold sqV
  rw [Nat.shiftLeft_eq]
  by_cases h : m * 2 ^ A % n = 0
  · rw [if_pos h, h]; rfl
  · rw [if_neg h, bne_iff_ne.2 h]; rfl
/-- Quotients. -/
theorem div_link (d d' : Ieee.Datum) : roundR (divR (datumR d) (datumR d')) = toldD (d.quotient 25 d') := by
  cases d with
  | nan s t => cases d' <;> rfl
  | infinity s =>
    cases d' with
    | nan t f => rfl
    | infinity t => rfl
    | number t n j =>
      show Ieee.single.word (s != t) 2139095040 = Ieee.single.word (s ^^ t) Ieee.single.infRung
      rw [single_inf, bne_xor]
  | number s m i =>
    cases d' with
    | nan t f => rfl
    | infinity t =>
      show roundR (.fin (s != t) 0 0 false) = Ieee.single.nearest (s ^^ t) 0 0
      rw [roundR_fin, bne_xor]
    | number t n j =>
      show roundR (divR (.fin s m i false) (.fin t n j false)) = _
      unfold divR
      dsimp only
      rw [zeroB_fin, zeroB_fin]
      simp only [decide_eq_true_eq]
      by_cases hn : n = 0
      · rw [if_pos (Or.inr hn), if_pos hn]
        by_cases hm : m = 0
        · rw [if_pos hm, show (Ieee.Datum.number s m i).quotient 25 (.number t n j) = none from by simp [Ieee.Datum.quotient, hn, hm]]; rfl
        · rw [if_neg hm, show (Ieee.Datum.number s m i).quotient 25 (.number t n j) = some (.infinity (s ^^ t)) from by simp [Ieee.Datum.quotient, hn, hm]]
          show Ieee.single.word (s != t) 2139095040 = Ieee.single.word (s ^^ t) Ieee.single.infRung
          rw [single_inf, bne_xor]
      · have em : (Ieee.Datum.number s m i).quotient 25 (.number t n j) = some (.number (s ^^ t) (sqV m n (25 + n.log2 - m.log2)) (i - j - ((25 + n.log2 - m.log2 : Nat) : Int) - 1)) := by
          rw [← sq_model]
          simp [Ieee.Datum.quotient, hn]
        rw [em]
        show _ = Ieee.single.nearest _ _ _
        rw [nearest_rung]
        by_cases hm : m = 0
        · rw [if_pos (Or.inl hm), if_neg hn, roundR_fin, nearest_rung, bne_xor]
          have z : sqV m n (25 + n.log2 - m.log2) = 0 := by unfold sqV; rw [hm, Nat.zero_mul, Nat.zero_div, Nat.zero_mod, if_pos rfl]
          rw [z]; unfold rungOf; rw [if_pos rfl, if_pos rfl]
        · rw [if_neg (by simp [hn, hm]), bne_xor]
          show Ieee.single.word _ (rungOf Ieee.single (2 * (m * 2 ^ shV m n / n) + (!decide (m * 2 ^ shV m n % n = 0)).toNat) (i - j - (shV m n : Int) - 1)) = _
          rw [sq_not]
          congr 1
          refine sq_link Ieee.single (i - j) (by omega) ?_ ?_
          · unfold shV blen
            rw [if_neg hn, if_neg hm]; omega
          · exact quo_digits hm hn (d := 25) (by omega)
end Go.Proofs.YtjjjgdpgfndbdaaDoor
/- What the reference's Of returns at binary64, and F64. -/
namespace Go.Proofs.YtjjjgdpgfndbdaaDoor
open Go.RowKit

set_option maxHeartbeats 800000 in
theorem f64_any (w : World) : Calls Tryd.prog 49 #[] w fun e w' => e = .returned (.agg #[.int .i64 52, .int .i64 11]) ∧ Q w w' := by
  go_enter Tryd.func49, Tryd.ntmps49
  go_wp2
  exact bodyPost_ret (v := .agg #[.int .i64 52, .int .i64 11]) (by simp [results, Tryd.results49, go_sem]) rfl ⟨rfl, (Q.refl w).cells _ _⟩

theorem numOf_nan64 {b : Nat} (h1 : b / 4503599627370496 % 2048 = 2047) (h2 : b % 4503599627370496 ≠ 0) : numOf Ieee.double b = .nan := by
  unfold numOf Ieee.Format.read
  simp only [double_sign, double_binade, double_inf, double_least]
  rw [if_neg (by omega), if_neg (by omega), if_neg (by omega)]
theorem numOf_inf64 {b : Nat} (h1 : b / 4503599627370496 % 2048 = 2047) (h2 : b % 4503599627370496 = 0) : numOf Ieee.double b = .inf (b / 9223372036854775808 % 2 == 1) := by
  unfold numOf Ieee.Format.read
  simp only [double_sign, double_binade, double_inf, double_least]
  rw [if_neg (by omega), if_neg (by omega), if_pos (by omega)]
theorem numOf_small64 {b : Nat} (h1 : b / 4503599627370496 % 2048 = 0) : numOf Ieee.double b = .fin (b / 9223372036854775808 % 2 == 1) (b % 4503599627370496) (-1074) false := by
  unfold numOf Ieee.Format.read
  simp only [double_sign, double_binade, double_inf, double_least]
  rw [if_pos (by omega)]
  have : b % 9223372036854775808 = b % 4503599627370496 := by omega
  rw [this]
theorem numOf_norm64 {b : Nat} (h1 : b / 4503599627370496 % 2048 ≠ 0) (h2 : b / 4503599627370496 % 2048 ≠ 2047) :
    numOf Ieee.double b = .fin (b / 9223372036854775808 % 2 == 1) (b % 4503599627370496 + 4503599627370496) (((b / 4503599627370496 % 2048 : Nat) : Int) - 1075) false := by
  unfold numOf Ieee.Format.read
  simp only [double_sign, double_binade, double_inf, double_least]
  rw [if_neg (by omega), if_pos (by omega)]
  have e1 : 4503599627370496 + b % 9223372036854775808 % 4503599627370496 = b % 4503599627370496 + 4503599627370496 := by omega
  have e2 : (-1074 : Int) + ((b % 9223372036854775808 / 4503599627370496 - 1 : Nat) : Int) = ((b / 4503599627370496 % 2048 : Nat) : Int) - 1075 := by omega
  rw [e1, e2]

/-- The bits of a binary64 word among 64. -/
theorem of_bits64 {b : Nat} (hb : b < 18446744073709551616) :
    bits .and .u64 ((b : Int) / 9223372036854775808) 1 = ((b / 9223372036854775808 % 2 : Nat) : Int) ∧
    bits .and .u64 ((b : Int) / 4503599627370496) 2047 = ((b / 4503599627370496 % 2048 : Nat) : Int) ∧
    bits .and .u64 (b : Int) 4503599627370495 = ((b % 4503599627370496 : Nat) : Int) ∧
    bits .or .u64 ((b % 4503599627370496 : Nat) : Int) 4503599627370496 = ((b % 4503599627370496 + 4503599627370496 : Nat) : Int) := by
  refine ⟨?_, ?_, ?_, ?_⟩
  · have := u64_and1 (x := b / 9223372036854775808) (by omega)
    exact this
  · have : bits .and .u64 ((b : Int) / 4503599627370496) 2047 = (b : Int) / 4503599627370496 % 2048 := by go_bits2
    rw [this]; omega
  · have : bits .and .u64 (b : Int) 4503599627370495 = (b : Int) % 4503599627370496 := by go_bits2
    rw [this]; omega
  · rw [show (4503599627370496 : Int) = ((4503599627370496 : Nat) : Int) from rfl, u64_or_nat _ _ (by omega) (by decide), Nat.or_comm,
      show (4503599627370496 : Nat) = 2 ^ 52 * 1 from rfl, ← Nat.two_pow_add_eq_or_of_lt (i := 52) (by omega) 1]
    omega

set_option maxHeartbeats 4000000 in
theorem of64_any (b : Nat) (w : World) (hb : b < 18446744073709551616) :
    Calls Tryd.prog 53 #[.agg #[.int .i64 52, .int .i64 11], .int .u64 b] w fun e w' => ∃ v, e = .returned v ∧ NumAt w' v (numOf Ieee.double b) ∧ Q w w' := by
  obtain ⟨e1, e2, e3, e4⟩ := of_bits64 hb
  obtain ⟨sg, hsg⟩ : ∃ sg : Nat, sg = b / 9223372036854775808 % 2 := ⟨_, rfl⟩
  obtain ⟨ex, hex⟩ : ∃ ex : Nat, ex = b / 4503599627370496 % 2048 := ⟨_, rfl⟩
  obtain ⟨fr, hfr⟩ : ∃ fr : Nat, fr = b % 4503599627370496 := ⟨_, rfl⟩
  rw [← hsg] at e1
  rw [← hex] at e2
  rw [← hfr] at e3 e4
  have xb : ex ≤ 2047 := by omega
  have fb : fr < 4503599627370496 := by omega
  have esg : ((sg : Int) == 1) = (b / 9223372036854775808 % 2 == 1) := by
    rw [← hsg]
    rcases (by omega : sg = 0 ∨ sg = 1) with e | e <;> rw [e] <;> rfl
  have HSG : Hid _ := esg
  have hcase : (ex = 2047 ∧ fr ≠ 0 ∧ Hid (numOf Ieee.double b = .nan)) ∨ (ex = 2047 ∧ fr = 0 ∧ Hid (numOf Ieee.double b = .inf (b / 9223372036854775808 % 2 == 1))) ∨
      (ex = 0 ∧ Hid (numOf Ieee.double b = .fin (b / 9223372036854775808 % 2 == 1) fr (-1074) false)) ∨ (ex ≠ 0 ∧ ex ≠ 2047 ∧ Hid (numOf Ieee.double b = .fin (b / 9223372036854775808 % 2 == 1) (fr + 4503599627370496) ((ex : Int) - 1075) false)) := by
    by_cases h1 : ex = 2047
    · by_cases h2 : fr = 0
      · exact Or.inr (Or.inl ⟨h1, h2, numOf_inf64 (by omega) (by omega)⟩)
      · exact Or.inl ⟨h1, h2, numOf_nan64 (by omega) (by omega)⟩
    · by_cases h3 : ex = 0
      · exact Or.inr (Or.inr (Or.inl ⟨h3, by rw [hfr]; exact numOf_small64 (by omega)⟩))
      · exact Or.inr (Or.inr (Or.inr ⟨h3, h1, by rw [hfr, hex]; exact numOf_norm64 (by omega) (by omega)⟩))
  clear hsg hex hfr esg
  have w1 : IntKind.u64.wrap 2047 = 2047 := by decide
  have w2 : IntKind.u64.wrap 4503599627370496 = 4503599627370496 := by decide
  have w3 : IntKind.u64.wrap 4503599627370495 = 4503599627370495 := by decide
  have w4 : IntKind.i64.wrap (-1074) = -1074 := by decide
  rcases hcase with ⟨rfl, h2, HR⟩ | ⟨rfl, rfl, HR⟩ | ⟨rfl, HR⟩ | ⟨h1, h2, HR⟩
  · have h2b : ((fr : Int) != 0) = true := by simp; omega
    go_enter Tryd.func53, Tryd.ntmps53
    go_wp2_with fail
    go_region_held3 (fun w' => w'.cell? ⟨w.heap.size, 0, none⟩ = some (.int .i64 52) ∧ w'.cell? ⟨w.heap.size, 1, none⟩ = some (.int .i64 11)) (first | (simp [go_sem]; done) | go_keep) (first | (go_at_call 79; refine (top_any 52 11 2047 (by decide) _).mono ?_; rintro e w1 ⟨rfl, rfl⟩))
    go_wp2_with fail
    refine (top_any 52 11 2047 (by decide) _).mono ?_
    rintro e v1 ⟨rfl, rfl⟩
    go_wp2_with fail
    refine bodyPost_ret (v := .agg #[.int .i64 0, .bool false, .slice none 0 0, .int .i64 0, .bool false]) (by simp [results, Tryd.results53, go_sem]) rfl ⟨_, rfl, ?_, ?_⟩
    · rw [HR.out]; exact ⟨_, _, _, rfl⟩
    · exact (((((Q.refl w).cells _ _).cells _ _).cells _ _).cells _ _).drew
  · go_enter Tryd.func53, Tryd.ntmps53
    go_wp2_with fail
    go_region_held3 (fun w' => w'.cell? ⟨w.heap.size, 0, none⟩ = some (.int .i64 52) ∧ w'.cell? ⟨w.heap.size, 1, none⟩ = some (.int .i64 11)) (first | (simp [go_sem]; done) | go_keep) (first | (go_at_call 79; refine (top_any 52 11 2047 (by decide) _).mono ?_; rintro e w1 ⟨rfl, rfl⟩))
    go_wp2_with fail
    refine (top_any 52 11 2047 (by decide) _).mono ?_
    rintro e v1 ⟨rfl, rfl⟩
    go_wp2_with fail
    refine bodyPost_ret (v := .agg #[.int .i64 1, .bool ((sg : Int) == 1), .slice none 0 0, .int .i64 0, .bool false]) (by simp [results, Tryd.results53, go_sem]) rfl ⟨_, rfl, ?_, ?_⟩
    · rw [HR.out, HSG.out]; exact ⟨_, _, rfl⟩
    · exact (((((Q.refl w).cells _ _).cells _ _).cells _ _).cells _ _).drew
  · go_enter Tryd.func53, Tryd.ntmps53
    go_wp2_with fail
    go_region_held3 (fun w' => w'.cell? ⟨w.heap.size, 0, none⟩ = some (.int .i64 52) ∧ w'.cell? ⟨w.heap.size, 1, none⟩ = some (.int .i64 11)) (first | (simp [go_sem]; done) | go_keep) (first | (go_at_call 79; refine (top_any 52 11 2047 (by decide) _).mono ?_; rintro e w1 ⟨rfl, rfl⟩))
    go_wp2_with fail
    refine (top_any 52 11 2047 (by decide) _).mono ?_
    rintro e v1 ⟨rfl, rfl⟩
    go_wp2_with fail
    go_region_held3 (fun w' => w'.cell? ⟨w.heap.size, 0, none⟩ = some (.int .i64 52) ∧ w'.cell? ⟨w.heap.size, 1, none⟩ = some (.int .i64 11)) (first | (simp [go_sem]; done) | go_keep) (first | (go_at_call 86; refine (natof_any fr _ (by omega)).mono ?_; rintro e w1 ⟨C, rfl, rfl⟩) | (go_at_call 80; refine (bias_any 52 11 1075 (by decide) _).mono ?_; rintro e w1 ⟨rfl, rfl⟩))
    all_goals
      go_wp2
      refine bodyPost_ret (v := .agg #[.int .i64 2, .bool ((sg : Int) == 1), .slice (some ⟨w.heap.size + 1 + 1 + 1 + 1, 0, none⟩) (len64 fr) C, .int .i64 (-1074), .bool false]) (by simp [results, Tryd.results53, go_sem]) rfl ⟨_, rfl, ?_, ?_⟩
      · rw [HR.out, HSG.out]
        exact ⟨_, rfl, natAt_two (by omega) (by simp [go_sem]) (by simp [go_sem])⟩
      · exact (((((((Q.refl w).cells _ _).cells _ _).cells _ _).cells _ _).cells _ _).cells _ _).drew.drew.drew
  · have h1b : ((ex : Int) == 2047) = false := by simp; omega
    have h2b : ((ex : Int) == 0) = false := by simp; omega
    obtain ⟨M, hM⟩ : ∃ M, M = fr + 4503599627370496 := ⟨_, rfl⟩
    rw [← hM] at e4
    have hMb : M < 18446744073709551616 := by omega
    have w5 : IntKind.i64.wrap ((ex : Int) - 1075) = (ex : Int) - 1075 := by rw [IntKind.wrap_i64]; omega
    have w6 : IntKind.i64.wrap (ex : Int) = (ex : Int) := by rw [IntKind.wrap_i64]; omega
    have HM : Hid _ := hM
    clear hM
    go_enter Tryd.func53, Tryd.ntmps53
    go_wp2_with fail
    go_region_held3 (fun w' => w'.cell? ⟨w.heap.size, 0, none⟩ = some (.int .i64 52) ∧ w'.cell? ⟨w.heap.size, 1, none⟩ = some (.int .i64 11)) (first | (simp [go_sem]; done) | go_keep) (first | (go_at_call 79; refine (top_any 52 11 2047 (by decide) _).mono ?_; rintro e w1 ⟨rfl, rfl⟩))
    go_wp2_with fail
    refine (top_any 52 11 2047 (by decide) _).mono ?_
    rintro e v1 ⟨rfl, rfl⟩
    go_wp2_with fail
    go_region_held3 (fun w' => w'.cell? ⟨w.heap.size, 0, none⟩ = some (.int .i64 52) ∧ w'.cell? ⟨w.heap.size, 1, none⟩ = some (.int .i64 11)) (first | (simp [go_sem]; done) | go_keep) (first | (go_at_call 86; refine (natof_any M _ hMb).mono ?_; rintro e w1 ⟨C, rfl, rfl⟩) | (go_at_call 80; refine (bias_any 52 11 1075 (by decide) _).mono ?_; rintro e w1 ⟨rfl, rfl⟩))
    all_goals
      go_wp2
      refine bodyPost_ret (v := .agg #[.int .i64 2, .bool ((sg : Int) == 1), .slice (some ⟨w.heap.size + 1 + 1 + 1 + 1, 0, none⟩) (len64 M) C, .int .i64 ((ex : Int) - 1075), .bool false]) (by simp [results, Tryd.results53, go_sem]) rfl ⟨_, rfl, ?_, ?_⟩
      · rw [HR.out, HSG.out, ← HM.out]
        exact ⟨_, rfl, natAt_two hMb (by simp [go_sem]) (by simp [go_sem])⟩
      · exact (((((((Q.refl w).cells _ _).cells _ _).cells _ _).cells _ _).cells _ _).cells _ _).drew.drew.drew
end Go.Proofs.YtjjjgdpgfndbdaaDoor
/- Plain facts: the reference's word of binary64, put together. -/
namespace Go.Proofs.YtjjjgdpgfndbdaaDoor
open Go.RowKit

/-- The word that the reference puts together. -/
theorem or_word_64 {neg : Bool} {r : Nat} (hr : r < 9223372036854775808) : bits .or .u64 (signV true neg) (r : Int) = ((Ieee.double.word neg r : Nat) : Int) := by
  unfold Ieee.Format.word signV
  rw [double_sign]
  cases neg
  · show bits .or .u64 ((0 : Nat) : Int) (r : Int) = _
    rw [u64_or_nat _ _ (by decide) (by omega), Nat.zero_or]; rfl
  · show bits .or .u64 ((9223372036854775808 : Nat) : Int) (r : Int) = _
    rw [u64_or_nat _ _ (by decide) (by omega), show (9223372036854775808 : Nat) = 2 ^ 63 * 1 from rfl, ← Nat.two_pow_add_eq_or_of_lt (i := 63) hr 1]
    rfl
theorem or_word2_64 {neg : Bool} {x fr : Nat} (hx : x < 2048) (hf : fr < 4503599627370496) :
    bits .or .u64 ((Ieee.double.word neg (x * 4503599627370496) : Nat) : Int) (fr : Int) = ((Ieee.double.word neg (x * 4503599627370496 + fr) : Nat) : Int) := by
  have e : Ieee.double.word neg (x * 4503599627370496) = 2 ^ 52 * ((if neg = true then 2048 else 0) + x) := by
    unfold Ieee.Format.word; rw [double_sign]; cases neg <;> simp <;> omega
  have e2 : Ieee.double.word neg (x * 4503599627370496 + fr) = 2 ^ 52 * ((if neg = true then 2048 else 0) + x) + fr := by
    unfold Ieee.Format.word; rw [double_sign]; cases neg <;> simp <;> omega
  have hb : (if neg = true then 2048 else 0) ≤ 2048 := by split <;> omega
  rw [e2, e, u64_or_nat _ _ (by omega) (by omega), ← Nat.two_pow_add_eq_or_of_lt (i := 52) hf]
theorem word_lt_64 {neg : Bool} {r : Nat} (hr : r < 9223372036854775808) : Ieee.double.word neg r < 18446744073709551616 := by
  unfold Ieee.Format.word; rw [double_sign]; split <;> omega

/-- Carried where it must be: what is kept, and its place. -/
theorem carried_64 {n K : Nat} {T : Int} {R : Nat} (h1 : K ≤ 2 * 4503599627370496) (h2 : -1074 ≤ T) (h3 : K < 4503599627370496 → T = -1074 ∨ n = 0) (h0 : n = 0 → K = 0)
    (h4 : R = if n = 0 then 0 else min ((T - -1074).toNat * 4503599627370496 + K) 9218868437227405312) :
    ∃ (K' : Nat) (T' : Int), K' < 9007199254740992 ∧ -1074 ≤ T' ∧ T' ≤ T + 1 ∧ ((K = 9007199254740992 ∧ K' = 4503599627370496 ∧ T' = T + 1) ∨ (K < 9007199254740992 ∧ K' = K ∧ T' = T)) ∧
      (K' < 4503599627370496 → R = K') ∧ (4503599627370496 ≤ K' → R = min ((T' + 1074).toNat * 4503599627370496 + K') 9218868437227405312) := by
  by_cases hK : K = 9007199254740992
  · refine ⟨4503599627370496, T + 1, by decide, by omega, by omega, Or.inl ⟨hK, rfl, rfl⟩, fun h => absurd h (by decide), fun _ => ?_⟩
    have : n ≠ 0 := fun e => by have := h0 e; omega
    rw [h4, if_neg this]
    have e1 : (T + 1 + 1074).toNat = (T - -1074).toNat + 1 := by omega
    have e2 : ∀ y : Nat, y * 4503599627370496 + 9007199254740992 = (y + 1) * 4503599627370496 + 4503599627370496 := fun y => by omega
    rw [e1, hK, e2]
  · refine ⟨K, T, by omega, h2, by omega, Or.inr ⟨by omega, rfl, rfl⟩, fun h => ?_, fun h => ?_⟩
    · rw [h4]
      by_cases hn : n = 0
      · rw [if_pos hn, h0 hn]
      · rw [if_neg hn]
        rcases h3 h with g | g
        · rw [g]; simp; omega
        · exact absurd g hn
    · have : n ≠ 0 := fun e => by have := h0 e; omega
      rw [h4, if_neg this]
      rw [show (T - -1074).toNat = (T + 1074).toNat by omega]
end Go.Proofs.YtjjjgdpgfndbdaaDoor
