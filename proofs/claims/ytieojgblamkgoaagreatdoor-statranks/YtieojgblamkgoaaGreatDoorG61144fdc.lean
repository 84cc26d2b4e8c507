/- Plain facts: the reference's quotients in binary64, made narrow, are those of samples. -/
import Derived.Test.YtieojgblamkgoaaGreatDoorG59477670
import Derived.Test.YtieojgblamkgoaaGreatDoorGbbd98f2c
import Derived.Test.YtieojgblamkgoaaGreatDoorG18fb3a0f
import Derived.Test.YtieojgblamkgoaaGreatDoorGdf44e40f
namespace Go.Proofs.YtieojgblamkgoaaGreatDoor
open Go.RowKit

theorem mag_zero_iff (r : Nat) : mag32 r = 0 ↔ r = 0 := by
  constructor
  · intro c
    rcases Nat.eq_zero_or_pos r with g | g
    · exact g
    · exact absurd c (mag_ne32 (by omega))
  · intro c; rw [c]; decide
theorem sq_scale {m n j1 j2 A B : Nat} (h : A + j1 = B + j2) : sqV (m * 2 ^ j1) (n * 2 ^ j2) A = sqV m n B := by
  have e1 : m * 2 ^ j1 * 2 ^ A = m * 2 ^ B * 2 ^ j2 := by
    rw [Nat.mul_assoc, Nat.mul_assoc, ← Nat.pow_add, ← Nat.pow_add, show j1 + A = B + j2 by omega]
  unfold sqV
  rw [e1, Nat.mul_div_mul_right _ _ (Nat.two_pow_pos j2), Nat.mul_mod_mul_right]
  congr 1
  by_cases k : m * 2 ^ B % n = 0
  · rw [if_pos k, k, Nat.zero_mul, if_pos rfl]
  · rw [if_neg k, if_neg]
    intro c
    rcases Nat.mul_eq_zero.1 c with c | c
    · exact k c
    · have := Nat.two_pow_pos j2; omega
theorem roundD_more (s : Bool) (m n A : Nat) (x : Int) : roundD (.fin s (m * 2 ^ A / n) (x - (A : Int)) (!decide (m * 2 ^ A % n = 0))) = Ieee.double.word s (rungOf Ieee.double (sqV m n A) (x - A - 1)) := by
  show Ieee.double.word s (rungOf Ieee.double (2 * (m * 2 ^ A / n) + (!decide (m * 2 ^ A % n = 0)).toNat) (x - (A : Int) - 1)) = _
  rw [sq_not]
theorem roundR_more (s : Bool) (m n A : Nat) (x : Int) : roundR (.fin s (m * 2 ^ A / n) (x - (A : Int)) (!decide (m * 2 ^ A % n = 0))) = Ieee.single.word s (rungOf Ieee.single (sqV m n A) (x - A - 1)) := by
  show Ieee.single.word s (rungOf Ieee.single (2 * (m * 2 ^ A / n) + (!decide (m * 2 ^ A % n = 0)).toNat) (x - (A : Int) - 1)) = _
  rw [sq_not]
theorem divR_fin {s t : Bool} {m n : Nat} {e f : Int} (hm : m ≠ 0) (hn : n ≠ 0) : divR (.fin s m e false) (.fin t n f false) = .fin (s != t) (m * 2 ^ shV m n / n) (e - f - (shV m n : Int)) (!decide (m * 2 ^ shV m n % n = 0)) := by
  unfold divR
  dsimp only
  rw [zeroB_fin, zeroB_fin, decide_eq_false hm, decide_eq_false hn, if_neg (by decide)]
theorem divR_zero {s t : Bool} {m n : Nat} {e f : Int} (h : m = 0 ∨ n = 0) : divR (.fin s m e false) (.fin t n f false) = if n = 0 then (if m = 0 then .nan else .inf (s != t)) else .fin (s != t) 0 0 false := by
  unfold divR
  dsimp only
  rw [zeroB_fin, zeroB_fin]
  simp only [decide_eq_true_eq]
  rw [if_pos h]
theorem narrow_zero (s : Bool) : toldD (some (Ieee.double.read (roundD (.fin s 0 0 false)))) = roundR (.fin s 0 0 false) := by
  rw [roundD_fin', nearest_rung, rungOf_zero, read_word64, toldD_num, rungOf_zero, roundR_fin, nearest_rung, rungOf_zero]
theorem narrow_rinf (s : Bool) : toldD (some (Ieee.double.read (roundD (.inf s)))) = roundR (.inf s) := told_inf s
/-- Two finite samples that are not 0. -/
theorem div_dbl_fin {a b : Nat} (a0 : rung32 a ≠ 0) (ha : rung32 a < 2139095040) (b0 : rung32 b ≠ 0) (hb : rung32 b < 2139095040) :
    toldD (some (Ieee.double.read (roundD (divR (datumR (Ieee.double.read (wideN a))) (datumR (Ieee.double.read (wideN b))))))) = roundR (divR (datumR (Ieee.single.read a)) (datumR (Ieee.single.read b))) := by
  obtain ⟨L1, hL1, m0, m1, e1, hp1⟩ := wide_wd a0 ha
  obtain ⟨L2, hL2, n0, n1, e2, hp2⟩ := wide_wd b0 hb
  have hm := mag_ne32 a0
  have hn := mag_ne32 b0
  have hmb := mag_lt32 (rung32 a)
  have hnb := mag_lt32 (rung32 b)
  have full : ∀ {m L : Nat}, L ≤ 23 → 2 ^ L ≤ m → m < 2 ^ (L + 1) → 4503599627370496 ≤ m * 2 ^ (52 - L) ∧ m * 2 ^ (52 - L) < 9007199254740992 := by
    intro m L hL h0 h1
    have k1 := Nat.mul_le_mul_right (2 ^ (52 - L)) h0
    have k2 := Nat.mul_lt_mul_of_pos_right h1 (Nat.two_pow_pos (52 - L))
    rw [← Nat.pow_add, show L + (52 - L) = 52 by omega] at k1
    rw [← Nat.pow_add, show L + 1 + (52 - L) = 53 by omega] at k2
    exact ⟨k1, k2⟩
  obtain ⟨f1, f2⟩ := full hL1 m0 m1
  obtain ⟨g1, g2⟩ := full hL2 n0 n1
  rw [e1, e2, read_wd f1 f2 (by omega) (by omega), read_wd g1 g2 (by omega) (by omega), read_fin32 ha, read_fin32 hb]
  show toldD (some (Ieee.double.read (roundD (divR (.fin (sgn32 a) (mag32 (rung32 a) * 2 ^ (52 - L1)) (-149 + (plc32 (rung32 a) : Int) + L1 - 52) false) (.fin (sgn32 b) (mag32 (rung32 b) * 2 ^ (52 - L2)) (-149 + (plc32 (rung32 b) : Int) + L2 - 52) false))))) =
    roundR (divR (.fin (sgn32 a) (mag32 (rung32 a)) (-149 + (plc32 (rung32 a) : Int)) false) (.fin (sgn32 b) (mag32 (rung32 b)) (-149 + (plc32 (rung32 b) : Int)) false))
  rw [divR_fin (by omega) (by omega), divR_fin hm hn, roundD_more, roundR_more]
  obtain ⟨m, hme⟩ : ∃ m, m = mag32 (rung32 a) := ⟨_, rfl⟩
  obtain ⟨n, hne⟩ : ∃ n, n = mag32 (rung32 b) := ⟨_, rfl⟩
  obtain ⟨p, hp⟩ : ∃ p : Int, p = -149 + (plc32 (rung32 a) : Int) := ⟨_, rfl⟩
  obtain ⟨q, hq⟩ : ∃ q : Int, q = -149 + (plc32 (rung32 b) : Int) := ⟨_, rfl⟩
  rw [← hme] at hm hmb m0 m1 f1 f2 ⊢
  rw [← hne] at hn hnb n0 n1 g1 g2 ⊢
  rw [← hp, ← hq]
  have hlm : m.log2 = L1 := (Nat.log2_eq_iff hm).2 ⟨m0, m1⟩
  have hln : n.log2 = L2 := (Nat.log2_eq_iff hn).2 ⟨n0, n1⟩
  have hsh : shV (m * 2 ^ (52 - L1)) (n * 2 ^ (52 - L2)) = 60 := by
    unfold shV blen
    rw [if_neg (by omega), if_neg (by omega), log2_mul_pow hm, log2_mul_pow hn, hlm, hln]
    omega
  obtain ⟨A, hA⟩ : ∃ A : Nat, A = 60 + L2 - L1 := ⟨_, rfl⟩
  rw [hsh, sq_scale (A := 60) (B := A) (by omega)]
  -- the number of digits
  have hq1 := quo_digits hm hn (d := 60) (by decide)
  rw [hlm, hln, ← hA] at hq1
  have hq2 : m * 2 ^ A / n < 2 ^ 61 := by
    rw [Nat.div_lt_iff_lt_mul (by omega)]
    have k1 := Nat.mul_lt_mul_of_pos_right m1 (Nat.two_pow_pos A)
    rw [← Nat.pow_add] at k1
    have k2 := Nat.mul_le_mul_left (2 ^ 61) n0
    rw [← Nat.pow_add] at k2
    exact Nat.lt_of_lt_of_le k1 (Nat.le_trans (Nat.pow_le_pow_right (by decide) (by omega)) k2)
  obtain ⟨S, hS⟩ : ∃ S, S = sqV m n A := ⟨_, rfl⟩
  have hS1 : 2 ^ 60 ≤ S := by rw [hS]; unfold sqV; omega
  have hS2 : S < 2 ^ 62 := by rw [hS]; unfold sqV; split <;> omega
  have hS0 : S ≠ 0 := by omega
  have hSl : S.log2 = 60 ∨ S.log2 = 61 := by
    have k1 := (Nat.le_log2 hS0).2 hS1
    have k2 := (Nat.log2_lt hS0).2 hS2
    omega
  -- in least units
  obtain ⟨k, hk⟩ : ∃ k : Nat, p - q - A - 1 = -1074 + (k : Int) := ⟨(p - q - A - 1 + 1074).toNat, by omega⟩
  have hZl : (S * 2 ^ k).log2 = S.log2 + k := log2_mul_pow hS0 k
  have hKz : lostK (S * 2 ^ k) = (S.log2 - 52) + k := by unfold lostK; rw [hZl]; omega
  have er : rne (S * 2 ^ k) (lostK (S * 2 ^ k)) = rne S (S.log2 - 52) := by rw [hKz, rne_scale]
  have htw := told_twice (s := (sgn32 a != sgn32 b)) (Z := S * 2 ^ k) (by rw [hZl]; omega) (by
    intro _ hmod
    rw [er, hKz, Nat.pow_add, ← Nat.mul_assoc] at hmod ⊢
    refine congrArg (· * 2 ^ k) ?_
    rw [hS]
    rw [hS] at hmod hSl hZl
    refine quo_mid (by omega) hnb (by omega) (by omega) ?_
    have hd : 2 ^ ((sqV m n A).log2 - 52 + 28 + k) ∣ rne (sqV m n A) ((sqV m n A).log2 - 52) * 2 ^ ((sqV m n A).log2 - 52) * 2 ^ k := by
      have hD : (sqV m n A).log2 - 52 + 28 + k ≤ max ((sqV m n A * 2 ^ k).log2 - 23) 925 - 1 := by omega
      have d1 := Nat.div_add_mod (rne (sqV m n A) ((sqV m n A).log2 - 52) * 2 ^ ((sqV m n A).log2 - 52) * 2 ^ k) (2 ^ max ((sqV m n A * 2 ^ k).log2 - 23) 925)
      rw [hmod] at d1
      rw [← d1]
      refine Nat.dvd_add (Nat.dvd_trans (Nat.pow_dvd_pow 2 ?_) (Nat.dvd_mul_right _ _)) (Nat.pow_dvd_pow 2 hD)
      omega
    rw [Nat.pow_add] at hd
    exact Nat.dvd_of_mul_dvd_mul_right (Nat.two_pow_pos k) hd)
  have eP : (p + (L1 : Int) - 52) - (q + (L2 : Int) - 52) - ((60 : Nat) : Int) - 1 = -1074 + (k : Int) := by omega
  rw [← hS, eP, ← rung_scale, htw]
  refine congrArg (Ieee.single.word _) ?_
  rw [rung_scale, ← hk, hS]
  rcases Nat.le_total A (shV m n) with g | g
  · refine (sq_link Ieee.single (p - q) (by omega) g ?_).symm
    exact Nat.le_trans (by decide) hq1
  · refine sq_link Ieee.single (p - q) (by omega) g ?_
    have h3 := quo_big hm hn
    exact Nat.le_trans (by decide) h3
theorem div_dbl (a b : Nat) : toldD (some (Ieee.double.read (roundD (divR (datumR (Ieee.double.read (wideW a))) (datumR (Ieee.double.read (wideW b))))))) = toldD ((Ieee.single.read a).quotient 25 (Ieee.single.read b)) := by
  rw [← div_link]
  rcases wideW_cases a with ⟨h, e⟩ | ⟨h, e⟩ | ⟨h, ea, M, P, e, hP, hX⟩
  · obtain ⟨s, t, e'⟩ := isNaN_cases e
    obtain ⟨s', t', f'⟩ := isNaN_cases (read32_nan h)
    rw [e', f']; exact made_narrow
  · rcases wideW_cases b with ⟨k, f⟩ | ⟨k, f⟩ | ⟨k, eb, N, Q', f, hQ, hY⟩
    · obtain ⟨s, t, e'⟩ := isNaN_cases f
      obtain ⟨s', t', f'⟩ := isNaN_cases (read32_nan k)
      rw [e, e', f', read_inf32 h]; exact made_narrow
    · rw [e, f, read_inf32 h, read_inf32 k]; exact made_narrow
    · rw [e, f, read_inf32 h, read_fin32 k]
      exact narrow_rinf _
  · rcases wideW_cases b with ⟨k, f⟩ | ⟨k, f⟩ | ⟨k, eb, N, Q', f, hQ, hY⟩
    · obtain ⟨s, t, e'⟩ := isNaN_cases f
      obtain ⟨s', t', f'⟩ := isNaN_cases (read32_nan k)
      rw [e, e', f', read_fin32 h]; exact made_narrow
    · rw [e, f, read_fin32 h, read_inf32 k]
      exact narrow_zero _
    · by_cases z : rung32 a = 0 ∨ rung32 b = 0
      · rw [ea, eb, read_fin64 (wide_fin h).1, read_fin64 (wide_fin k).1, (wide_fin h).2.1, (wide_fin k).2.1, read_fin32 h, read_fin32 k]
        have za := mag_zero_iff (rung32 a)
        have zb := mag_zero_iff (rung32 b)
        have wa := wide_mag_zero h
        have wb := wide_mag_zero k
        show toldD (some (Ieee.double.read (roundD (divR (.fin (sgn32 a) (mag64 (rung64 (wideN a))) (-1074 + (plc64 (rung64 (wideN a)) : Int)) false) (.fin (sgn32 b) (mag64 (rung64 (wideN b))) (-1074 + (plc64 (rung64 (wideN b)) : Int)) false))))) =
          roundR (divR (.fin (sgn32 a) (mag32 (rung32 a)) (-149 + (plc32 (rung32 a) : Int)) false) (.fin (sgn32 b) (mag32 (rung32 b)) (-149 + (plc32 (rung32 b) : Int)) false))
        rw [divR_zero (by rw [wa, wb, za, zb]; exact z), divR_zero (by rw [za, zb]; exact z)]
        simp only [wa, wb]
        split
        · split
          · exact made_narrow
          · exact narrow_rinf _
        · exact narrow_zero _
      · rw [ea, eb]
        exact div_dbl_fin (fun c => z (Or.inl c)) h (fun c => z (Or.inr c)) k
end Go.Proofs.YtieojgblamkgoaaGreatDoor
/- What the reference's TimesNum and DivNum return of samples made wide; that what comes out fits. -/
namespace Go.Proofs.YtieojgblamkgoaaGreatDoor
open Go.RowKit

/-- Numbers of samples made wide. -/
def wideR : RNum → Prop
  | ⟨some (.inr (_, n, e, m))⟩ => n < 9007199254740992 ∧ -1074 ≤ e ∧ e ≤ 80 ∧ m = false ∧ (n ≠ 0 → -210 ≤ e)
  | _ => True
theorem wideR_of (a : Nat) : wideR (datumR (Ieee.double.read (wideW a))) := by
  rcases wideW_cases a with ⟨h, e⟩ | ⟨h, e⟩ | ⟨h, ea, M, P, e, hP, hX⟩
  · obtain ⟨s, t, e'⟩ := isNaN_cases e
    rw [e']; exact trivial
  · rw [e]; exact trivial
  · rw [ea]
    by_cases z : rung32 a = 0
    · rw [wide_zero z, read_word64]
      exact ⟨by omega, by omega, by omega, rfl, fun c => absurd rfl c⟩
    · obtain ⟨L, hL, m0, m1, e1, hp⟩ := wide_wd z h
      have k1 := Nat.mul_le_mul_right (2 ^ (52 - L)) m0
      have k2 := Nat.mul_lt_mul_of_pos_right m1 (Nat.two_pow_pos (52 - L))
      rw [← Nat.pow_add, show L + (52 - L) = 52 by omega] at k1
      rw [← Nat.pow_add, show L + 1 + (52 - L) = 53 by omega] at k2
      rw [e1, read_wd k1 k2 (by omega) (by omega)]
      exact ⟨k2, by omega, by omega, rfl, fun _ => by omega⟩
theorem wideR_small {x : RNum} (h : wideR x) : small x := by
  cases x using RNum.rec3 with
  | nan => exact trivial
  | inf s => exact trivial
  | fin s n e m => exact ⟨by have := blen_le (n := n) (k := 53) h.1; omega, by have := h.2.1; omega, by have := h.2.2.1; omega⟩
theorem wideR_opp {x : RNum} (h : wideR x) : wideR (oppR x) := by cases x using RNum.rec3 <;> exact h
theorem plus_fitsD {x y : RNum} (hx : wideR x) (hy : wideR y) : fitsD (plusR x y) := by
  cases x using RNum.rec3 with
  | nan => exact trivial
  | inf s =>
    cases y using RNum.rec3 with
    | nan => exact trivial
    | inf t => show fitsD (if s = t then .inf s else .nan); split <;> exact trivial
    | fin t k f g => exact trivial
  | fin s n e m =>
    cases y using RNum.rec3 with
    | nan => exact trivial
    | inf t => exact trivial
    | fin t k f g =>
      obtain ⟨a1, a2, a3, rfl, _⟩ := hx
      obtain ⟨b1, b2, b3, rfl, _⟩ := hy
      show fitsD (plusFin s t (n * 2 ^ (e - min e f).toNat) (k * 2 ^ (f - min e f).toNat) (min e f))
      rw [plusFin_datum]
      obtain ⟨J, hJ⟩ : ∃ J : Nat, J = 1200 := ⟨_, rfl⟩
      have up : ∀ {z : Nat} {d : Nat}, z < 9007199254740992 → d ≤ J → z * 2 ^ d < 2 ^ (53 + J) := by
        intro z d hz hd
        have k1 : z * 2 ^ d < 2 ^ 53 * 2 ^ d := Nat.mul_lt_mul_of_pos_right hz (Nat.two_pow_pos _)
        rw [← Nat.pow_add] at k1
        exact Nat.lt_of_lt_of_le k1 (Nat.pow_le_pow_right (by decide) (by omega))
      have u1 := up (d := (e - min e f).toNat) a1 (by omega)
      have u2 := up (d := (f - min e f).toNat) b1 (by omega)
      refine ⟨?_, by omega, by omega, fun h => by cases h⟩
      generalize n * 2 ^ (e - min e f).toNat = X at u1
      generalize k * 2 ^ (f - min e f).toNat = Y at u2
      have e54 : 2 ^ (53 + J + 1) = 2 * 2 ^ (53 + J) := by rw [Nat.pow_succ]; omega
      have hs : ((if s = true then -(X : Int) else X) + (if t = true then -(Y : Int) else Y)).natAbs < 2 ^ (53 + J + 1) := by
        rw [e54]
        generalize 2 ^ (53 + J) = B at u1 u2
        split <;> split <;> omega
      have := blen_le hs
      omega
theorem times_fitsD {x y : RNum} (hx : wideR x) (hy : wideR y) : fitsD (timesR x y) := by
  cases x using RNum.rec3 with
  | nan => exact trivial
  | inf s =>
    cases y using RNum.rec3 with
    | nan => exact trivial
    | inf t => exact trivial
    | fin t k f g => show fitsD (if zeroB (.fin t k f g) = true then .nan else .inf (s != t)); split <;> exact trivial
  | fin s n e m =>
    cases y using RNum.rec3 with
    | nan => exact trivial
    | inf t => show fitsD (if zeroB (.fin s n e m) = true then .nan else .inf (s != t)); split <;> exact trivial
    | fin t k f g =>
      obtain ⟨a1, a2, a3, rfl, _⟩ := hx
      obtain ⟨b1, b2, b3, rfl, _⟩ := hy
      refine ⟨?_, by omega, by omega, fun h => by cases h⟩
      have : n * k < 2 ^ 53 * 2 ^ 53 := Nat.mul_lt_mul_of_lt_of_le a1 (Nat.le_of_lt b1) (by decide)
      rw [← Nat.pow_add] at this
      have := blen_le this
      omega
theorem div_wide (va vb : Value) (x y : RNum) (w : World) (hx : NumAt w va x) (hy : NumAt w vb y) (fx : wideR x) (fy : wideR y) :
    Calls Tryz.prog 102 #[va, vb] w fun e w' => ∃ v, e = .returned v ∧ NumAt w' v (divR x y) ∧ Q w w' := by
  cases x using RNum.rec3 with
  | nan => exact div_nan1 va vb y w hx hy
  | inf s =>
    cases y using RNum.rec3 with
    | nan => exact div_nan2 va vb _ w hx hy (fun k s' p L C e m h => by
        obtain ⟨e', m', h'⟩ := hx
        rw [h'] at h
        intro hk
        rw [hk] at h
        simp at h)
    | inf t => exact div_infinf va vb s t w hx hy
    | fin t n f g => exact div_inffin va vb s t n f g w hx hy
  | fin s n e m =>
    cases y using RNum.rec3 with
    | nan => exact div_nan2 va vb _ w hx hy (fun k s' p L C e' m' h => by
        obtain ⟨nv, h', hn⟩ := hx
        rw [h'] at h
        intro hk
        rw [hk] at h
        simp at h)
    | inf t => exact div_fininf va vb s t n e m w hx hy
    | fin t k f g =>
      obtain ⟨a1, a2, a3, rfl, a5⟩ := fx
      obtain ⟨b1, b2, b3, rfl, b5⟩ := fy
      by_cases hz : n = 0 ∨ k = 0
      · have hz' : zeroB (.fin s n e false) = true ∨ zeroB (.fin t k f false) = true := by rw [zeroB_fin, zeroB_fin]; simpa using hz
        have := div_nought va vb s t n k e f false false w hx hy hz'
        rw [divR_zero hz]
        rw [zeroB_fin, zeroB_fin] at this
        simp only [decide_eq_true_eq] at this
        exact this
      · rw [divR_fin (fun c => hz (Or.inl c)) (fun c => hz (Or.inr c))]
        obtain ⟨nv, rfl, hn⟩ := hx
        obtain ⟨kv, rfl, hk⟩ := hy
        have c1 := blen_le (n := n) (k := 53) a1
        have c2 := blen_le (n := k) (k := 53) b1
        have d1 := a5 (fun c => hz (Or.inl c))
        have d2 := b5 (fun c => hz (Or.inr c))
        exact div_fin s t nv kv n k e f w hn hk (fun c => hz (Or.inl c)) (fun c => hz (Or.inr c)) (by omega) (by omega) (by omega) (by omega) (by omega) (by omega)
theorem div_fitsD {x y : RNum} (hx : wideR x) (hy : wideR y) : fitsD (divR x y) := by
  cases x using RNum.rec3 with
  | nan => exact trivial
  | inf s =>
    cases y using RNum.rec3 with
    | nan => exact trivial
    | inf t => exact trivial
    | fin t k f g => exact trivial
  | fin s n e m =>
    cases y using RNum.rec3 with
    | nan => exact trivial
    | inf t => exact ⟨by decide, by decide, by decide, fun h => by cases h⟩
    | fin t k f g =>
      obtain ⟨a1, a2, a3, rfl, a5⟩ := hx
      obtain ⟨b1, b2, b3, rfl, b5⟩ := hy
      by_cases hz : n = 0 ∨ k = 0
      · rw [divR_zero hz]
        split
        · split <;> exact trivial
        · exact ⟨by decide, by decide, by decide, fun h => by cases h⟩
      · have n0 : n ≠ 0 := fun c => hz (Or.inl c)
        have k0 : k ≠ 0 := fun c => hz (Or.inr c)
        rw [divR_fin n0 k0]
        have hsh : shV n k ≤ 120 := by
          unfold shV
          have c2 := blen_le (n := k) (k := 53) b1
          omega
        have hbig := quo_big n0 k0
        have d1 := a5 n0
        have d2 := b5 k0
        have hq : n * 2 ^ shV n k / k < 2 ^ 200 := by
          refine Nat.lt_of_le_of_lt (Nat.div_le_self _ _) ?_
          have k1 : n * 2 ^ shV n k < 2 ^ 53 * 2 ^ shV n k := Nat.mul_lt_mul_of_pos_right a1 (Nat.two_pow_pos _)
          rw [← Nat.pow_add] at k1
          exact Nat.lt_of_lt_of_le k1 (Nat.pow_le_pow_right (by decide) (by omega))
        refine ⟨by have := blen_le hq; omega, by omega, by omega, fun _ => ⟨by omega, ?_⟩⟩
        unfold lastOf
        have : 59 ≤ (n * 2 ^ shV n k / k).log2 := (Nat.le_log2 (by omega)).2 hbig
        rw [frac64]
        omega
end Go.Proofs.YtieojgblamkgoaaGreatDoor
/- Plain facts: orders of two, ones, noughts and halves, in the model's own words of floats. -/
namespace Go.Proofs.YtieojgblamkgoaaGreatDoor
open Go.RowKit

theorem sum_comm (d d' : Ieee.Datum) : d.sum d' = d'.sum d := by
  cases d with
  | nan s t => cases d' <;> rfl
  | infinity s =>
    cases d' with
    | nan t f => rfl
    | infinity t =>
      show (if s = t then some (Ieee.Datum.infinity s) else none) = (if t = s then some (Ieee.Datum.infinity t) else none)
      by_cases h : s = t
      · subst h; rfl
      · rw [if_neg h, if_neg (fun e => h e.symm)]
    | number t n j => rfl
  | number s m i =>
    cases d' with
    | nan t f => rfl
    | infinity t => rfl
    | number t n j =>
      simp only [Ieee.Datum.sum]
      rw [Int.min_comm j i, Int.add_comm (Ieee.signed t n _), Bool.and_comm t s]
theorem product_comm (d d' : Ieee.Datum) : d.product d' = d'.product d := by
  cases d with
  | nan s t => cases d' <;> rfl
  | infinity s =>
    cases d' with
    | nan t f => rfl
    | infinity t => simp only [Ieee.Datum.product]; rw [Bool.xor_comm]
    | number t n j => rfl
  | number s m i =>
    cases d' with
    | nan t f => rfl
    | infinity t => rfl
    | number t n j =>
      simp only [Ieee.Datum.product]
      rw [Bool.xor_comm, Nat.mul_comm, Int.add_comm]
theorem leastV_comm {a b : Nat} : leastV (a : Int) (b : Int) = leastV b a := by
  unfold leastV befB keyV
  simp only [decide_eq_true_eq]
  repeat' split
  all_goals omega
theorem greatestV_comm {a b : Nat} : greatestV (a : Int) (b : Int) = greatestV b a := by
  unfold greatestV befB keyV
  simp only [decide_eq_true_eq]
  repeat' split
  all_goals omega

/-- A sample's own rung. -/
theorem self32 {r : Nat} (h : r < 2139095040) : rungOf Ieee.single (mag32 r) (-149 + (plc32 r : Int)) = r := by
  by_cases h0 : r = 0
  · subst h0; rw [show mag32 0 = 0 from by decide, rungOf_zero]
  · have hm := mag_ne32 h0
    have hm1 := mag_lt32 r
    have hp : plc32 r ≤ 253 := by unfold plc32; omega
    have hr : mag32 r + plc32 r * 8388608 = r := by unfold mag32 plc32; omega
    unfold rungOf
    rw [if_neg hm]
    have hl : (mag32 r).log2 ≤ 23 := by
      have := (Nat.log2_lt hm).2 (show mag32 r < 2 ^ 24 from hm1)
      omega
    have e : lastOf Ieee.single (mag32 r) (-149 + (plc32 r : Int)) = -149 + (plc32 r : Int) := by
      unfold lastOf
      rw [least32, show (Ieee.single.fractionBits : Int) = 23 from rfl]
      rcases Nat.eq_zero_or_pos (plc32 r) with g | g
      · rw [g]; omega
      · have h2 : 23 ≤ (mag32 r).log2 := (Nat.le_log2 hm).2 (mag_ge32 g)
        omega
    rw [e, least32, binade32, inf32, Int.sub_self]
    have e2 : rz (mag32 r) 0 = mag32 r := by
      have := rz_nat (mag32 r) 0
      rw [Nat.pow_zero, Nat.mul_one] at this
      exact this
    rw [e2, show (-149 + (plc32 r : Int) - -149).toNat = plc32 r by omega, Nat.min_eq_left (by omega)]
    omega
theorem told_self {a : Nat} (ha : a < 4294967296) (h : rung32 a < 2139095040) : Ieee.single.word (sgn32 a) (rungOf Ieee.single (mag32 (rung32 a)) (-149 + (plc32 (rung32 a) : Int))) = a := by
  rw [self32 h, ← word_of32 ha]
theorem told_sinf {a : Nat} (ha : a < 4294967296) (h : rung32 a = 2139095040) : Ieee.single.word (sgn32 a) 2139095040 = a := by
  rw [← h, ← word_of32 ha]
theorem toldD_inf (s : Bool) : toldD (some (.infinity s)) = Ieee.single.word s 2139095040 := by
  show Ieee.single.word s Ieee.single.infRung = _
  rw [inf32]

theorem read_half : Ieee.single.read 1056964608 = .number false 8388608 (-24) := by decide
theorem read_one32 : Ieee.single.read 1065353216 = .number false 8388608 (-23) := by decide
theorem read_two : Ieee.single.read 1073741824 = .number false 8388608 (-22) := by decide
theorem read_minus : Ieee.single.read 2147483648 = .number true 0 (-149) := by decide
theorem read_plus : Ieee.single.read 0 = .number false 0 (-149) := by decide
theorem xor_f (s : Bool) : (s ^^ false) = s := by cases s <;> rfl

/-- Times a power of two. -/
theorem mul_power (s : Bool) (m : Nat) (p q : Int) : toldD ((Ieee.Datum.number s m p).product (.number false 8388608 q)) = Ieee.single.word s (rungOf Ieee.single m (p + q + 23)) := by
  show toldD (some (.number (s ^^ false) (m * 2 ^ 23) (p + q))) = _
  rw [xor_f, toldD_num, rung_scale]; rfl
/-- By a power of two. -/
theorem quo_power (s : Bool) {m : Nat} (hm : m < 16777216) (p q : Int) : toldD ((Ieee.Datum.number s m p).quotient 25 (.number false 8388608 q)) = Ieee.single.word s (rungOf Ieee.single m (p - q - 23)) := by
  have hl2 : (8388608 : Nat).log2 = 23 := by decide
  have hl : m.log2 ≤ 23 := by
    by_cases h0 : m = 0
    · subst h0; decide
    · have := (Nat.log2_lt h0).2 (show m < 2 ^ 24 from hm); omega
  obtain ⟨B, hB⟩ : ∃ B, B = 25 + (8388608 : Nat).log2 - m.log2 := ⟨_, rfl⟩
  have hB1 : 25 ≤ B := by omega
  have em : (Ieee.Datum.number s m p).quotient 25 (.number false 8388608 q) = some (.number (s ^^ false) (2 * ((m <<< B) / 8388608) + ((m <<< B) % 8388608 != 0).toNat) (p - q - (B : Int) - 1)) := by
    rw [hB]; simp [Ieee.Datum.quotient]
  have e1 : m <<< B = m * 2 ^ (B - 23) * 8388608 := by
    rw [Nat.shiftLeft_eq, Nat.mul_assoc, show (8388608 : Nat) = 2 ^ 23 from rfl, ← Nat.pow_add, show B - 23 + 23 = B by omega]
  rw [em, e1, Nat.mul_div_cancel _ (by decide), Nat.mul_mod_left, xor_f, toldD_num]
  refine congrArg (Ieee.single.word s) ?_
  show rungOf Ieee.single (2 * (m * 2 ^ (B - 23)) + 0) _ = _
  have e2 : 2 * (m * 2 ^ (B - 23)) + 0 = m * 2 ^ (B - 22) := by
    rw [show B - 22 = (B - 23) + 1 by omega, Nat.pow_succ, Nat.add_zero, Nat.mul_comm 2, Nat.mul_assoc]
  rw [e2, rung_scale]
  congr 1; omega
theorem cases32 {a : Nat} (h : nanN a = false) : rung32 a < 2139095040 ∨ rung32 a = 2139095040 := by
  rw [nanN_rung] at h
  have h := of_decide_eq_false h
  omega
theorem toldD_none : toldD none = 2143289344 := rfl

theorem half_link (a : Nat) : toldD ((Ieee.single.read a).quotient 25 (Ieee.single.read 1073741824)) = scaleV a (-1) := by
  rw [read_two]
  cases h : nanN a
  · rcases cases32 h with g | g
    · rw [read_fin32 g, quo_power _ (mag_lt32 _)]
      by_cases z : rung32 a = 0
      · rw [scaleV_zero z, z, show mag32 0 = 0 from by decide, rungOf_zero]
      · rw [scaleV_fin z g]
        refine congrArg (Ieee.single.word _) ?_
        congr 1; omega
    · rw [read_inf32 g, scaleV_inf g, show (Ieee.Datum.infinity (sgn32 a)).quotient 25 (.number false 8388608 (-22)) = some (.infinity (sgn32 a ^^ false)) from rfl, toldD_inf, xor_f]
  · obtain ⟨s, t, e⟩ := isNaN_cases (read32_nan h)
    rw [e, scaleV_nan h]; rfl
theorem mulhalf_link (a : Nat) : toldD ((Ieee.single.read a).product (Ieee.single.read 1056964608)) = scaleV a (-1) := by
  rw [read_half]
  cases h : nanN a
  · rcases cases32 h with g | g
    · rw [read_fin32 g, mul_power]
      by_cases z : rung32 a = 0
      · rw [scaleV_zero z, z, show mag32 0 = 0 from by decide, rungOf_zero]
      · rw [scaleV_fin z g]
        refine congrArg (Ieee.single.word _) ?_
        congr 1; omega
    · rw [read_inf32 g, scaleV_inf g, show (Ieee.Datum.infinity (sgn32 a)).product (.number false 8388608 (-24)) = some (.infinity (sgn32 a ^^ false)) from rfl, toldD_inf, xor_f]
  · obtain ⟨s, t, e⟩ := isNaN_cases (read32_nan h)
    rw [e, scaleV_nan h]; rfl
theorem mul_one {a : Nat} (ha : a < 4294967296) : toldD ((Ieee.single.read a).product (Ieee.single.read 1065353216)) = madeN a := by
  rw [read_one32]
  cases h : nanN a
  · rw [madeN_of h]
    rcases cases32 h with g | g
    · rw [read_fin32 g, mul_power, show -149 + (plc32 (rung32 a) : Int) + -23 + 23 = -149 + (plc32 (rung32 a) : Int) by omega, told_self ha g]
    · rw [read_inf32 g, show (Ieee.Datum.infinity (sgn32 a)).product (.number false 8388608 (-23)) = some (.infinity (sgn32 a ^^ false)) from rfl, toldD_inf, xor_f, told_sinf ha g]
  · obtain ⟨s, t, e⟩ := isNaN_cases (read32_nan h)
    rw [e, madeN_nan h]; rfl
theorem div_one {a : Nat} (ha : a < 4294967296) : toldD ((Ieee.single.read a).quotient 25 (Ieee.single.read 1065353216)) = madeN a := by
  rw [read_one32]
  cases h : nanN a
  · rw [madeN_of h]
    rcases cases32 h with g | g
    · rw [read_fin32 g, quo_power _ (mag_lt32 _), show -149 + (plc32 (rung32 a) : Int) - -23 - 23 = -149 + (plc32 (rung32 a) : Int) by omega, told_self ha g]
    · rw [read_inf32 g, show (Ieee.Datum.infinity (sgn32 a)).quotient 25 (.number false 8388608 (-23)) = some (.infinity (sgn32 a ^^ false)) from rfl, toldD_inf, xor_f, told_sinf ha g]
  · obtain ⟨s, t, e⟩ := isNaN_cases (read32_nan h)
    rw [e, madeN_nan h]; rfl
theorem signed_zero (s : Bool) (k : Nat) : Ieee.signed s 0 k = 0 := by unfold Ieee.signed; rw [Nat.shiftLeft_eq, Nat.zero_mul]; cases s <;> rfl
theorem add_minus_fin (s : Bool) (m : Nat) (p : Int) (hp : -1074 ≤ p) : toldD ((Ieee.Datum.number s m p).sum (.number true 0 (-149))) = Ieee.single.word s (rungOf Ieee.single m p) := by
  obtain ⟨N, b, e1, e2⟩ := sum_units s true m 0 p (-149) hp (by decide)
  rw [signed_zero, Int.add_zero] at e1 e2
  rw [e1, toldD_num, e2, signed_abs, rung_scale, show -1074 + (((p + 1074).toNat : Nat) : Int) = p by omega]
  congr 1
  unfold sg
  by_cases h : Ieee.signed s m (p + 1074).toNat = 0
  · rw [if_pos h, Bool.and_true]
  · rw [if_neg h]; exact (signed_sign h).symm
theorem add_nought {a : Nat} (ha : a < 4294967296) : toldD ((Ieee.single.read a).sum (Ieee.single.read 2147483648)) = madeN a := by
  rw [read_minus]
  cases h : nanN a
  · rw [madeN_of h]
    rcases cases32 h with g | g
    · rw [read_fin32 g, add_minus_fin _ _ _ (by omega), told_self ha g]
    · rw [read_inf32 g, show (Ieee.Datum.infinity (sgn32 a)).sum (.number true 0 (-149)) = some (.infinity (sgn32 a)) from rfl, toldD_inf, told_sinf ha g]
  · obtain ⟨s, t, e⟩ := isNaN_cases (read32_nan h)
    rw [e, madeN_nan h]; rfl
theorem sub_nought {a : Nat} (ha : a < 4294967296) : toldD ((Ieee.single.read a).sum (Ieee.single.read 0).opposite) = madeN a := by
  rw [show (Ieee.single.read 0).opposite = Ieee.single.read 2147483648 from by rw [read_plus, read_minus]; rfl, add_nought ha]
theorem nought_sub {a : Nat} (h : nanN a = false) : toldD ((Ieee.single.read 0).sum (Ieee.single.read a).opposite) % 2147483648 = a % 2147483648 := by
  rw [read_plus]
  rcases cases32 h with g | g
  · rw [read_fin32 g]
    obtain ⟨N, b, e1, e2⟩ := sum_units false (!sgn32 a) 0 (mag32 (rung32 a)) (-149) (-149 + (plc32 (rung32 a) : Int)) (by decide) (by omega)
    rw [signed_zero, Int.zero_add] at e1 e2
    show toldD ((Ieee.Datum.number false 0 (-149)).sum (.number (!sgn32 a) (mag32 (rung32 a)) (-149 + (plc32 (rung32 a) : Int)))) % _ = _
    rw [e1, toldD_num, e2, signed_abs, rung_scale, show -1074 + (((-149 + (plc32 (rung32 a) : Int) + 1074).toNat : Nat) : Int) = -149 + (plc32 (rung32 a) : Int) by omega, self32 g]
    exact (sgn_word32 _ (by omega)).2
  · rw [read_inf32 g]
    show toldD (some (.infinity (!sgn32 a))) % _ = _
    rw [toldD_inf]
    have := (sgn_word32 (!sgn32 a) (r := 2139095040) (by decide)).2
    unfold rung32 at this g
    rw [this, g]
theorem narrow_wide {a : Nat} (ha : a < 4294967296) : toldD (some (Ieee.double.read (wideW a))) = madeN a := by
  cases h : nanN a
  · have e0 : wideW a = wideN a := by unfold wideW; rw [h]; rfl
    rw [e0, madeN_of h]
    rcases cases32 h with g | g
    · obtain ⟨r, s, v⟩ := wide_fin g
      have e := val_abs (wideN a)
      rw [v] at e
      unfold sampleZ at e
      rw [signed_abs] at e
      rw [read_fin64 r, toldD_num, rung_word64, ← e, s, rung_scale, show (-1074 : Int) + ((plc32 (rung32 a) + 925 : Nat) : Int) = -149 + (plc32 (rung32 a) : Int) by omega, told_self ha g]
    · rw [wide_read_inf g, toldD_inf, told_sinf ha g]
  · have e0 : wideW a = 9221120237041090560 := by unfold wideW; rw [h]; rfl
    rw [e0, madeN_nan h]; decide +kernel
theorem sum_num_inf (s : Bool) (m : Nat) (p : Int) (t : Bool) : (Ieee.Datum.number s m p).sum (.infinity t) = some (.infinity t) := rfl
theorem fma_one (a b : Nat) : toldD (fmaD a 1065353216 b) = toldD ((Ieee.single.read a).sum (Ieee.single.read b)) := by
  unfold fmaD
  rw [read_one32]
  cases h : nanN a
  · rcases cases32 h with g | g
    · rw [read_fin32 g]
      show toldD ((Ieee.Datum.number (sgn32 a ^^ false) (mag32 (rung32 a) * 8388608) (-149 + (plc32 (rung32 a) : Int) + -23)).sum (Ieee.single.read b)) = _
      rw [xor_f]
      cases hb : nanN b
      · rcases cases32 hb with k | k
        · rw [read_fin32 k]
          obtain ⟨N, c, e1, e2⟩ := sum_units (sgn32 a) (sgn32 b) (mag32 (rung32 a) * 8388608) (mag32 (rung32 b)) (-149 + (plc32 (rung32 a) : Int) + -23) (-149 + (plc32 (rung32 b) : Int)) (by omega) (by omega)
          obtain ⟨N', c', f1, f2⟩ := sum_units (sgn32 a) (sgn32 b) (mag32 (rung32 a)) (mag32 (rung32 b)) (-149 + (plc32 (rung32 a) : Int)) (-149 + (plc32 (rung32 b) : Int)) (by omega) (by omega)
          have ez : Ieee.signed (sgn32 a) (mag32 (rung32 a) * 8388608) (-149 + (plc32 (rung32 a) : Int) + -23 + 1074).toNat = Ieee.signed (sgn32 a) (mag32 (rung32 a)) (-149 + (plc32 (rung32 a) : Int) + 1074).toNat := by
            unfold Ieee.signed
            rw [Nat.shiftLeft_eq, Nat.shiftLeft_eq, Nat.mul_assoc, show (8388608 : Nat) = 2 ^ 23 from rfl, ← Nat.pow_add, show 23 + (-149 + (plc32 (rung32 a) : Int) + -23 + 1074).toNat = (-149 + (plc32 (rung32 a) : Int) + 1074).toNat by omega]
          rw [ez] at e1 e2
          rw [e1, f1, toldD_num, toldD_num, e2, f2]
        · rw [read_inf32 k, sum_num_inf, sum_num_inf]
      · rw [sum_nan2 (read32_nan hb), sum_nan2 (read32_nan hb)]
    · rw [read_inf32 g]
      show toldD ((Ieee.Datum.infinity (sgn32 a ^^ false)).sum (Ieee.single.read b)) = _
      rw [xor_f]
  · rw [product_nan1 (read32_nan h), sum_nan1 (read32_nan h)]; rfl
theorem fma_nought {a b : Nat} (hp : toldD ((Ieee.single.read a).product (Ieee.single.read b)) % 2147483648 ≠ 0) : toldD (fmaD a b 2147483648) = toldD ((Ieee.single.read a).product (Ieee.single.read b)) := by
  unfold fmaD
  rw [read_minus]
  cases hd : (Ieee.single.read a).product (Ieee.single.read b) with
  | none => rfl
  | some d =>
    rw [hd] at hp
    show toldD (d.sum (.number true 0 (-149))) = _
    cases d with
    | nan s t => exact absurd (product_num hd) (by simp [Ieee.Datum.isNaN])
    | infinity s => rfl
    | number s m p =>
      have hpl : -1074 ≤ p := by
        cases ha : nanN a
        · cases hb : nanN b
          · rcases cases32 ha with g | g
            · rcases cases32 hb with k | k
              · rw [read_fin32 g, read_fin32 k] at hd
                have hd : some (Ieee.Datum.number (sgn32 a ^^ sgn32 b) (mag32 (rung32 a) * mag32 (rung32 b)) (-149 + (plc32 (rung32 a) : Int) + (-149 + (plc32 (rung32 b) : Int)))) = some (.number s m p) := hd
                injection hd with hd
                injection hd with h1 h2 h3
                omega
              · rw [read_fin32 g, read_inf32 k] at hd
                have hd : (if mag32 (rung32 a) = 0 then none else some (Ieee.Datum.infinity (sgn32 b ^^ sgn32 a))) = some (.number s m p) := hd
                split at hd
                · cases hd
                · injection hd with hd; cases hd
            · rcases cases32 hb with k | k
              · rw [read_inf32 g, read_fin32 k] at hd
                have hd : (if mag32 (rung32 b) = 0 then none else some (Ieee.Datum.infinity (sgn32 a ^^ sgn32 b))) = some (.number s m p) := hd
                split at hd
                · cases hd
                · injection hd with hd; cases hd
              · rw [read_inf32 g, read_inf32 k] at hd
                have hd : some (Ieee.Datum.infinity (sgn32 a ^^ sgn32 b)) = some (.number s m p) := hd
                injection hd with hd; cases hd
          · rw [product_nan2 (read32_nan hb)] at hd; cases hd
        · rw [product_nan1 (read32_nan ha)] at hd; cases hd
      rw [add_minus_fin _ _ _ hpl, toldD_num]
end Go.Proofs.YtieojgblamkgoaaGreatDoor
/- What package arith's Floor, Nearest and Sqrt return, in the model's own words of floats; what was in memory stays as it was. -/
namespace Go.Proofs.YtieojgblamkgoaaGreatDoor
open Go.RowKit

theorem cut_zero (neg : Bool) (n d : Nat) : Ieee.Toward.zero.cut neg n d = n / 2 ^ d := by
  unfold Ieee.Toward.cut
  show n / (1 <<< min d (n.log2 + 2)) + 0 = _
  rw [Nat.shiftLeft_eq, Nat.one_mul, Nat.add_zero]
  rcases Nat.le_total d (n.log2 + 2) with h | h
  · rw [Nat.min_eq_left h]
  · rw [Nat.min_eq_right h]
    have h1 : n < 2 ^ (n.log2 + 1) := Nat.lt_log2_self
    have h2 : 2 ^ (n.log2 + 1) ≤ 2 ^ (n.log2 + 2) := Nat.pow_le_pow_right (by decide) (by omega)
    have h3 : 2 ^ (n.log2 + 2) ≤ 2 ^ d := Nat.pow_le_pow_right (by decide) h
    rw [Nat.div_eq_of_lt (by omega), Nat.div_eq_of_lt (by omega)]

/-- A binary64 as a whole number, towards 0. -/
def truncV (x : Nat) : Int := ((Ieee.double.read x).toInt .zero).getD 0
theorem trunc_fin {x : Nat} (h : rung64 x < 9218868437227405312) : (Ieee.double.read x).toInt .zero = some (truncV x) ∧ truncV x = Ieee.signed (sgn64 x) (mag64 (rung64 x) * 2 ^ (-1074 + (plc64 (rung64 x) : Int)).toNat / 2 ^ (-(-1074 + (plc64 (rung64 x) : Int))).toNat) 0 := by
  unfold truncV
  have e : (Ieee.double.read x).toInt .zero = some (Ieee.signed (sgn64 x) (mag64 (rung64 x) * 2 ^ (-1074 + (plc64 (rung64 x) : Int)).toNat / 2 ^ (-(-1074 + (plc64 (rung64 x) : Int))).toNat) 0) := by
    rw [read_fin64 h]
    show some (Ieee.signed (sgn64 x) (Ieee.Toward.zero.cut _ _ _) 0) = _
    rw [cut_zero, Nat.shiftLeft_eq]
  rw [e]; exact ⟨rfl, rfl⟩
/-- Is a binary64 at least -2^63 and below 2^63? -/
def inWhole (x : Nat) : Bool := !nan64 x && (decide (-4890909195324358656 ≤ srung64 x) && decide (srung64 x < 4890909195324358656))
theorem whole_bound {x : Nat} (h : inWhole x = true) : floatToIntVal .f64 x .i64 = some (truncV x) := by
  unfold inWhole at h
  simp only [Bool.and_eq_true, Bool.not_eq_true', decide_eq_true_eq] at h
  obtain ⟨hn, h1, h2⟩ := h
  have hr : rung64 x ≤ 4890909195324358656 := by
    unfold srung64 at h1 h2
    cases hs : sgn64 x <;> rw [hs] at h1 h2 <;> simp at h1 h2 <;> omega
  obtain ⟨e1, e2⟩ := trunc_fin (x := x) (by omega)
  unfold floatToIntVal
  have e3 : (FloatKind.f64.decode x).toInt .zero = some (truncV x) := e1
  rw [e3]
  dsimp only
  rw [if_pos]
  show (-9223372036854775808 : Int) ≤ truncV x ∧ truncV x ≤ 9223372036854775807
  rw [e2]
  rcases Nat.lt_or_ge (rung64 x) 4890909195324358656 with g | g
  · have hp : plc64 (rung64 x) ≤ 1084 := by unfold plc64; omega
    have hm := mag_lt64 (rung64 x)
    have hv : mag64 (rung64 x) * 2 ^ (-1074 + (plc64 (rung64 x) : Int)).toNat / 2 ^ (-(-1074 + (plc64 (rung64 x) : Int))).toNat < 9223372036854775808 := by
      have h1 : mag64 (rung64 x) * 2 ^ (-1074 + (plc64 (rung64 x) : Int)).toNat < 9007199254740992 * 2 ^ 10 := by
        have a1 : 2 ^ (-1074 + (plc64 (rung64 x) : Int)).toNat ≤ 2 ^ 10 := Nat.pow_le_pow_right (by decide) (by omega)
        have a2 : mag64 (rung64 x) * 2 ^ (-1074 + (plc64 (rung64 x) : Int)).toNat ≤ mag64 (rung64 x) * 2 ^ 10 := Nat.mul_le_mul_left _ a1
        omega
      exact Nat.lt_of_le_of_lt (Nat.div_le_self _ _) h1
    generalize mag64 (rung64 x) * 2 ^ (-1074 + (plc64 (rung64 x) : Int)).toNat / 2 ^ (-(-1074 + (plc64 (rung64 x) : Int))).toNat = z at hv
    unfold Ieee.signed
    rw [Nat.shiftLeft_zero]
    split <;> omega
  · have hr' : rung64 x = 4890909195324358656 := by omega
    have hs : sgn64 x = true := by
      cases hs : sgn64 x
      · unfold srung64 at h2; rw [hs] at h2
        simp at h2; omega
      · rfl
    rw [hr', hs]
    decide +kernel

theorem whole_lo : srung64 14114281232179134464 = -4890909195324358656 := by decide
theorem whole_hi : srung64 4890909195324358656 = 4890909195324358656 := by decide
theorem whole_cases (x : Nat) : (inWhole x = false ∧ (Ieee.double.order x 14114281232179134464 = none ∨ Ieee.double.order x 14114281232179134464 = some .lt ∨ (Ieee.double.order x 14114281232179134464 = some .gt ∧ (Ieee.double.order x 4890909195324358656 = some .eq ∨ Ieee.double.order x 4890909195324358656 = some .gt))))
    ∨ (inWhole x = true ∧ Ieee.double.order x 4890909195324358656 = some .lt ∧ (Ieee.double.order x 14114281232179134464 = some .gt ∨ Ieee.double.order x 14114281232179134464 = some .eq)) := by
  unfold inWhole
  cases h : nan64 x
  · have h' := h
    rw [nan64_rung] at h'
    have h' := of_decide_eq_false h'
    rw [order_num64 (x := x) (y := 14114281232179134464) (by omega) (by decide), order_num64 (x := x) (y := 4890909195324358656) (by omega) (by decide), whole_lo, whole_hi]
    generalize srung64 x = z
    rcases Int.lt_trichotomy z (-4890909195324358656) with a | a | a
    · rw [Int.compare_eq_lt.2 a]
      exact Or.inl ⟨by simp; omega, Or.inr (Or.inl rfl)⟩
    · rw [Int.compare_eq_eq.2 a, Int.compare_eq_lt.2 (by omega : z < 4890909195324358656)]
      exact Or.inr ⟨by simp; omega, rfl, Or.inr rfl⟩
    · rw [Int.compare_eq_gt.2 a]
      rcases Int.lt_trichotomy z 4890909195324358656 with b | b | b
      · rw [Int.compare_eq_lt.2 b]
        exact Or.inr ⟨by simp; omega, rfl, Or.inl rfl⟩
      · rw [Int.compare_eq_eq.2 b]
        exact Or.inl ⟨by simp; omega, Or.inr (Or.inr ⟨rfl, Or.inl rfl⟩)⟩
      · rw [Int.compare_eq_gt.2 b]
        exact Or.inl ⟨by simp; omega, Or.inr (Or.inr ⟨rfl, Or.inr rfl⟩)⟩
  · exact Or.inl ⟨rfl, Or.inl (order_nan1 _ (read64_nan h))⟩

/-- What whole tells: the number, and the error. -/
def wholeI (x : Nat) : Int := if inWhole x = true then truncV x else 0
def wholeE (x : Nat) : Int := if inWhole x = true then 0 else 20
/-- A binary64 made whole. -/
def flD (way : Ieee.Toward) (x : Nat) : Nat := Ieee.double.write ((Ieee.double.read x).integral way)
theorem integral_eq (name : String) (way : Ieee.Toward) (x : Nat) : Extern.MathFloor.toIntegral name way #[.float .f64 x] = match FloatKind.f64.decode x with
    | .nan s t => if FloatKind.f64.format.quiet t = t then pure (.float .f64 x) else choose (.extern "math.Floor,Ceil,Trunc,RoundToEven.signallingNaN kept" 2) >>= fun kept => pure (.float .f64 (if kept == 1 then x else FloatKind.f64.encode (.nan s (FloatKind.f64.format.quiet t))))
    | d => pure (.float .f64 (FloatKind.f64.encode (d.integral way))) := by kernel_rfl
theorem integral_run (name : String) (way : Ieee.Toward) {x : Nat} (h : nan64 x = false) (w : World) : (Extern.MathFloor.toIntegral name way #[.float .f64 x]).run Tryz.prog w = .ok (.float .f64 (flD way x)) w := by
  have hn := read64_num h
  unfold flD
  have e : FloatKind.f64.decode x = Ieee.double.read x := by kernel_rfl
  rw [integral_eq, e]
  cases hd : Ieee.double.read x with
  | nan s t => rw [hd] at hn; cases hn
  | infinity s => rfl
  | number s m p => rfl
/-- Of a NaN: it, or the same made quiet; and what is drawn for it. -/
def flV (x : Nat) (w : World) : Nat := match Ieee.double.read x with
  | .nan s t => if FloatKind.f64.format.quiet t = t then x else if (Question.extern "math.Floor,Ceil,Trunc,RoundToEven.signallingNaN kept" 2).cut (w.tape w.drawn (.extern "math.Floor,Ceil,Trunc,RoundToEven.signallingNaN kept" 2)) == 1 then x else Ieee.double.write (.nan s (FloatKind.f64.format.quiet t))
  | _ => x
def flU (x : Nat) (w : World) : World := match Ieee.double.read x with
  | .nan _ t => if FloatKind.f64.format.quiet t = t then w else w.drew
  | _ => w
theorem flU_q (x : Nat) (w : World) : Q w (flU x w) := by
  unfold flU; split
  · split
    · exact Q.refl _
    · exact (Q.refl _).drew
  · exact Q.refl _
theorem flV_nan {x : Nat} (h : nan64 x = true) (w : World) : nan64 (flV x w) = true := by
  have h' := h
  rw [nan64_rung] at h'
  have h' := of_decide_eq_true h'
  have hr : rung64 x < 9223372036854775808 := Nat.mod_lt _ (by decide)
  unfold flV
  rw [read_nan64 h']
  dsimp only
  split
  · exact h
  · split
    · exact h
    · have ht : rung64 x - 9218868437227405312 < 2 ^ 52 := by omega
      generalize rung64 x - 9218868437227405312 = t at ht
      show nan64 (Ieee.double.word (sgn64 x) (Ieee.double.infRung + (t ||| 2 ^ 51) % Ieee.double.binade)) = true
      rw [inf64, binade64]
      have h1 : t ||| 2 ^ 51 < 2 ^ 52 := Nat.or_lt_two_pow ht (by decide)
      have h2 : 2 ^ 51 ≤ t ||| 2 ^ 51 := Nat.right_le_or
      generalize t ||| 2 ^ 51 = u at h1 h2
      unfold nan64
      rw [word64]
      have := Bool.toNat_lt (sgn64 x)
      exact decide_eq_true (by omega)
theorem integral_nan (name : String) (way : Ieee.Toward) {x : Nat} (h : nan64 x = true) (w : World) : (Extern.MathFloor.toIntegral name way #[.float .f64 x]).run Tryz.prog w = .ok (.float .f64 (flV x w)) (flU x w) := by
  obtain ⟨s, t, e⟩ := isNaN_cases (read64_nan h)
  have e' : FloatKind.f64.decode x = .nan s t := e
  unfold flV flU
  rw [integral_eq, e', e]
  dsimp only
  by_cases g : FloatKind.f64.format.quiet t = t
  · rw [if_pos g, if_pos g, if_pos g]; rfl
  · rw [if_neg g, if_neg g, if_neg g]
    simp [Question.forced]
    rfl
theorem whole_nan {x : Nat} (h : nan64 x = true) : wholeI x = 0 ∧ wholeE x = 20 := by
  have e : inWhole x = false := by unfold inWhole; rw [h]; rfl
  unfold wholeI wholeE; rw [e]; exact ⟨rfl, rfl⟩
theorem wideN_nan {a : Nat} (h : nanN a = false) : nan64 (wideN a) = false := nan64_write (read32_num h)

/-- What Floor and Nearest tell: the number, and the error. -/
def floI (way : Ieee.Toward) (a : Nat) : Int := if nanN a = true then 0 else wholeI (flD way (wideN a))
def floE (way : Ieee.Toward) (a : Nat) : Int := if nanN a = true then 20 else wholeE (flD way (wideN a))

theorem sqrt_eq (x : Nat) : Extern.MathSqrt.sqrt #[.float .f64 x] = Option.casesOn (motive := fun _ => Sem Value) (FloatKind.f64.format.sqrt x) (choose (.nanBits .f64 x x) >>= fun b => pure (.float .f64 b)) (fun r => pure (.float .f64 r)) := by kernel_rfl
theorem sqrt_run0 {x r : Nat} (h : Ieee.double.sqrt x = some r) (w : World) : (Extern.MathSqrt.sqrt #[.float .f64 x]).run Tryz.prog w = .ok (.float .f64 r) w := by
  have h' : FloatKind.f64.format.sqrt x = some r := h
  rw [sqrt_eq, h']
  rfl
theorem sqrt_none0 {x : Nat} (h : Ieee.double.sqrt x = none) (w : World) : (Extern.MathSqrt.sqrt #[.float .f64 x]).run Tryz.prog w = .ok (.float .f64 (nanw .f64 x x w)) w.drew := by
  have h' : FloatKind.f64.format.sqrt x = none := h
  rw [sqrt_eq, h']
  simp [Question.forced, nanw]
theorem sqrt_nan {x : Nat} (h : nan64 x = true) : Ieee.double.sqrt x = none := by
  obtain ⟨s, t, e⟩ := isNaN_cases (read64_nan h)
  unfold Ieee.Format.sqrt; rw [e]; rfl
/-- The root. -/
def sqrtV (a : Nat) : Nat := if nanN a = true then 2143289344 else match Ieee.double.sqrt (wideN a) with
  | some r => toldD (some (Ieee.double.read r))
  | none => 2143289344
end Go.Proofs.YtieojgblamkgoaaGreatDoor
