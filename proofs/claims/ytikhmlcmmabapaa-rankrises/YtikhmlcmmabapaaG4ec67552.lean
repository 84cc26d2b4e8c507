/- Plain facts on rounding to the nearest, ties to even: closed forms, scaling, sticky bits, rising. -/
import Ieee.Arith
import Derived.Test.YtikhmlcmmabapaaG18da661d
import Derived.Test.YtikhmlcmmabapaaG2dec15e7
namespace Go.Proofs.Ytikhmlcmmabapaa

/-- Does n / 2^d go up? -/
abbrev goesUp (n d : Nat) : Prop := 2 ^ d < 2 * (n % 2 ^ d) ∨ (2 ^ d = 2 * (n % 2 ^ d) ∧ n / 2 ^ d % 2 = 1)
/-- n / 2^d, rounded to the nearest, ties to even. -/
def rne (n d : Nat) : Nat := n / 2 ^ d + if goesUp n d then 1 else 0

theorem cut_rne (neg : Bool) (n d : Nat) : Ieee.Toward.even.cut neg n d = rne n d := by
  unfold Ieee.Toward.cut rne
  have key : ∀ e, ((decide ((1 <<< e : Nat) < 2 * (n % (1 <<< e))) || ((1 <<< e : Nat) == 2 * (n % (1 <<< e)) && n / (1 <<< e) % 2 == 1))).toNat = if goesUp n e then 1 else 0 := by
    intro e
    rw [Nat.shiftLeft_eq, Nat.one_mul]
    by_cases h1 : 2 ^ e < 2 * (n % 2 ^ e)
    · have gg : goesUp n e := Or.inl h1
      rw [if_pos gg]; simp [h1]
    · by_cases h2 : 2 ^ e = 2 * (n % 2 ^ e)
      · by_cases h3 : n / 2 ^ e % 2 = 1
        · have gg : goesUp n e := Or.inr ⟨h2, h3⟩
          rw [if_pos gg]
          have e1 : (2 ^ e == 2 * (n % 2 ^ e)) = true := beq_iff_eq.2 h2
          rw [e1, h3]; simp
        · have gg : ¬ goesUp n e := fun h => by
            rcases h with h | h
            · exact h1 h
            · exact h3 h.2
          rw [if_neg gg]
          have e1 : (n / 2 ^ e % 2 == 1) = false := beq_eq_false_iff_ne.2 h3
          rw [e1]; simp [h1]
      · have gg : ¬ goesUp n e := fun h => by
          rcases h with h | h
          · exact h1 h
          · exact h2 h.1
        rw [if_neg gg]
        have e1 : (2 ^ e == 2 * (n % 2 ^ e)) = false := beq_eq_false_iff_ne.2 h2
        rw [e1]; simp [h1]
  by_cases hd : d ≤ n.log2 + 2
  · rw [Nat.min_eq_left hd]
    show n / (1 <<< d) + _ = _
    rw [key d, Nat.shiftLeft_eq, Nat.one_mul]
  · rw [Nat.min_eq_right (by omega)]
    show n / (1 <<< (n.log2 + 2)) + _ = _
    rw [key (n.log2 + 2), Nat.shiftLeft_eq, Nat.one_mul]
    have hn : n < 2 ^ (n.log2 + 1) := Nat.lt_log2_self
    have a1 : 2 ^ (n.log2 + 2) = 2 * 2 ^ (n.log2 + 1) := by rw [Nat.pow_succ]; omega
    have a2 : 2 ^ (n.log2 + 2) ≤ 2 ^ d := Nat.pow_le_pow_right (by omega) (by omega)
    have b1 : n / 2 ^ (n.log2 + 2) = 0 := Nat.div_eq_of_lt (by omega)
    have b2 : n % 2 ^ (n.log2 + 2) = n := Nat.mod_eq_of_lt (by omega)
    have b3 : n / 2 ^ d = 0 := Nat.div_eq_of_lt (by omega)
    have b4 : n % 2 ^ d = n := Nat.mod_eq_of_lt (by omega)
    have c1 : ¬ goesUp n (n.log2 + 2) := by unfold goesUp; rw [b2]; omega
    have c2 : ¬ goesUp n d := by unfold goesUp; rw [b4]; omega
    rw [if_neg c1, if_neg c2, b1, b3]

theorem rne_zero (n : Nat) : rne n 0 = n := by
  have g : ¬ goesUp n 0 := by unfold goesUp; rw [Nat.pow_zero, Nat.mod_one]; omega
  unfold rne
  rw [if_neg g, Nat.pow_zero, Nat.div_one, Nat.add_zero]

/-- Factors of two go. -/
theorem rne_scale (n d k : Nat) : rne (n * 2 ^ k) (d + k) = rne n d := by
  have hk := Nat.two_pow_pos k
  have e1 : n * 2 ^ k / 2 ^ (d + k) = n / 2 ^ d := by rw [Nat.pow_add, Nat.mul_div_mul_right _ _ hk]
  have e2 : n * 2 ^ k % 2 ^ (d + k) = n % 2 ^ d * 2 ^ k := by rw [Nat.pow_add, Nat.mul_mod_mul_right]
  have e3 : goesUp (n * 2 ^ k) (d + k) ↔ goesUp n d := by
    unfold goesUp
    rw [e1, e2, Nat.pow_add, ← Nat.mul_assoc]
    constructor
    · rintro (h | ⟨h, g⟩)
      · exact Or.inl (Nat.lt_of_mul_lt_mul_right h)
      · exact Or.inr ⟨Nat.eq_of_mul_eq_mul_right hk h, g⟩
    · rintro (h | ⟨h, g⟩)
      · exact Or.inl (Nat.mul_lt_mul_of_pos_right h hk)
      · exact Or.inr ⟨congrArg (· * 2 ^ k) h, g⟩
  unfold rne
  by_cases h : goesUp n d
  · rw [if_pos h, if_pos (e3.2 h), e1]
  · rw [if_neg h, if_neg (fun g => h (e3.1 g)), e1]

theorem rne_exact (n d : Nat) : rne (n * 2 ^ d) d = n := by
  have := rne_scale n 0 d
  rw [Nat.zero_add, rne_zero] at this; exact this

/-- How far it lies. -/
theorem rne_near (n d : Nat) : 2 * (rne n d * 2 ^ d) ≤ 2 * n + 2 ^ d ∧ 2 * n ≤ 2 * (rne n d * 2 ^ d) + 2 ^ d := by
  have h := Nat.div_add_mod n (2 ^ d)
  have hm := Nat.mod_lt n (Nat.two_pow_pos d)
  have e : 2 ^ d * (n / 2 ^ d) = n / 2 ^ d * 2 ^ d := Nat.mul_comm _ _
  unfold rne
  by_cases g : goesUp n d
  · rw [if_pos g, Nat.add_mul, Nat.one_mul]
    unfold goesUp at g
    omega
  · rw [if_neg g, Nat.add_zero]
    unfold goesUp at g
    omega

/-- It rises. -/
theorem rne_mono {m n : Nat} (d : Nat) (h : m ≤ n) : rne m d ≤ rne n d := by
  have hq : m / 2 ^ d ≤ n / 2 ^ d := Nat.div_le_div_right h
  unfold rne
  by_cases e : m / 2 ^ d = n / 2 ^ d
  · by_cases g : goesUp m d
    · have g' : goesUp n d := by
        have h1 := Nat.div_add_mod m (2 ^ d)
        have h2 := Nat.div_add_mod n (2 ^ d)
        unfold goesUp at g ⊢
        rw [e] at h1 g
        omega
      rw [if_pos g, if_pos g', e]; exact Nat.le_refl _
    · rw [if_neg g, e]; omega
  · split <;> split <;> omega

theorem rne_lower {n d k : Nat} (h : k * 2 ^ d ≤ n) : k ≤ rne n d := by
  have := rne_mono d h
  rwa [rne_exact] at this
theorem rne_upper {n d k : Nat} (h : n ≤ k * 2 ^ d) : rne n d ≤ k := by
  have := rne_mono d h
  rwa [rne_exact] at this

/-- n without its k lowest bits, and a bit that tells whether there was anything in them. -/
def stick (n k : Nat) : Nat := 2 * (n / 2 ^ k) + if n % 2 ^ k = 0 then 0 else 1

theorem rne_stick {n k d : Nat} (h : k + 1 ≤ d) : rne (stick n k) (d - k + 1) = rne n d := by
  obtain ⟨j, rfl⟩ : ∃ j, d = k + j + 1 := ⟨d - k - 1, by omega⟩
  have ej : k + j + 1 - k + 1 = j + 2 := by omega
  rw [ej]
  have hk := Nat.two_pow_pos k
  have hj := Nat.two_pow_pos j
  have hn := Nat.div_add_mod n (2 ^ k)
  have hr := Nat.mod_lt n hk
  obtain ⟨q, hq⟩ : ∃ q, q = n / 2 ^ k := ⟨_, rfl⟩
  obtain ⟨r, hr'⟩ : ∃ r, r = n % 2 ^ k := ⟨_, rfl⟩
  rw [← hq, ← hr'] at hn
  rw [← hr'] at hr
  have hs : stick n k = 2 * q + if r = 0 then 0 else 1 := by unfold stick; rw [← hq, ← hr']
  -- q = 2^(j+1) * u + v
  have hqq := Nat.div_add_mod q (2 ^ (j + 1))
  have hv := Nat.mod_lt q (Nat.two_pow_pos (j + 1))
  obtain ⟨u, hu⟩ : ∃ u, u = q / 2 ^ (j + 1) := ⟨_, rfl⟩
  obtain ⟨v, hv'⟩ : ∃ v, v = q % 2 ^ (j + 1) := ⟨_, rfl⟩
  rw [← hu, ← hv'] at hqq
  rw [← hv'] at hv
  have p1 : 2 ^ (j + 1) = 2 * 2 ^ j := by rw [Nat.pow_succ]; omega
  have p2 : 2 ^ (j + 2) = 4 * 2 ^ j := by rw [Nat.pow_succ, p1]; omega
  have p3 : 2 ^ (k + j + 1) = 2 ^ k * (2 * 2 ^ j) := by rw [Nat.add_assoc, Nat.pow_add, p1]
  have d1 : n / 2 ^ (k + j + 1) = u := by rw [Nat.add_assoc, Nat.pow_add, ← Nat.div_div_eq_div_mul, ← hq, ← hu]
  have m1 : n % 2 ^ (k + j + 1) = 2 ^ k * v + r := by
    have h1 := Nat.div_add_mod n (2 ^ (k + j + 1))
    rw [d1, p3] at h1
    have h2 : n = 2 ^ k * (2 * 2 ^ j) * u + (2 ^ k * v + r) := by
      rw [← hn, ← hqq, p1, Nat.mul_add, ← Nat.mul_assoc]; omega
    rw [p3]; omega
  have st : (if r = 0 then 0 else 1) ≤ 1 := by split <;> omega
  obtain ⟨t, ht⟩ : ∃ t : Nat, t = if r = 0 then 0 else 1 := ⟨_, rfl⟩
  rw [← ht] at st hs
  have s2 : stick n k = 4 * 2 ^ j * u + (2 * v + t) := by rw [hs, ← hqq, p1, Nat.mul_add, ← Nat.mul_assoc, ← Nat.mul_assoc, Nat.add_assoc]
  have lt2 : 2 * v + t < 4 * 2 ^ j := by omega
  have d2 : stick n k / 2 ^ (j + 2) = u := by rw [p2, s2, Nat.mul_add_div (by omega), Nat.div_eq_of_lt lt2, Nat.add_zero]
  have m2 : stick n k % 2 ^ (j + 2) = 2 * v + t := by rw [p2, s2, Nat.mul_add_mod, Nat.mod_eq_of_lt lt2]
  have hvk : ∀ x : Nat, 2 ^ k * x + 2 ^ k = 2 ^ k * (x + 1) := fun x => by rw [Nat.mul_add, Nat.mul_one]
  have g : goesUp (stick n k) (j + 2) ↔ goesUp n (k + j + 1) := by
    unfold goesUp
    rw [d1, d2, m1, m2, p2, p3]
    have c1 : 4 * 2 ^ j < 2 * (2 * v + t) ↔ 2 ^ k * (2 * 2 ^ j) < 2 * (2 ^ k * v + r) := by
      rcases Nat.lt_trichotomy v (2 ^ j) with hlt | heq | hgt
      · have := Nat.mul_le_mul_left (2 ^ k) (show v + 1 ≤ 2 ^ j from hlt)
        have e := hvk v
        have e2 : 2 ^ k * (2 * 2 ^ j) = 2 * (2 ^ k * 2 ^ j) := by rw [← Nat.mul_assoc, Nat.mul_comm (2 ^ k) 2, Nat.mul_assoc]
        omega
      · rw [heq]
        have e2 : 2 ^ k * (2 * 2 ^ j) = 2 * (2 ^ k * 2 ^ j) := by rw [← Nat.mul_assoc, Nat.mul_comm (2 ^ k) 2, Nat.mul_assoc]
        split at ht <;> omega
      · have := Nat.mul_le_mul_left (2 ^ k) (show 2 ^ j + 1 ≤ v from hgt)
        have e := hvk (2 ^ j)
        have e2 : 2 ^ k * (2 * 2 ^ j) = 2 * (2 ^ k * 2 ^ j) := by rw [← Nat.mul_assoc, Nat.mul_comm (2 ^ k) 2, Nat.mul_assoc]
        omega
    have c2 : 4 * 2 ^ j = 2 * (2 * v + t) ↔ 2 ^ k * (2 * 2 ^ j) = 2 * (2 ^ k * v + r) := by
      rcases Nat.lt_trichotomy v (2 ^ j) with hlt | heq | hgt
      · have := Nat.mul_le_mul_left (2 ^ k) (show v + 1 ≤ 2 ^ j from hlt)
        have e := hvk v
        have e2 : 2 ^ k * (2 * 2 ^ j) = 2 * (2 ^ k * 2 ^ j) := by rw [← Nat.mul_assoc, Nat.mul_comm (2 ^ k) 2, Nat.mul_assoc]
        omega
      · rw [heq]
        have e2 : 2 ^ k * (2 * 2 ^ j) = 2 * (2 ^ k * 2 ^ j) := by rw [← Nat.mul_assoc, Nat.mul_comm (2 ^ k) 2, Nat.mul_assoc]
        split at ht <;> omega
      · have := Nat.mul_le_mul_left (2 ^ k) (show 2 ^ j + 1 ≤ v from hgt)
        have e := hvk (2 ^ j)
        have e2 : 2 ^ k * (2 * 2 ^ j) = 2 * (2 ^ k * 2 ^ j) := by rw [← Nat.mul_assoc, Nat.mul_comm (2 ^ k) 2, Nat.mul_assoc]
        omega
    rw [c1, c2]
  unfold rne
  by_cases h : goesUp n (k + j + 1)
  · rw [if_pos h, if_pos (g.2 h), d1, d2]
  · rw [if_neg h, if_neg (fun c => h (g.1 c)), d1, d2]

end Go.Proofs.Ytikhmlcmmabapaa
/- Plain facts on rounding a number to a format: the rung that it comes to; scaling, rising, sticky bits. -/
namespace Go.Proofs.Ytikhmlcmmabapaa

/-- The place of the last digit that is kept. -/
def lastOf (f : Ieee.Format) (m : Nat) (p : Int) : Int := max (p + m.log2 - f.fractionBits) f.leastPlace
/-- m * 2^s as a whole number, rounded. -/
def rz (m : Nat) (s : Int) : Nat := rne (m * 2 ^ s.toNat) (-s).toNat
/-- The rung of m * 2^p. -/
def rungOf (f : Ieee.Format) (m : Nat) (p : Int) : Nat :=
  if m = 0 then 0 else min ((lastOf f m p - f.leastPlace).toNat * f.binade + rz m (p - lastOf f m p)) f.infRung

theorem nearest_rung (f : Ieee.Format) (neg : Bool) (m : Nat) (p : Int) : f.nearest neg m p = f.word neg (rungOf f m p) := by
  unfold Ieee.Format.nearest rungOf
  by_cases h : m = 0
  · rw [if_pos h, if_pos h]
  · rw [if_neg h, if_neg h]
    show f.word neg (min ((lastOf f m p - f.leastPlace).toNat * f.binade + Ieee.Toward.even.cut neg (m <<< (p - lastOf f m p).toNat) (lastOf f m p - p).toNat) f.infRung) = _
    rw [cut_rne, Nat.shiftLeft_eq]
    unfold rz
    rw [Int.neg_sub]

theorem log2_mul_pow {m : Nat} (h : m ≠ 0) (k : Nat) : (m * 2 ^ k).log2 = m.log2 + k := by
  have hp := Nat.two_pow_pos k
  refine (Nat.log2_eq_iff (Nat.mul_ne_zero h (by omega))).2 ⟨?_, ?_⟩
  · rw [Nat.pow_add]; exact Nat.mul_le_mul_right _ (Nat.log2_self_le h)
  · rw [show m.log2 + k + 1 = (m.log2 + 1) + k by omega, Nat.pow_add]; exact Nat.mul_lt_mul_of_pos_right Nat.lt_log2_self hp

theorem rz_nat (m : Nat) (s : Nat) : rz m s = m * 2 ^ s := by
  unfold rz
  rw [show ((s : Int)).toNat = s by omega, show (-(s : Int)).toNat = 0 by omega, rne_zero]
theorem rz_neg (m : Nat) (d : Nat) : rz m (-(d : Int)) = rne m d := by
  unfold rz
  rw [show (-(d : Int)).toNat = 0 by omega, show (- -(d : Int)).toNat = d by omega, Nat.pow_zero, Nat.mul_one]

theorem rz_scale (m k : Nat) (s : Int) : rz (m * 2 ^ k) s = rz m (s + k) := by
  rcases Int.lt_or_le s 0 with h | h
  · obtain ⟨d, rfl⟩ : ∃ d : Nat, s = -(d : Int) := ⟨(-s).toNat, by omega⟩
    rw [rz_neg]
    rcases Nat.lt_or_ge k d with g | g
    · obtain ⟨j, rfl⟩ : ∃ j, d = j + k := ⟨d - k, by omega⟩
      rw [rne_scale, show (-((j + k : Nat) : Int) + (k : Int)) = -(j : Int) by omega, rz_neg]
    · obtain ⟨j, rfl⟩ : ∃ j, k = j + d := ⟨k - d, by omega⟩
      rw [show (-(d : Int) + ((j + d : Nat) : Int)) = (j : Int) by omega, rz_nat, Nat.pow_add, ← Nat.mul_assoc, rne_exact]
  · obtain ⟨d, rfl⟩ : ∃ d : Nat, s = (d : Int) := ⟨s.toNat, by omega⟩
    rw [rz_nat, show ((d : Int) + (k : Int)) = ((d + k : Nat) : Int) by omega, rz_nat, Nat.mul_assoc, ← Nat.pow_add, Nat.add_comm k d]

theorem last_scale (f : Ieee.Format) {m : Nat} (h : m ≠ 0) (k : Nat) (p : Int) : lastOf f (m * 2 ^ k) p = lastOf f m (p + k) := by
  unfold lastOf; rw [log2_mul_pow h]; congr 1; omega

/-- The value decides. -/
theorem rung_scale (f : Ieee.Format) (m k : Nat) (p : Int) : rungOf f (m * 2 ^ k) p = rungOf f m (p + k) := by
  by_cases h : m = 0
  · subst h; unfold rungOf; rw [if_pos (Nat.zero_mul _), if_pos rfl]
  · unfold rungOf
    rw [if_neg (Nat.mul_ne_zero h (by have := Nat.two_pow_pos k; omega)), if_neg h, last_scale f h, rz_scale]
    rw [show p - lastOf f m (p + k) + (k : Int) = p + k - lastOf f m (p + k) by omega]

theorem rung_down (f : Ieee.Format) (m k : Nat) (p : Int) : rungOf f m p = rungOf f (m * 2 ^ k) (p - k) := by
  rw [rung_scale]; congr 1; omega

theorem rz_mono {m n : Nat} (s : Int) (h : m ≤ n) : rz m s ≤ rz n s := rne_mono _ (Nat.mul_le_mul_right _ h)

/-- What is kept has at most one digit more than the fraction, or is the next power of two. -/
theorem kept_le (f : Ieee.Format) (m : Nat) (p : Int) : rz m (p - lastOf f m p) ≤ 2 * f.binade := by
  have hm : m < 2 ^ (m.log2 + 1) := Nat.lt_log2_self
  have hb : 2 * f.binade = 2 ^ (f.fractionBits + 1) := by unfold Ieee.Format.binade; rw [Nat.pow_succ]; omega
  have hl : p + m.log2 - f.fractionBits ≤ lastOf f m p := by unfold lastOf; omega
  have h1 : rz m (p - lastOf f m p) ≤ rz (1 * 2 ^ (m.log2 + 1)) (p - lastOf f m p) := rz_mono _ (by omega)
  rw [rz_scale] at h1
  refine Nat.le_trans h1 ?_
  rw [hb]
  rcases Int.lt_or_le (p - lastOf f m p + ((m.log2 + 1 : Nat) : Int)) 0 with g | g
  · obtain ⟨d, e⟩ : ∃ d : Nat, p - lastOf f m p + ((m.log2 + 1 : Nat) : Int) = -(d : Int) := ⟨(-(p - lastOf f m p + ((m.log2 + 1 : Nat) : Int))).toNat, by omega⟩
    rw [e, rz_neg]
    have := Nat.two_pow_pos (f.fractionBits + 1)
    have h2 : rne 1 d ≤ 1 := rne_upper (by have := Nat.two_pow_pos d; omega)
    omega
  · obtain ⟨d, e⟩ : ∃ d : Nat, p - lastOf f m p + ((m.log2 + 1 : Nat) : Int) = (d : Int) := ⟨(p - lastOf f m p + ((m.log2 + 1 : Nat) : Int)).toNat, by omega⟩
    rw [e, rz_nat, Nat.one_mul]
    exact Nat.pow_le_pow_right (by omega) (by omega)

/-- Above the least place it has them all. -/
theorem le_kept (f : Ieee.Format) {m : Nat} (h : m ≠ 0) (p : Int) (hl : lastOf f m p = p + m.log2 - f.fractionBits) : f.binade ≤ rz m (p - lastOf f m p) := by
  have h1 : rz (1 * 2 ^ m.log2) (p - lastOf f m p) ≤ rz m (p - lastOf f m p) := rz_mono _ (by have := Nat.log2_self_le h; omega)
  rw [rz_scale] at h1
  refine Nat.le_trans ?_ h1
  rw [hl, show p - (p + (m.log2 : Int) - (f.fractionBits : Int)) + (m.log2 : Int) = ((f.fractionBits : Nat) : Int) by omega, rz_nat, Nat.one_mul]
  exact Nat.le_refl _

theorem last_ge (f : Ieee.Format) (m : Nat) (p : Int) : f.leastPlace ≤ lastOf f m p := by unfold lastOf; omega

/-- It rises. -/
theorem rung_mono (f : Ieee.Format) {m n : Nat} (p : Int) (h : m ≤ n) : rungOf f m p ≤ rungOf f n p := by
  unfold rungOf
  by_cases hm : m = 0
  · rw [if_pos hm]; exact Nat.zero_le _
  · have hn : n ≠ 0 := by omega
    rw [if_neg hm, if_neg hn]
    have hlog : m.log2 ≤ n.log2 := (Nat.le_log2 hn).2 (Nat.le_trans (Nat.log2_self_le hm) h)
    have h1 := last_ge f m p
    have hle : lastOf f m p ≤ lastOf f n p := by unfold lastOf; omega
    have key : (lastOf f m p - f.leastPlace).toNat * f.binade + rz m (p - lastOf f m p) ≤ (lastOf f n p - f.leastPlace).toNat * f.binade + rz n (p - lastOf f n p) := by
      rcases Int.lt_or_eq_of_le hle with g | g
      · have hk := kept_le f m p
        have hl : lastOf f n p = p + n.log2 - f.fractionBits := by unfold lastOf at h1 g hle ⊢; omega
        have hk' := le_kept f hn p hl
        obtain ⟨a, ha⟩ : ∃ a : Nat, lastOf f m p = f.leastPlace + a := ⟨(lastOf f m p - f.leastPlace).toNat, by omega⟩
        obtain ⟨c, hc⟩ : ∃ c : Nat, lastOf f n p = f.leastPlace + (a + 1 + c : Nat) := ⟨(lastOf f n p - lastOf f m p - 1).toNat, by omega⟩
        have e1 : (lastOf f m p - f.leastPlace).toNat = a := by omega
        have e2 : (lastOf f n p - f.leastPlace).toNat = a + 1 + c := by omega
        rw [e1, e2]
        have e3 : (a + 1 + c) * f.binade = a * f.binade + f.binade + c * f.binade := by rw [Nat.add_mul, Nat.add_mul, Nat.one_mul]
        rw [e3]
        omega
      · rw [g]
        exact Nat.add_le_add_left (rz_mono _ h) _
    omega

/-- Digits far behind the last one that is kept may be told by one. -/
theorem rung_stick (f : Ieee.Format) {M k : Nat} (p : Int) (hk : k ≤ M.log2) (hM : M ≠ 0) (h : p + k + 1 ≤ lastOf f M p) : rungOf f (stick M k) (p + k - 1) = rungOf f M p := by
  have hlo := Nat.log2_self_le hM
  have hhi : M < 2 ^ (M.log2 + 1) := Nat.lt_log2_self
  obtain ⟨j, hj⟩ : ∃ j, M.log2 = k + j := ⟨M.log2 - k, by omega⟩
  have hp := Nat.two_pow_pos k
  have q1 : 2 ^ j ≤ M / 2 ^ k := by rw [Nat.le_div_iff_mul_le hp, ← Nat.pow_add, Nat.add_comm, ← hj]; exact hlo
  have q2 : M / 2 ^ k < 2 ^ (j + 1) := by rw [Nat.div_lt_iff_lt_mul hp, ← Nat.pow_add, show j + 1 + k = M.log2 + 1 by omega]; exact hhi
  have hj0 := Nat.two_pow_pos j
  have s1 : stick M k ≠ 0 := by unfold stick; omega
  have s2 : (stick M k).log2 = j + 1 := by
    refine (Nat.log2_eq_iff s1).2 ⟨?_, ?_⟩
    · unfold stick; rw [Nat.pow_succ]; omega
    · have e2 : 2 ^ (j + 1 + 1) = 2 * 2 ^ (j + 1) := by rw [Nat.pow_succ]; omega
      unfold stick; rw [e2]; split <;> omega
  have hl : lastOf f (stick M k) (p + k - 1) = lastOf f M p := by
    unfold lastOf; rw [s2, hj]; congr 1; omega
  unfold rungOf
  rw [if_neg s1, if_neg hM, hl]
  obtain ⟨d, hd⟩ : ∃ d : Nat, lastOf f M p = p + d := ⟨(lastOf f M p - p).toNat, by omega⟩
  have e : rz (stick M k) (p + k - 1 - lastOf f M p) = rz M (p - lastOf f M p) := by
    rw [hd, show p - (p + (d : Int)) = -(d : Int) by omega, rz_neg, show p + (k : Int) - 1 - (p + (d : Int)) = -((d - k + 1 : Nat) : Int) by omega, rz_neg]
    exact rne_stick (by omega)
  rw [e]

end Go.Proofs.Ytikhmlcmmabapaa
/- What the functions of package bits that package arith calls return: class, NaN, made, key, least, greatest; what was in memory stays as it was. -/
namespace Go.Proofs.Ytikhmlcmmabapaa
open Go.RowKit

theorem and_lo (s : Int) (h0 : 0 ≤ s) (h1 : s < 2147483648) : bits .and .u32 s 2147483648 = 0 := by go_bits2
theorem and_hi (s : Int) (h0 : 2147483648 ≤ s) (h1 : s ≤ 4294967295) : bits .and .u32 s 2147483648 = 2147483648 := by go_bits2
theorem or_lo (s : Int) (h0 : 0 ≤ s) (h1 : s < 2147483648) : bits .or .u32 s 2147483648 = s + 2147483648 := by go_bits2
theorem and_255 (s : Int) (h0 : 0 ≤ s) (h1 : s ≤ 4294967295) : bits .and .u32 s 255 = s % 256 := by go_bits2
theorem and_frac (s : Int) (h0 : 0 ≤ s) (h1 : s ≤ 4294967295) : bits .and .u32 s 8388607 = s % 8388608 := by go_bits2

/-- A sample's key. -/
def keyV (s : Int) : Int := if s < 2147483648 then s + 2147483648 else 4294967295 - s
theorem keyV_lo {s : Int} (h : s < 2147483648) : keyV s = s + 2147483648 := by unfold keyV; rw [if_pos h]
theorem keyV_hi {s : Int} (h : 2147483648 ≤ s) : keyV s = 4294967295 - s := by unfold keyV; rw [if_neg (by omega)]
/-- Whether a stands ahead of b. -/
def befB (a b : Int) : Bool := decide (keyV a < keyV b)
def leastV (a b : Int) : Int := if befB b a = true then b else a
def greatestV (a b : Int) : Int := if befB a b = true then b else a

/-- Exponent and fraction of a sample. -/
def expV (s : Int) : Int := s / 8388608 % 256
def fracV (s : Int) : Int := s % 8388608
def negB (s : Int) : Bool := decide (2147483648 ≤ s)
theorem expV_bd (s : Int) : 0 ≤ expV s ∧ expV s ≤ 255 := by unfold expV; omega
theorem fracV_bd (s : Int) : 0 ≤ fracV s ∧ fracV s ≤ 8388607 := by unfold fracV; omega
/-- The class by number: 1 NaN, 2 infinity, 3 normal, 4 small, 5 nought. -/
def classV (s : Int) : Int := if expV s = 255 then (if fracV s = 0 then 2 else 1) else if expV s = 0 then (if fracV s = 0 then 5 else 4) else 3
theorem neg_bit {s : Int} (h0 : 0 ≤ s) (h1 : s ≤ 4294967295) : (bits .and .u32 s 2147483648 != 0) = negB s := by
  unfold negB
  by_cases h : s < 2147483648
  · rw [and_lo s h0 h]; simp; omega
  · rw [and_hi s (by omega) h1]; simp; omega
theorem exp_bits {s : Int} (h0 : 0 ≤ s) (h1 : s ≤ 4294967295) : bits .and .u32 (s / 8388608) 255 = expV s := and_255 _ (by omega) (by omega)
theorem frac_bits {s : Int} (h0 : 0 ≤ s) (h1 : s ≤ 4294967295) : bits .and .u32 s 8388607 = fracV s := and_frac _ h0 h1
theorem classV_1 {s : Int} (h : expV s = 255) (g : ¬ fracV s = 0) : classV s = 1 := by unfold classV; rw [if_pos h, if_neg g]
theorem classV_2 {s : Int} (h : expV s = 255) (g : fracV s = 0) : classV s = 2 := by unfold classV; rw [if_pos h, if_pos g]
theorem classV_3 {s : Int} (h : ¬ expV s = 255) (g : ¬ expV s = 0) : classV s = 3 := by unfold classV; rw [if_neg h, if_neg g]
theorem classV_4 {s : Int} (h : expV s = 0) (g : ¬ fracV s = 0) : classV s = 4 := by unfold classV; rw [if_neg (by omega), if_pos h, if_neg g]
theorem classV_5 {s : Int} (h : expV s = 0) (g : fracV s = 0) : classV s = 5 := by unfold classV; rw [if_neg (by omega), if_pos h, if_pos g]

theorem class_nan (a : Nat) : (classV (a : Int) == 1) = nanN a := by
  unfold nanN classV expV fracV
  by_cases h1 : (a : Int) / 8388608 % 256 = 255
  · rw [if_pos h1]
    by_cases h2 : (a : Int) % 8388608 = 0
    · rw [if_pos h2, decide_eq_false (by omega)]; rfl
    · rw [if_neg h2, decide_eq_true (by omega)]; rfl
  · rw [if_neg h1, decide_eq_false (by omega)]
    split
    · split <;> rfl
    · rfl

/-- A sample, or the made NaN. -/
def madeN (a : Nat) : Nat := if nanN a = true then 2143289344 else a
theorem madeN_lt {a : Nat} (h : a < 4294967296) : madeN a < 4294967296 := by unfold madeN; split <;> omega
theorem madeN_of {a : Nat} (h : nanN a = false) : madeN a = a := by unfold madeN; rw [h]; rfl
theorem madeN_nan {a : Nat} (h : nanN a = true) : madeN a = 2143289344 := by unfold madeN; rw [h]; rfl
set_option maxHeartbeats 400000 in
theorem key_any (s : Int) (h0 : 0 ≤ s) (h1 : s ≤ 4294967295) (w : World) :
    Calls Try.prog 45 #[.int .u32 s] w fun e w' => e = .returned (.int .u32 (keyV s)) ∧ w' = w := by
  by_cases h : s < 2147483648
  · have e1 := and_lo s h0 h
    have e2 := or_lo s h0 h
    go_enter Try.func45, Try.ntmps45
    go_wp2
    go_ret
    exact ⟨ret_int (keyV_lo h).symm, rfl⟩
  · have e1 := and_hi s (by omega) h1
    go_enter Try.func45, Try.ntmps45
    go_wp2
    go_ret
    exact ⟨ret_int (keyV_hi (by omega)).symm, rfl⟩

end Go.Proofs.Ytikhmlcmmabapaa
/- Keys of samples as plain numbers; what Key and FromKey return. -/
namespace Go.Proofs.Ytikhmlcmmabapaa
open Go.RowKit

def keyN (s : Nat) : Nat := if s < 2147483648 then s + 2147483648 else 4294967295 - s
def fkeyN (k : Nat) : Nat := if 2147483648 ≤ k then k - 2147483648 else 4294967295 - k
theorem keyN_lt {s : Nat} (h : s < 4294967296) : keyN s < 4294967296 := by unfold keyN; split <;> omega
theorem fkeyN_lt {s : Nat} (h : s < 4294967296) : fkeyN s < 4294967296 := by unfold fkeyN; split <;> omega
theorem keyV_N {s : Nat} (h : s < 4294967296) : keyV (s : Int) = (keyN s : Int) := by
  unfold keyN
  by_cases g : s < 2147483648
  · rw [keyV_lo (by omega), if_pos g]; omega
  · rw [keyV_hi (by omega), if_neg g]; omega
theorem keyN_inj {a b : Nat} (ha : a < 4294967296) (hb : b < 4294967296) (h : keyN a = keyN b) : a = b := by
  unfold keyN at h; split at h <;> split at h <;> omega
theorem fkey_key {s : Nat} (h : s < 4294967296) : fkeyN (keyN s) = s := by
  unfold keyN fkeyN; split <;> split <;> omega
theorem key_fkey {k : Nat} (h : k < 4294967296) : keyN (fkeyN k) = k := by
  unfold keyN fkeyN; split <;> split <;> omega

theorem not_hi (k : Int) (h0 : 2147483648 ≤ k) (h1 : k ≤ 4294967295) : bits .andNot .u32 k 2147483648 = k - 2147483648 := by go_bits2
set_option maxHeartbeats 400000 in
theorem keyn_any (s : Nat) (h1 : s < 4294967296) (w : World) :
    Calls Try.prog 45 #[.int .u32 s] w fun e w' => e = .returned (.int .u32 (keyN s : Nat)) ∧ w' = w := by
  have := key_any s (by omega) (by omega) w
  rw [keyV_N h1] at this
  exact this
end Go.Proofs.Ytikhmlcmmabapaa
/- Ranks by key, plain: the sample of rank k; what rises, what is turned round. -/
namespace Go.Proofs.Ytikhmlcmmabapaa
open Go.RowKit
set_option linter.unusedVariables false

/-- Samples in the order of their keys. -/
def leK (x y : Nat) : Bool := decide (keyN x ≤ keyN y)
def rkL (L : List Nat) : List Nat := L.mergeSort leK
/-- The one of rank k. -/
def rkV (L : List Nat) (k : Nat) : Nat := (rkL L).getD k 0
theorem leK_trans (a b c : Nat) (h1 : leK a b = true) (h2 : leK b c = true) : leK a c = true := by
  unfold leK at *; simp only [decide_eq_true_eq] at *; omega
theorem leK_total (a b : Nat) : (leK a b || leK b a) = true := by
  unfold leK; simp only [Bool.or_eq_true, decide_eq_true_eq]; omega
theorem rkL_perm (L : List Nat) : (rkL L).Perm L := List.mergeSort_perm L leK
theorem rkL_len (L : List Nat) : (rkL L).length = L.length := (rkL_perm L).length_eq
theorem rkL_sorted (L : List Nat) : (rkL L).Pairwise (fun a b => leK a b = true) := List.pairwise_mergeSort leK_trans leK_total L
/-- How many have a key of at most t. -/
def cntK (L : List Nat) (t : Nat) : Nat := L.countP (fun s => decide (keyN s ≤ t))
theorem cntK_perm {L M : List Nat} (h : L.Perm M) (t : Nat) : cntK L t = cntK M t := h.countP_eq _
theorem cntK_le (L : List Nat) (t : Nat) : cntK L t ≤ L.length := List.countP_le_length
theorem sorted_cnt : ∀ (s : List Nat) (k t : Nat), s.Pairwise (fun a b => leK a b = true) → k < s.length → (keyN (s.getD k 0) ≤ t ↔ k < cntK s t) := by
  intro s
  induction s with
  | nil => intro k t _ h; simp at h
  | cons a l ih =>
    intro k t hp hk
    rw [List.pairwise_cons] at hp
    obtain ⟨h1, h2⟩ := hp
    cases k with
    | zero =>
      rw [List.getD_cons_zero]
      unfold cntK
      constructor
      · intro h
        rw [List.countP_cons_of_pos (by simpa using h)]; omega
      · intro h
        rcases Nat.lt_or_ge t (keyN a) with g | g
        · exfalso
          rw [List.countP_cons_of_neg (by simp; omega)] at h
          obtain ⟨b, hb, hb'⟩ := List.countP_pos_iff.1 h
          have := h1 b hb
          unfold leK at this
          simp only [decide_eq_true_eq] at this hb'
          omega
        · exact g
    | succ k =>
      rw [List.getD_cons_succ]
      have hk' : k < l.length := by simpa using hk
      have := ih k t h2 hk'
      by_cases g : keyN a ≤ t
      · unfold cntK at this ⊢
        rw [List.countP_cons_of_pos (by simpa using g), this]; omega
      · have hz : cntK l t = 0 := by
          unfold cntK
          rw [List.countP_eq_zero]
          intro b hb hb'
          have := h1 b hb
          unfold leK at this
          simp only [decide_eq_true_eq] at this hb'
          omega
        unfold cntK at this hz ⊢
        rw [List.countP_cons_of_neg (by simpa using g), this, hz]
        omega
theorem rk_le {L : List Nat} {k t : Nat} (h : k < L.length) : keyN (rkV L k) ≤ t ↔ k < cntK L t := by
  unfold rkV
  rw [sorted_cnt (rkL L) k t (rkL_sorted L) (by rw [rkL_len]; exact h), cntK_perm (rkL_perm L)]
theorem getD_mem {L : List Nat} {k : Nat} (h : k < L.length) : L.getD k 0 ∈ L := by
  rw [List.getD_eq_getElem?_getD, List.getElem?_eq_getElem h]; exact List.getElem_mem h
theorem rk_mem {L : List Nat} {k : Nat} (h : k < L.length) : rkV L k ∈ L := (rkL_perm L).mem_iff.1 (getD_mem (by rw [rkL_len]; exact h))
theorem rk_lt {L : List Nat} {k : Nat} (h : k < L.length) (hL : ∀ s ∈ L, s < 4294967296) : rkV L k < 4294967296 := hL _ (rk_mem h)
/-- Whatever is sorted and has the same samples is that list. -/
theorem sorted_eq {s L : List Nat} (hp : s.Perm L) (hs : s.Pairwise (fun a b => leK a b = true)) (hL : ∀ x ∈ L, x < 4294967296) : s = rkL L := by
  have hl : s.length = (rkL L).length := by rw [rkL_len]; exact hp.length_eq
  apply List.ext_getElem hl
  intro i h1 h2
  have e1 : s[i] = s.getD i 0 := by rw [List.getD_eq_getElem?_getD, List.getElem?_eq_getElem h1]; rfl
  have e2 : (rkL L)[i] = (rkL L).getD i 0 := by rw [List.getD_eq_getElem?_getD, List.getElem?_eq_getElem h2]; rfl
  rw [e1, e2]
  have hc : ∀ t, keyN (s.getD i 0) ≤ t ↔ keyN ((rkL L).getD i 0) ≤ t := fun t => by
    rw [sorted_cnt s i t hs h1, sorted_cnt (rkL L) i t (rkL_sorted L) h2, cntK_perm hp, cntK_perm (rkL_perm L)]
  have m1 : s.getD i 0 < 4294967296 := hL _ (hp.mem_iff.1 (getD_mem h1))
  have m2 : (rkL L).getD i 0 < 4294967296 := hL _ ((rkL_perm L).mem_iff.1 (getD_mem h2))
  have a1 := (hc (keyN (s.getD i 0))).1 (Nat.le_refl _)
  have a2 := (hc (keyN ((rkL L).getD i 0))).2 (Nat.le_refl _)
  exact keyN_inj m1 m2 (by omega)
/-- By its keys alone. -/
theorem key_ext {a b : Nat} (ha : a < 4294967296) (hb : b < 4294967296) (h : ∀ t, keyN a ≤ t ↔ keyN b ≤ t) : a = b := by
  have a1 := (h (keyN a)).1 (Nat.le_refl _)
  have a2 := (h (keyN b)).2 (Nat.le_refl _)
  exact keyN_inj ha hb (by omega)
theorem cnt_map {L : List Nat} {f : Nat → Nat} (t : Nat) : cntK (L.map f) t = L.countP (fun s => decide (keyN (f s) ≤ t)) := by
  unfold cntK; rw [List.countP_map]; rfl
/-- What rises by key may be done ahead or behind. -/
theorem rk_map {L : List Nat} {f : Nat → Nat} {k : Nat} (hL : ∀ s ∈ L, s < 4294967296) (hf : ∀ s, s < 4294967296 → f s < 4294967296) (hr : ∀ a b, a < 4294967296 → b < 4294967296 → keyN a ≤ keyN b → keyN (f a) ≤ keyN (f b)) (hk : k < L.length) : rkV (L.map f) k = f (rkV L k) := by
  have hp : ((rkL L).map f).Perm (L.map f) := (rkL_perm L).map f
  have hs : ((rkL L).map f).Pairwise (fun a b => leK a b = true) := by
    rw [List.pairwise_map]
    refine (rkL_sorted L).imp_of_mem ?_
    intro a b ha hb hab
    unfold leK at hab ⊢
    simp only [decide_eq_true_eq] at hab ⊢
    exact hr a b (hL a ((rkL_perm L).mem_iff.1 ha)) (hL b ((rkL_perm L).mem_iff.1 hb)) hab
  have he := sorted_eq hp hs (by intro x hx; obtain ⟨y, hy, rfl⟩ := List.mem_map.1 hx; exact hf y (hL y hy))
  unfold rkV
  rw [← he, List.getD_eq_getElem?_getD, List.getElem?_map, List.getD_eq_getElem?_getD, List.getElem?_eq_getElem (by rw [rkL_len]; exact hk)]
  rfl
/-- A sign turned round. -/
def turnN (s : Nat) : Nat := if s < 2147483648 then s + 2147483648 else s - 2147483648
theorem turnN_lt {s : Nat} (h : s < 4294967296) : turnN s < 4294967296 := by unfold turnN; split <;> omega
theorem turnN_key {s : Nat} (h : s < 4294967296) : keyN (turnN s) = 4294967295 - keyN s := by
  unfold turnN keyN; split <;> split <;> omega
theorem countP_not (L : List Nat) (p : Nat → Bool) : L.countP (fun s => !p s) + L.countP p = L.length := by
  have := List.length_eq_countP_add_countP p (l := L)
  have e : L.countP (fun s => !p s) = L.countP (fun a => decide ¬p a = true) := by
    apply List.countP_congr; intro x _; simp
  rw [e]; omega
theorem rk_turn {L : List Nat} {k : Nat} (hL : ∀ s ∈ L, s < 4294967296) (hk : k < L.length) : rkV (L.map turnN) k = turnN (rkV L (L.length - 1 - k)) := by
  have hk' : L.length - 1 - k < L.length := by omega
  have hT : ∀ s ∈ L.map turnN, s < 4294967296 := by intro x hx; obtain ⟨y, hy, rfl⟩ := List.mem_map.1 hx; exact turnN_lt (hL y hy)
  have hm := rk_lt hk' hL
  refine key_ext (rk_lt (by simpa using hk) hT) (turnN_lt hm) fun t => ?_
  rw [rk_le (by simpa using hk), turnN_key hm, cnt_map]
  have hkn := keyN_lt hm
  rcases Nat.lt_or_ge t 4294967295 with g | g
  · have h1 := rk_le (t := 4294967294 - t) hk'
    have e : L.countP (fun s => decide (keyN (turnN s) ≤ t)) = L.countP (fun s => !decide (keyN s ≤ 4294967294 - t)) := by
      apply List.countP_congr
      intro s hs
      have h2 := turnN_key (hL s hs)
      have h3 := keyN_lt (hL s hs)
      rw [h2]
      simp only [Bool.not_eq_true', decide_eq_true_eq, decide_eq_false_iff_not]
      omega
    have h4 := countP_not L (fun s => decide (keyN s ≤ 4294967294 - t))
    rw [← e] at h4
    unfold cntK at h1
    omega
  · have e : L.countP (fun s => decide (keyN (turnN s) ≤ t)) = L.length := by
      rw [List.countP_eq_length]
      intro s hs
      have h2 := turnN_key (hL s hs)
      simp only [decide_eq_true_eq]
      omega
    rw [e]; omega
/-- Of two lists, the one nowhere above the other. -/
theorem rk_mono {L M : List Nat} {k : Nat} (hl : L.length = M.length) (h : ∀ i, i < L.length → keyN (L.getD i 0) ≤ keyN (M.getD i 0)) (hk : k < L.length) : keyN (rkV L k) ≤ keyN (rkV M k) := by
  rw [rk_le hk]
  have h1 := (rk_le (L := M) (k := k) (t := keyN (rkV M k)) (by omega)).1 (Nat.le_refl _)
  refine Nat.lt_of_lt_of_le h1 ?_
  generalize keyN (rkV M k) = t
  clear h1 hk
  induction L generalizing M with
  | nil => cases M with
    | nil => exact Nat.le_refl _
    | cons b M => simp at hl
  | cons a L ih =>
    cases M with
    | nil => simp at hl
    | cons b M =>
      have h0 := h 0 (by simp)
      have h1 := ih (M := M) (by simpa using hl) (fun i hi => by have := h (i + 1) (by simpa using hi); simpa using this)
      rw [List.getD_cons_zero, List.getD_cons_zero] at h0
      unfold cntK at h1 ⊢
      by_cases g : keyN b ≤ t
      · rw [List.countP_cons_of_pos (by simpa using g), List.countP_cons_of_pos (by simp; omega)]; omega
      · rw [List.countP_cons_of_neg (by simpa using g)]
        refine Nat.le_trans h1 ?_
        rw [List.countP_cons]; omega
theorem rk_rises {L : List Nat} {k m : Nat} (hkm : k ≤ m) (hm : m < L.length) : keyN (rkV L k) ≤ keyN (rkV L m) := by
  rw [rk_le (by omega)]
  have := (rk_le hm).1 (Nat.le_refl (keyN (rkV L m)))
  omega
theorem rk_least {L : List Nat} {t : Nat} (h : 0 < L.length) : keyN (rkV L 0) ≤ t ↔ ∃ s ∈ L, keyN s ≤ t := by
  rw [rk_le h]
  unfold cntK
  rw [List.countP_pos_iff]
  simp
theorem rk_most {L : List Nat} {t : Nat} (h : 0 < L.length) : keyN (rkV L (L.length - 1)) ≤ t ↔ ∀ s ∈ L, keyN s ≤ t := by
  rw [rk_le (by omega)]
  have e : L.length - 1 < cntK L t ↔ cntK L t = L.length := by have := cntK_le L t; omega
  rw [e]
  unfold cntK
  rw [List.countP_eq_length]
  simp
end Go.Proofs.Ytikhmlcmmabapaa
/- Windows of a plane and their ranks, plain: P12.4 to P12.7. -/
namespace Go.Proofs.Ytikhmlcmmabapaa
open Go.RowKit
set_option linter.unusedVariables false

/-- The place of a side that stands for a place. -/
def borN (k n : Nat) (i : Int) : Nat := (borV k n i).toNat
theorem borN_lt {k n : Nat} (i : Int) (hn : 1 ≤ n) : borN k n i < n := by
  have := borV_lt (k := k) (n := n) i (by omega)
  unfold borN; omega
theorem borN_eq {k n : Nat} (i : Int) (hn : 1 ≤ n) : ((borN k n i : Nat) : Int) = borV k n i := by
  have := borV_lt (k := k) (n := n) i (by omega)
  unfold borN; omega
theorem borN_self {k n : Nat} {i : Nat} (h : i < n) : borN k n (i : Int) = i := by
  unfold borN borV
  split
  · unfold claV
    rw [if_neg (by omega), if_pos (by omega)]; omega
  · split
    · unfold mirV
      split
      · omega
      · rw [Int.emod_eq_of_lt (by omega) (by omega), if_pos (by omega)]; omega
    · rw [Int.emod_eq_of_lt (by omega) (by omega)]; omega
/-- The samples of a window, row by row. -/
def winL (S : List Nat) (pa pb bd w h x y : Nat) : List Nat := tab w h fun i j => smp S pa (borN bd pa ((x : Int) - (w / 2 : Nat) + (i : Nat))) (borN bd pb ((y : Int) - (h / 2 : Nat) + (j : Nat)))
theorem winL_len (S : List Nat) (pa pb bd w h x y : Nat) : (winL S pa pb bd w h x y).length = w * h := tab_length _ _ _
theorem mem_tab {W H s : Nat} {G : Nat → Nat → Nat} : s ∈ tab W H G ↔ ∃ x y, x < W ∧ y < H ∧ s = G x y := by
  unfold tab
  rw [List.mem_map]
  constructor
  · rintro ⟨i, hi, rfl⟩
    rw [List.mem_range] at hi
    obtain ⟨_, h1, h2⟩ := row_lt hi
    exact ⟨_, _, h1, h2, rfl⟩
  · rintro ⟨x, y, hx, hy, rfl⟩
    exact ⟨y * W + x, List.mem_range.2 (place_lt hx hy), by rw [place_mod y hx, place_div y hx]⟩
theorem winL_lt {S : List Nat} (hb : ∀ i, S.getD i 0 < 4294967296) (pa pb bd w h x y : Nat) : ∀ s ∈ winL S pa pb bd w h x y, s < 4294967296 := by
  intro s hs
  obtain ⟨i, j, _, _, rfl⟩ := mem_tab.1 hs
  exact hb _
/-- What Plane tells at a place; what it tells in all. -/
def rnkV (S : List Nat) (pa pb bd w h k x y : Nat) : Nat := rkV (winL S pa pb bd w h x y) k
def rnkL (S : List Nat) (pa pb bd w h k : Nat) : List Nat := tab pa pb (rnkV S pa pb bd w h k)
theorem rnkV_lt {S : List Nat} (hb : ∀ i, S.getD i 0 < 4294967296) {pa pb bd w h k x y : Nat} (hk : k < w * h) : rnkV S pa pb bd w h k x y < 4294967296 :=
  rk_lt (by rw [winL_len]; exact hk) (winL_lt hb _ _ _ _ _ _ _)
theorem rnkL_len (S : List Nat) (pa pb bd w h k : Nat) : (rnkL S pa pb bd w h k).length = pa * pb := tab_length _ _ _
theorem rnkL_lt {S : List Nat} (hb : ∀ i, S.getD i 0 < 4294967296) {pa pb bd w h k : Nat} (hk : k < w * h) (i : Nat) : (rnkL S pa pb bd w h k).getD i 0 < 4294967296 :=
  tab_lt (by omega) (fun _ _ => rnkV_lt hb hk) i
theorem smp_in {S : List Nat} {pa pb x y : Nat} (hl : S.length = pa * pb) (hx : x < pa) (hy : y < pb) : y * pa + x < S.length := by rw [hl]; exact place_lt hx hy
theorem smp_map {S : List Nat} {pa pb x y : Nat} {f : Nat → Nat} (hl : S.length = pa * pb) (hx : x < pa) (hy : y < pb) : smp (S.map f) pa x y = f (smp S pa x y) := by
  unfold smp
  rw [List.getD_eq_getElem?_getD, List.getElem?_map, List.getD_eq_getElem?_getD, List.getElem?_eq_getElem (smp_in hl hx hy)]; rfl
theorem winL_map {S : List Nat} {pa pb bd w h x y : Nat} {f : Nat → Nat} (ha : 1 ≤ pa) (hb : 1 ≤ pb) (hl : S.length = pa * pb) : winL (S.map f) pa pb bd w h x y = (winL S pa pb bd w h x y).map f := by
  unfold winL
  unfold tab
  rw [List.map_map]
  apply List.map_congr_left
  intro i _
  exact smp_map hl (borN_lt _ ha) (borN_lt _ hb)
/-- P12.6. -/
theorem rnk_map {S : List Nat} {pa pb bd w h k : Nat} {f : Nat → Nat} (ha : 1 ≤ pa) (hb : 1 ≤ pb) (hl : S.length = pa * pb) (hS : ∀ i, S.getD i 0 < 4294967296) (hf : ∀ s, s < 4294967296 → f s < 4294967296) (hr : ∀ a b, a < 4294967296 → b < 4294967296 → keyN a ≤ keyN b → keyN (f a) ≤ keyN (f b)) (hk : k < w * h) (x y : Nat) : rnkV (S.map f) pa pb bd w h k x y = f (rnkV S pa pb bd w h k x y) := by
  unfold rnkV
  rw [winL_map ha hb hl]
  exact rk_map (winL_lt hS _ _ _ _ _ _ _) hf hr (by rw [winL_len]; exact hk)
theorem rnk_turn {S : List Nat} {pa pb bd w h k : Nat} (ha : 1 ≤ pa) (hb : 1 ≤ pb) (hl : S.length = pa * pb) (hS : ∀ i, S.getD i 0 < 4294967296) (hk : k < w * h) (x y : Nat) : rnkV (S.map turnN) pa pb bd w h k x y = turnN (rnkV S pa pb bd w h (w * h - 1 - k) x y) := by
  unfold rnkV
  rw [winL_map ha hb hl]
  have := rk_turn (k := k) (winL_lt hS pa pb bd w h x y) (by rw [winL_len]; exact hk)
  rw [winL_len] at this
  exact this
/-- P12.5. -/
theorem rnk_mono {S T : List Nat} {pa pb bd w h k : Nat} (ha : 1 ≤ pa) (hb : 1 ≤ pb) (hl : S.length = pa * pb) (h1 : ∀ i, i < S.length → keyN (S.getD i 0) ≤ keyN (T.getD i 0)) (hk : k < w * h) (x y : Nat) : keyN (rnkV S pa pb bd w h k x y) ≤ keyN (rnkV T pa pb bd w h k x y) := by
  unfold rnkV
  refine rk_mono (by rw [winL_len, winL_len]) (fun i hi => ?_) (by rw [winL_len]; exact hk)
  rw [winL_len] at hi
  unfold winL
  rw [tab_get hi, tab_get hi]
  exact h1 _ (smp_in hl (borN_lt _ ha) (borN_lt _ hb))
/-- The place itself lies in its window. -/
theorem win_self {S : List Nat} {pa pb bd w h x y : Nat} (hx : x < pa) (hy : y < pb) (hw : 1 ≤ w) (hh : 1 ≤ h) : smp S pa x y ∈ winL S pa pb bd w h x y := by
  refine mem_tab.2 ⟨w / 2, h / 2, by omega, by omega, ?_⟩
  have e1 : ((x : Int) - (w / 2 : Nat) + (w / 2 : Nat)) = (x : Int) := by omega
  have e2 : ((y : Int) - (h / 2 : Nat) + (h / 2 : Nat)) = (y : Int) := by omega
  rw [e1, e2, borN_self hx, borN_self hy]
/-- P12.7. -/
theorem rnk_least {S : List Nat} {pa pb bd w h x y t : Nat} (hw : 1 ≤ w) (hh : 1 ≤ h) : keyN (rnkV S pa pb bd w h 0 x y) ≤ t ↔ ∃ i j, i < w ∧ j < h ∧ keyN (smp S pa (borN bd pa ((x : Int) - (w / 2 : Nat) + (i : Nat))) (borN bd pb ((y : Int) - (h / 2 : Nat) + (j : Nat)))) ≤ t := by
  unfold rnkV
  rw [rk_least (by rw [winL_len]; exact Nat.mul_pos hw hh)]
  constructor
  · rintro ⟨s, hs, ht⟩
    obtain ⟨i, j, h1, h2, rfl⟩ := mem_tab.1 hs
    exact ⟨i, j, h1, h2, ht⟩
  · rintro ⟨i, j, h1, h2, ht⟩
    exact ⟨_, mem_tab.2 ⟨i, j, h1, h2, rfl⟩, ht⟩
theorem rnk_most {S : List Nat} {pa pb bd w h x y t : Nat} (hw : 1 ≤ w) (hh : 1 ≤ h) : keyN (rnkV S pa pb bd w h (w * h - 1) x y) ≤ t ↔ ∀ i j, i < w → j < h → keyN (smp S pa (borN bd pa ((x : Int) - (w / 2 : Nat) + (i : Nat))) (borN bd pb ((y : Int) - (h / 2 : Nat) + (j : Nat)))) ≤ t := by
  unfold rnkV
  have := rk_most (L := winL S pa pb bd w h x y) (t := t) (by rw [winL_len]; exact Nat.mul_pos hw hh)
  rw [winL_len] at this
  rw [this]
  constructor
  · intro g i j h1 h2
    exact g _ (mem_tab.2 ⟨i, j, h1, h2, rfl⟩)
  · intro g s hs
    obtain ⟨i, j, h1, h2, rfl⟩ := mem_tab.1 hs
    exact g i j h1 h2
theorem sides_least {S : List Nat} {pa pb bd w h : Nat} (hS : ∀ i, S.getD i 0 < 4294967296) (hw : 1 ≤ w) (hh : 1 ≤ h) (ha : 1 ≤ pa) (hb : 1 ≤ pb) : rnkL (rnkL S pa pb bd w 1 0) pa pb bd 1 h 0 = rnkL S pa pb bd w h 0 := by
  unfold rnkL
  apply tab_ext
  intro x y hx hy
  refine key_ext (rnkV_lt (rnkL_lt hS (by rw [Nat.mul_one]; omega)) (by rw [Nat.one_mul]; omega)) (rnkV_lt hS (Nat.mul_pos hw hh)) fun t => ?_
  rw [rnk_least (Nat.le_refl 1) hh, rnk_least hw hh]
  have e1 : ((x : Int) - (1 / 2 : Nat) + ((0 : Nat) : Int)) = (x : Int) := by omega
  constructor
  · rintro ⟨i, j, h1, h2, h3⟩
    obtain rfl : i = 0 := by omega
    rw [e1, borN_self hx, smp_tab hx (borN_lt _ hb), rnk_least hw (Nat.le_refl 1)] at h3
    obtain ⟨i, l, h4, h5, h6⟩ := h3
    obtain rfl : l = 0 := by omega
    refine ⟨i, j, h4, h2, ?_⟩
    have e2 : (((borN bd pb ((y : Int) - (h / 2 : Nat) + (j : Nat)) : Nat) : Int) - (1 / 2 : Nat) + ((0 : Nat) : Int)) = ((borN bd pb ((y : Int) - (h / 2 : Nat) + (j : Nat)) : Nat) : Int) := by omega
    rw [e2, borN_self (borN_lt _ hb)] at h6
    exact h6
  · rintro ⟨i, j, h1, h2, h3⟩
    refine ⟨0, j, by omega, h2, ?_⟩
    rw [e1, borN_self hx, smp_tab hx (borN_lt _ hb), rnk_least hw (Nat.le_refl 1)]
    refine ⟨i, 0, h1, by omega, ?_⟩
    have e2 : (((borN bd pb ((y : Int) - (h / 2 : Nat) + (j : Nat)) : Nat) : Int) - (1 / 2 : Nat) + ((0 : Nat) : Int)) = ((borN bd pb ((y : Int) - (h / 2 : Nat) + (j : Nat)) : Nat) : Int) := by omega
    rw [e2, borN_self (borN_lt _ hb)]
    exact h3
theorem sides_most {S : List Nat} {pa pb bd w h : Nat} (hS : ∀ i, S.getD i 0 < 4294967296) (hw : 1 ≤ w) (hh : 1 ≤ h) (ha : 1 ≤ pa) (hb : 1 ≤ pb) : rnkL (rnkL S pa pb bd w 1 (w * 1 - 1)) pa pb bd 1 h (1 * h - 1) = rnkL S pa pb bd w h (w * h - 1) := by
  have hwh := Nat.mul_pos hw hh
  unfold rnkL
  apply tab_ext
  intro x y hx hy
  refine key_ext (rnkV_lt (rnkL_lt hS (by rw [Nat.mul_one]; omega)) (by rw [Nat.one_mul]; omega)) (rnkV_lt hS (by omega)) fun t => ?_
  rw [rnk_most (Nat.le_refl 1) hh, rnk_most hw hh]
  have e1 : ((x : Int) - (1 / 2 : Nat) + ((0 : Nat) : Int)) = (x : Int) := by omega
  have e2 : ∀ j : Nat, (((borN bd pb ((y : Int) - (h / 2 : Nat) + (j : Nat)) : Nat) : Int) - (1 / 2 : Nat) + ((0 : Nat) : Int)) = ((borN bd pb ((y : Int) - (h / 2 : Nat) + (j : Nat)) : Nat) : Int) := fun j => by omega
  constructor
  · intro g i j h1 h2
    have h3 := g 0 j (by omega) h2
    rw [e1, borN_self hx, smp_tab hx (borN_lt _ hb), rnk_most hw (Nat.le_refl 1)] at h3
    have h6 := h3 i 0 h1 (by omega)
    rw [e2, borN_self (borN_lt _ hb)] at h6
    exact h6
  · intro g i j h1 h2
    obtain rfl : i = 0 := by omega
    rw [e1, borN_self hx, smp_tab hx (borN_lt _ hb), rnk_most hw (Nat.le_refl 1)]
    intro i l h4 h5
    obtain rfl : l = 0 := by omega
    rw [e2, borN_self (borN_lt _ hb)]
    exact g i j h4 h2
/-- A window of one place. -/
theorem rnk_one {S : List Nat} {pa pb bd : Nat} (hl : S.length = pa * pb) (hS : ∀ i, S.getD i 0 < 4294967296) : rnkL S pa pb bd 1 1 0 = S := by
  rw [← tab_self hl]
  unfold rnkL
  apply tab_ext
  intro x y hx hy
  rw [tab_self hl]
  have hm : rkV (winL S pa pb bd 1 1 x y) 0 ∈ winL S pa pb bd 1 1 x y := rk_mem (by rw [winL_len]; omega)
  obtain ⟨i, j, h1, h2, h3⟩ := mem_tab.1 hm
  obtain rfl : i = 0 := by omega
  obtain rfl : j = 0 := by omega
  have e1 : ((x : Int) - (1 / 2 : Nat) + ((0 : Nat) : Int)) = (x : Int) := by omega
  have e2 : ((y : Int) - (1 / 2 : Nat) + ((0 : Nat) : Int)) = (y : Int) := by omega
  rw [e1, e2, borN_self hx, borN_self hy] at h3
  exact h3
end Go.Proofs.Ytikhmlcmmabapaa
/- rank: what is refused; rectangles. -/
namespace Go.Proofs.Ytikhmlcmmabapaa
open Go.RowKit
set_option linter.unusedVariables false
set_option linter.unusedSimpArgs false

/-- A side of a window. -/
def rsdB (n : Int) : Bool := decide (1 ≤ n) && decide (n ≤ 15)
theorem rsdB_true {n : Int} : rsdB n = true ↔ 1 ≤ n ∧ n ≤ 15 := by unfold rsdB; simp
theorem rside_any (n : Int) (w : World) : Calls Try.prog 33 #[.int .i64 n] w fun e w' => e = .returned (.bool (rsdB n)) ∧ w' = w := by
  by_cases h1 : 1 ≤ n
  · by_cases h2 : n ≤ 15
    · have e : rsdB n = true := rsdB_true.2 ⟨h1, h2⟩
      rw [e]
      clear e
      go_enter Try.func33, Try.ntmps33
      go_wp2_with fail
      go_ret
      exact ⟨rfl, rfl⟩
    · have e : rsdB n = false := by unfold rsdB; simp [h2]
      rw [e]
      clear e
      go_enter Try.func33, Try.ntmps33
      go_wp2_with fail
      go_ret
      exact ⟨rfl, rfl⟩
  · have e : rsdB n = false := by unfold rsdB; simp [h1]
    rw [e]
    clear e
    go_enter Try.func33, Try.ntmps33
    go_wp2_with fail
    go_ret
    exact ⟨rfl, rfl⟩
/-- How many places a window has. -/
def cntV (w h : Int) : Int := if rsdB w = true then (if rsdB h = true then w * h else 0) else 0
theorem win_area {a b : Int} (ha : 1 ≤ a ∧ a ≤ 15) (hb : 1 ≤ b ∧ b ≤ 15) : 1 ≤ a * b ∧ a * b ≤ 225 := by
  have h1 : 1 * 1 ≤ a * b := Int.mul_le_mul ha.1 hb.1 (by omega) (by omega)
  have h2 : a * b ≤ 15 * 15 := Int.mul_le_mul ha.2 hb.2 (by omega) (by omega)
  omega
theorem cntV_bd (w h : Int) : 0 ≤ cntV w h ∧ cntV w h ≤ 225 := by
  unfold cntV
  split
  · rename_i h1
    split
    · rename_i h2
      have := win_area (rsdB_true.1 h1) (rsdB_true.1 h2)
      omega
    · omega
  · omega
theorem cntV_pos {w h : Int} (g : cntV w h ≠ 0) : ∃ a b : Nat, w = (a : Int) ∧ h = (b : Int) ∧ 1 ≤ a ∧ a ≤ 15 ∧ 1 ≤ b ∧ b ≤ 15 ∧ cntV w h = ((a * b : Nat) : Int) := by
  unfold cntV at g ⊢
  split at g
  · rename_i h1
    split at g
    · rename_i h2
      have h3 := rsdB_true.1 h1
      have h4 := rsdB_true.1 h2
      rw [if_pos h1, if_pos h2]
      exact ⟨w.toNat, h.toNat, by omega, by omega, by omega, by omega, by omega, by omega, by rw [Int.natCast_mul]; congr 1 <;> omega⟩
    · exact absurd rfl g
  · exact absurd rfl g
theorem cntV_of {a b : Nat} (h1 : 1 ≤ a) (h2 : a ≤ 15) (h3 : 1 ≤ b) (h4 : b ≤ 15) : cntV a b = ((a * b : Nat) : Int) := by
  unfold cntV
  rw [if_pos (rsdB_true.2 ⟨by omega, by omega⟩), if_pos (rsdB_true.2 ⟨by omega, by omega⟩), Int.natCast_mul]
theorem count_any (W H : Int) (w : World) : Calls Try.prog 23 #[.int .i64 W, .int .i64 H] w fun e w' => e = .returned (.int .i64 (cntV W H)) ∧ w' = w := by
  unfold cntV
  cases hW : rsdB W
  · have A : Calls Try.prog 33 #[.int .i64 W] w fun e w' => e = .returned (.bool false) ∧ w' = w := hW ▸ rside_any W w
    go_enter Try.func23, Try.ntmps23
    go_wp2_with fail
    refine A.mono ?_
    rintro e w1 ⟨rfl, rfl⟩
    go_wp2_with fail
    go_ret
    exact ⟨rfl, rfl⟩
  · have A : Calls Try.prog 33 #[.int .i64 W] w fun e w' => e = .returned (.bool true) ∧ w' = w := hW ▸ rside_any W w
    cases hH : rsdB H
    · have B : Calls Try.prog 33 #[.int .i64 H] w fun e w' => e = .returned (.bool false) ∧ w' = w := hH ▸ rside_any H w
      go_enter Try.func23, Try.ntmps23
      go_wp2_with fail
      refine A.mono ?_
      rintro e w1 ⟨rfl, rfl⟩
      go_wp2_with fail
      refine B.mono ?_
      rintro e w1 ⟨rfl, rfl⟩
      go_wp2_with fail
      go_ret
      exact ⟨rfl, rfl⟩
    · have B : Calls Try.prog 33 #[.int .i64 H] w fun e w' => e = .returned (.bool true) ∧ w' = w := hH ▸ rside_any H w
      have h3 := win_area (rsdB_true.1 hW) (rsdB_true.1 hH)
      clear hW hH
      rw [if_pos rfl, if_pos rfl]
      generalize hA : W * H = A0 at h3
      go_enter Try.func23, Try.ntmps23
      go_wp2_with fail
      refine A.mono ?_
      rintro e w1 ⟨rfl, rfl⟩
      go_wp2_with fail
      refine B.mono ?_
      rintro e w1 ⟨rfl, rfl⟩
      go_wp2_with fail
      go_ret
      exact ⟨rfl, rfl⟩

/-- P12.2's errors. -/
def rkE (pw ph : Int) (n : Nat) (bd W H k : Int) : Int := if chk pw ph n = 0 then (if cntV W H = 0 then 120 else if k < 0 then 121 else if cntV W H ≤ k then 121 else borE bd pw) else chk pw ph n
set_option maxHeartbeats 2000000 in
theorem refusal12_any (pw ph : Int) (ad : Option Addr) (n c : Nat) (bd W H k : Int) (hn : n ≤ 9223372036854775807) (w : World) :
    Calls Try.prog 24 #[.agg #[.int .i64 pw, .int .i64 ph, .slice ad n c], .int .i64 bd, .int .i64 W, .int .i64 H, .int .i64 k] w fun e w' => e = .returned (.int .i64 (rkE pw ph n bd W H k)) ∧ Q w w' := by
  obtain ⟨w1, hw1⟩ : ∃ w1, w.alloc (.cells #[.int .i64 pw, .int .i64 ph, .slice ad n c] 24) = w1 := ⟨_, rfl⟩
  have HQ : Hid (Q w w1) := by show Q w w1; rw [← hw1]; exact (Q.refl w).cells _ _
  have k0 : w1.cell? ⟨w.heap.size, 0, none⟩ = some (.int .i64 pw) := by rw [← hw1]; simp [go_sem]
  have k1 : w1.cell? ⟨w.heap.size, 1, none⟩ = some (.int .i64 ph) := by rw [← hw1]; simp [go_sem]
  have k2 : w1.cell? ⟨w.heap.size, 2, none⟩ = some (.slice ad n c) := by rw [← hw1]; simp [go_sem]
  have A := check_any pw ph ad n c hn w1
  have B := fun x => count_any W H x
  have D := fun x => border_any bd pw 0 x
  unfold rkE
  obtain ⟨E, hE⟩ : ∃ E, chk pw ph n = E := ⟨_, rfl⟩
  obtain ⟨M, hM⟩ : ∃ M, cntV W H = M := ⟨_, rfl⟩
  obtain ⟨b1, hb1⟩ : ∃ b1, borA bd pw 0 = b1 := ⟨_, rfl⟩
  obtain ⟨b2, hb2⟩ : ∃ b2, borE bd pw = b2 := ⟨_, rfl⟩
  rw [hE] at A
  rw [hM] at B
  rw [hb1, hb2] at D
  rw [hE, hM, hb2]
  clear hE hM hb1 hb2
  have HA : Hid _ := A
  have HB : Hid _ := B
  have HD : Hid _ := D
  clear A B D
  by_cases g0 : E = 0
  · subst g0
    rw [if_pos rfl]
    by_cases g1 : M = 0
    · subst g1
      rw [if_pos rfl]
      go_enter Try.func24, Try.ntmps24
      go_wp2_with fail
      refine Calls.mono HA.out ?_
      rintro e w2 ⟨rfl, q2⟩
      have k0 := q2.cell k0
      have HQ2 : Hid (Q w w2) := HQ.out.trans q2
      clear q2
      go_wp2_with fail
      refine Calls.mono (HB.out _) ?_
      rintro e w3 ⟨rfl, hw2⟩
      obtain rfl := hw2.symm
      go_wp2_with fail
      go_ret
      exact ⟨rfl, HQ2.out⟩
    · rw [if_neg g1]
      have g1b : (M == 0) = false := by simp [g1]
      by_cases g2 : k < 0
      · rw [if_pos g2]
        go_enter Try.func24, Try.ntmps24
        go_wp2_with fail
        refine Calls.mono HA.out ?_
        rintro e w2 ⟨rfl, q2⟩
        have k0 := q2.cell k0
        have HQ2 : Hid (Q w w2) := HQ.out.trans q2
        clear q2
        go_wp2_with fail
        refine Calls.mono (HB.out _) ?_
        rintro e w3 ⟨rfl, hw2⟩
        obtain rfl := hw2.symm
        go_wp2_with fail
        go_ret
        exact ⟨rfl, HQ2.out⟩
      · rw [if_neg g2]
        by_cases g3 : M ≤ k
        · rw [if_pos g3]
          go_enter Try.func24, Try.ntmps24
          go_wp2_with fail
          refine Calls.mono HA.out ?_
          rintro e w2 ⟨rfl, q2⟩
          have k0 := q2.cell k0
          have HQ2 : Hid (Q w w2) := HQ.out.trans q2
          clear q2
          go_wp2_with fail
          refine Calls.mono (HB.out _) ?_
          rintro e w3 ⟨rfl, hw2⟩
          obtain rfl := hw2.symm
          go_wp2_with fail
          go_ret
          exact ⟨rfl, HQ2.out⟩
        · rw [if_neg g3]
          have g4 : k < M := by omega
          go_enter Try.func24, Try.ntmps24
          go_wp2_with fail
          refine Calls.mono HA.out ?_
          rintro e w2 ⟨rfl, q2⟩
          have k0 := q2.cell k0
          have HQ2 : Hid (Q w w2) := HQ.out.trans q2
          clear q2
          go_wp2_with fail
          refine Calls.mono (HB.out _) ?_
          rintro e w3 ⟨rfl, hw2⟩
          obtain rfl := hw2.symm
          go_wp2_with fail
          refine Calls.mono (HD.out _) ?_
          rintro e w3 ⟨rfl, hw2⟩
          obtain rfl := hw2.symm
          go_wp2_with fail
          go_ret
          exact ⟨rfl, HQ2.out⟩
  · rw [if_neg g0]
    have g0b : (E == 0) = false := by simp [g0]
    go_enter Try.func24, Try.ntmps24
    go_wp2_with fail
    refine Calls.mono HA.out ?_
    rintro e w2 ⟨rfl, q2⟩
    have k0 := q2.cell k0
    have HQ2 : Hid (Q w w2) := HQ.out.trans q2
    clear q2
    go_wp2_with fail
    go_ret
    exact ⟨rfl, HQ2.out⟩

/-- A piece of a side. -/
def spnB (lo hi n : Int) : Bool := decide (0 ≤ lo) && decide (lo < hi) && decide (hi ≤ n)
theorem isspan_any (lo hi n : Int) (w : World) : Calls Try.prog 40 #[.int .i64 lo, .int .i64 hi, .int .i64 n] w fun e w' => e = .returned (.bool (spnB lo hi n)) ∧ w' = w := by
  unfold spnB
  by_cases h1 : 0 ≤ lo
  · by_cases h2 : lo < hi
    · by_cases h3 : hi ≤ n
      · simp only [h1, h2, h3, decide_true, Bool.and_true, Bool.true_and]
        go_enter Try.func40, Try.ntmps40
        go_wp2_with fail
        go_ret
        exact ⟨rfl, rfl⟩
      · simp only [h1, h2, h3, decide_true, decide_false, Bool.and_true, Bool.true_and, Bool.and_false]
        go_enter Try.func40, Try.ntmps40
        go_wp2_with fail
        go_ret
        exact ⟨rfl, rfl⟩
    · simp only [h1, h2, decide_true, decide_false, Bool.and_true, Bool.true_and, Bool.and_false, Bool.false_and]
      go_enter Try.func40, Try.ntmps40
      go_wp2_with fail
      go_ret
      exact ⟨rfl, rfl⟩
  · simp only [h1, decide_false, Bool.false_and]
    go_enter Try.func40, Try.ntmps40
    go_wp2_with fail
    go_ret
    exact ⟨rfl, rfl⟩
theorem iswithin_any (x0 y0 x1 y1 W H : Int) (w : World) : Calls Try.prog 27 #[.agg #[.int .i64 x0, .int .i64 y0, .int .i64 x1, .int .i64 y1], .int .i64 W, .int .i64 H] w fun e w' => e = .returned (.bool (spnB x0 x1 W && spnB y0 y1 H)) ∧ Q w w' := by
  have HQ : Hid (∀ a b, Q w (w.alloc (.cells a b))) := fun a b => (Q.refl w).cells _ _
  have A := fun x => isspan_any x0 x1 W x
  have B := fun x => isspan_any y0 y1 H x
  generalize spnB x0 x1 W = s at A
  generalize spnB y0 y1 H = t at B
  have HA : Hid _ := A
  have HB : Hid _ := B
  clear A B
  cases s
  · go_enter Try.func27, Try.ntmps27
    go_wp2_with fail
    refine Calls.mono (HA.out _) ?_
    rintro e w2 ⟨rfl, hw2⟩
    obtain rfl := hw2.symm
    go_wp2_with fail
    go_ret
    exact ⟨rfl, HQ.out _ _⟩
  · go_enter Try.func27, Try.ntmps27
    go_wp2_with fail
    refine Calls.mono (HA.out _) ?_
    rintro e w2 ⟨rfl, hw2⟩
    obtain rfl := hw2.symm
    go_wp2_with fail
    refine Calls.mono (HB.out _) ?_
    rintro e w2 ⟨rfl, hw2⟩
    obtain rfl := hw2.symm
    go_wp2_with fail
    go_ret
    exact ⟨by simp, HQ.out _ _⟩
end Go.Proofs.Ytikhmlcmmabapaa
