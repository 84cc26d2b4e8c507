/- Plain facts on rounding to the nearest, ties to even: closed forms, scaling, sticky bits, rising. -/
import Ieee.Arith
import Derived.Test.YtmgpaheobhfioaaDoorG0d42866f
namespace Go.Proofs.YtmgpaheobhfioaaDoor

/-- Does n / 2^d go up? -/
abbrev goesUp (n d : Nat) : Prop := 2 ^ d < 2 * (n % 2 ^ d) ∨ (2 ^ d = 2 * (n % 2 ^ d) ∧ n / 2 ^ d % 2 = 1)
/-- n / 2^d, rounded to the nearest, ties to even. -/
def rne (n d : Nat) : Nat := n / 2 ^ d + if goesUp n d then 1 else 0

theorem cut_rne (neg : Bool) (n d : Nat) : Ieee.Toward.even.cut neg n d = rne n d := by
  unfold Ieee.Toward.cut rne
  have key : ∀ e, ((decide ((1 <<< e : Nat) < 2 * (n % (1 <<< e))) || ((1 <<< e : Nat) == 2 * (n % (1 <<< e)) && n / (1 <<< e) % 2 == 1))).toNat = if goesUp n e then 1 else 0 := by
    intro e
    rw [Nat.shiftLeft_eq, Nat.one_mul]
    by_cases h1 : 2 ^ e < 2 * (n % 2 ^ e)
    · have gg : goesUp n e := Or.inl h1
      rw [if_pos gg]; simp [h1]
    · by_cases h2 : 2 ^ e = 2 * (n % 2 ^ e)
      · by_cases h3 : n / 2 ^ e % 2 = 1
        · have gg : goesUp n e := Or.inr ⟨h2, h3⟩
          rw [if_pos gg]
          have e1 : (2 ^ e == 2 * (n % 2 ^ e)) = true := beq_iff_eq.2 h2
          rw [e1, h3]; simp
        · have gg : ¬ goesUp n e := fun h => by
            rcases h with h | h
            · exact h1 h
            · exact h3 h.2
          rw [if_neg gg]
          have e1 : (n / 2 ^ e % 2 == 1) = false := beq_eq_false_iff_ne.2 h3
          rw [e1]; simp [h1]
      · have gg : ¬ goesUp n e := fun h => by
          rcases h with h | h
          · exact h1 h
          · exact h2 h.1
        rw [if_neg gg]
        have e1 : (2 ^ e == 2 * (n % 2 ^ e)) = false := beq_eq_false_iff_ne.2 h2
        rw [e1]; simp [h1]
  by_cases hd : d ≤ n.log2 + 2
  · rw [Nat.min_eq_left hd]
    show n / (1 <<< d) + _ = _
    rw [key d, Nat.shiftLeft_eq, Nat.one_mul]
  · rw [Nat.min_eq_right (by omega)]
    show n / (1 <<< (n.log2 + 2)) + _ = _
    rw [key (n.log2 + 2), Nat.shiftLeft_eq, Nat.one_mul]
    have hn : n < 2 ^ (n.log2 + 1) := Nat.lt_log2_self
    have a1 : 2 ^ (n.log2 + 2) = 2 * 2 ^ (n.log2 + 1) := by rw [Nat.pow_succ]; omega
    have a2 : 2 ^ (n.log2 + 2) ≤ 2 ^ d := Nat.pow_le_pow_right (by omega) (by omega)
    have b1 : n / 2 ^ (n.log2 + 2) = 0 := Nat.div_eq_of_lt (by omega)
    have b2 : n % 2 ^ (n.log2 + 2) = n := Nat.mod_eq_of_lt (by omega)
    have b3 : n / 2 ^ d = 0 := Nat.div_eq_of_lt (by omega)
    have b4 : n % 2 ^ d = n := Nat.mod_eq_of_lt (by omega)
    have c1 : ¬ goesUp n (n.log2 + 2) := by unfold goesUp; rw [b2]; omega
    have c2 : ¬ goesUp n d := by unfold goesUp; rw [b4]; omega
    rw [if_neg c1, if_neg c2, b1, b3]

theorem rne_zero (n : Nat) : rne n 0 = n := by
  have g : ¬ goesUp n 0 := by unfold goesUp; rw [Nat.pow_zero, Nat.mod_one]; omega
  unfold rne
  rw [if_neg g, Nat.pow_zero, Nat.div_one, Nat.add_zero]

/-- Factors of two go. -/
theorem rne_scale (n d k : Nat) : rne (n * 2 ^ k) (d + k) = rne n d := by
  have hk := Nat.two_pow_pos k
  have e1 : n * 2 ^ k / 2 ^ (d + k) = n / 2 ^ d := by rw [Nat.pow_add, Nat.mul_div_mul_right _ _ hk]
  have e2 : n * 2 ^ k % 2 ^ (d + k) = n % 2 ^ d * 2 ^ k := by rw [Nat.pow_add, Nat.mul_mod_mul_right]
  have e3 : goesUp (n * 2 ^ k) (d + k) ↔ goesUp n d := by
    unfold goesUp
    rw [e1, e2, Nat.pow_add, ← Nat.mul_assoc]
    constructor
    · rintro (h | ⟨h, g⟩)
      · exact Or.inl (Nat.lt_of_mul_lt_mul_right h)
      · exact Or.inr ⟨Nat.eq_of_mul_eq_mul_right hk h, g⟩
    · rintro (h | ⟨h, g⟩)
      · exact Or.inl (Nat.mul_lt_mul_of_pos_right h hk)
      · exact Or.inr ⟨congrArg (· * 2 ^ k) h, g⟩
  unfold rne
  by_cases h : goesUp n d
  · rw [if_pos h, if_pos (e3.2 h), e1]
  · rw [if_neg h, if_neg (fun g => h (e3.1 g)), e1]

theorem rne_exact (n d : Nat) : rne (n * 2 ^ d) d = n := by
  have := rne_scale n 0 d
  rw [Nat.zero_add, rne_zero] at this; exact this

/-- It rises. -/
theorem rne_mono {m n : Nat} (d : Nat) (h : m ≤ n) : rne m d ≤ rne n d := by
  have hq : m / 2 ^ d ≤ n / 2 ^ d := Nat.div_le_div_right h
  unfold rne
  by_cases e : m / 2 ^ d = n / 2 ^ d
  · by_cases g : goesUp m d
    · have g' : goesUp n d := by
        have h1 := Nat.div_add_mod m (2 ^ d)
        have h2 := Nat.div_add_mod n (2 ^ d)
        unfold goesUp at g ⊢
        rw [e] at h1 g
        omega
      rw [if_pos g, if_pos g', e]; exact Nat.le_refl _
    · rw [if_neg g, e]; omega
  · split <;> split <;> omega

theorem rne_upper {n d k : Nat} (h : n ≤ k * 2 ^ d) : rne n d ≤ k := by
  have := rne_mono d h
  rwa [rne_exact] at this

/-- n without its k lowest bits, and a bit that tells whether there was anything in them. -/
def stick (n k : Nat) : Nat := 2 * (n / 2 ^ k) + if n % 2 ^ k = 0 then 0 else 1

theorem rne_stick {n k d : Nat} (h : k + 1 ≤ d) : rne (stick n k) (d - k + 1) = rne n d := by
  obtain ⟨j, rfl⟩ : ∃ j, d = k + j + 1 := ⟨d - k - 1, by omega⟩
  have ej : k + j + 1 - k + 1 = j + 2 := by omega
  rw [ej]
  have hk := Nat.two_pow_pos k
  have hj := Nat.two_pow_pos j
  have hn := Nat.div_add_mod n (2 ^ k)
  have hr := Nat.mod_lt n hk
  obtain ⟨q, hq⟩ : ∃ q, q = n / 2 ^ k := ⟨_, rfl⟩
  obtain ⟨r, hr'⟩ : ∃ r, r = n % 2 ^ k := ⟨_, rfl⟩
  rw [← hq, ← hr'] at hn
  rw [← hr'] at hr
  have hs : stick n k = 2 * q + if r = 0 then 0 else 1 := by unfold stick; rw [← hq, ← hr']
  -- q = 2^(j+1) * u + v
  have hqq := Nat.div_add_mod q (2 ^ (j + 1))
  have hv := Nat.mod_lt q (Nat.two_pow_pos (j + 1))
  obtain ⟨u, hu⟩ : ∃ u, u = q / 2 ^ (j + 1) := ⟨_, rfl⟩
  obtain ⟨v, hv'⟩ : ∃ v, v = q % 2 ^ (j + 1) := ⟨_, rfl⟩
  rw [← hu, ← hv'] at hqq
  rw [← hv'] at hv
  have p1 : 2 ^ (j + 1) = 2 * 2 ^ j := by rw [Nat.pow_succ]; omega
  have p2 : 2 ^ (j + 2) = 4 * 2 ^ j := by rw [Nat.pow_succ, p1]; omega
  have p3 : 2 ^ (k + j + 1) = 2 ^ k * (2 * 2 ^ j) := by rw [Nat.add_assoc, Nat.pow_add, p1]
  have d1 : n / 2 ^ (k + j + 1) = u := by rw [Nat.add_assoc, Nat.pow_add, ← Nat.div_div_eq_div_mul, ← hq, ← hu]
  have m1 : n % 2 ^ (k + j + 1) = 2 ^ k * v + r := by
    have h1 := Nat.div_add_mod n (2 ^ (k + j + 1))
    rw [d1, p3] at h1
    have h2 : n = 2 ^ k * (2 * 2 ^ j) * u + (2 ^ k * v + r) := by
      rw [← hn, ← hqq, p1, Nat.mul_add, ← Nat.mul_assoc]; omega
    rw [p3]; omega
  have st : (if r = 0 then 0 else 1) ≤ 1 := by split <;> omega
  obtain ⟨t, ht⟩ : ∃ t : Nat, t = if r = 0 then 0 else 1 := ⟨_, rfl⟩
  rw [← ht] at st hs
  have s2 : stick n k = 4 * 2 ^ j * u + (2 * v + t) := by rw [hs, ← hqq, p1, Nat.mul_add, ← Nat.mul_assoc, ← Nat.mul_assoc, Nat.add_assoc]
  have lt2 : 2 * v + t < 4 * 2 ^ j := by omega
  have d2 : stick n k / 2 ^ (j + 2) = u := by rw [p2, s2, Nat.mul_add_div (by omega), Nat.div_eq_of_lt lt2, Nat.add_zero]
  have m2 : stick n k % 2 ^ (j + 2) = 2 * v + t := by rw [p2, s2, Nat.mul_add_mod, Nat.mod_eq_of_lt lt2]
  have hvk : ∀ x : Nat, 2 ^ k * x + 2 ^ k = 2 ^ k * (x + 1) := fun x => by rw [Nat.mul_add, Nat.mul_one]
  have g : goesUp (stick n k) (j + 2) ↔ goesUp n (k + j + 1) := by
    unfold goesUp
    rw [d1, d2, m1, m2, p2, p3]
    have c1 : 4 * 2 ^ j < 2 * (2 * v + t) ↔ 2 ^ k * (2 * 2 ^ j) < 2 * (2 ^ k * v + r) := by
      rcases Nat.lt_trichotomy v (2 ^ j) with hlt | heq | hgt
      · have := Nat.mul_le_mul_left (2 ^ k) (show v + 1 ≤ 2 ^ j from hlt)
        have e := hvk v
        have e2 : 2 ^ k * (2 * 2 ^ j) = 2 * (2 ^ k * 2 ^ j) := by rw [← Nat.mul_assoc, Nat.mul_comm (2 ^ k) 2, Nat.mul_assoc]
        omega
      · rw [heq]
        have e2 : 2 ^ k * (2 * 2 ^ j) = 2 * (2 ^ k * 2 ^ j) := by rw [← Nat.mul_assoc, Nat.mul_comm (2 ^ k) 2, Nat.mul_assoc]
        split at ht <;> omega
      · have := Nat.mul_le_mul_left (2 ^ k) (show 2 ^ j + 1 ≤ v from hgt)
        have e := hvk (2 ^ j)
        have e2 : 2 ^ k * (2 * 2 ^ j) = 2 * (2 ^ k * 2 ^ j) := by rw [← Nat.mul_assoc, Nat.mul_comm (2 ^ k) 2, Nat.mul_assoc]
        omega
    have c2 : 4 * 2 ^ j = 2 * (2 * v + t) ↔ 2 ^ k * (2 * 2 ^ j) = 2 * (2 ^ k * v + r) := by
      rcases Nat.lt_trichotomy v (2 ^ j) with hlt | heq | hgt
      · have := Nat.mul_le_mul_left (2 ^ k) (show v + 1 ≤ 2 ^ j from hlt)
        have e := hvk v
        have e2 : 2 ^ k * (2 * 2 ^ j) = 2 * (2 ^ k * 2 ^ j) := by rw [← Nat.mul_assoc, Nat.mul_comm (2 ^ k) 2, Nat.mul_assoc]
        omega
      · rw [heq]
        have e2 : 2 ^ k * (2 * 2 ^ j) = 2 * (2 ^ k * 2 ^ j) := by rw [← Nat.mul_assoc, Nat.mul_comm (2 ^ k) 2, Nat.mul_assoc]
        split at ht <;> omega
      · have := Nat.mul_le_mul_left (2 ^ k) (show 2 ^ j + 1 ≤ v from hgt)
        have e := hvk (2 ^ j)
        have e2 : 2 ^ k * (2 * 2 ^ j) = 2 * (2 ^ k * 2 ^ j) := by rw [← Nat.mul_assoc, Nat.mul_comm (2 ^ k) 2, Nat.mul_assoc]
        omega
    rw [c1, c2]
  unfold rne
  by_cases h : goesUp n (k + j + 1)
  · rw [if_pos h, if_pos (g.2 h), d1, d2]
  · rw [if_neg h, if_neg (fun c => h (g.1 c)), d1, d2]

end Go.Proofs.YtmgpaheobhfioaaDoor
/- Plain facts on rounding a number to a format: the rung that it comes to; scaling, rising, sticky bits. -/
namespace Go.Proofs.YtmgpaheobhfioaaDoor

/-- The place of the last digit that is kept. -/
def lastOf (f : Ieee.Format) (m : Nat) (p : Int) : Int := max (p + m.log2 - f.fractionBits) f.leastPlace
/-- m * 2^s as a whole number, rounded. -/
def rz (m : Nat) (s : Int) : Nat := rne (m * 2 ^ s.toNat) (-s).toNat
/-- The rung of m * 2^p. -/
def rungOf (f : Ieee.Format) (m : Nat) (p : Int) : Nat :=
  if m = 0 then 0 else min ((lastOf f m p - f.leastPlace).toNat * f.binade + rz m (p - lastOf f m p)) f.infRung

theorem nearest_rung (f : Ieee.Format) (neg : Bool) (m : Nat) (p : Int) : f.nearest neg m p = f.word neg (rungOf f m p) := by
  unfold Ieee.Format.nearest rungOf
  by_cases h : m = 0
  · rw [if_pos h, if_pos h]
  · rw [if_neg h, if_neg h]
    show f.word neg (min ((lastOf f m p - f.leastPlace).toNat * f.binade + Ieee.Toward.even.cut neg (m <<< (p - lastOf f m p).toNat) (lastOf f m p - p).toNat) f.infRung) = _
    rw [cut_rne, Nat.shiftLeft_eq]
    unfold rz
    rw [Int.neg_sub]

theorem log2_mul_pow {m : Nat} (h : m ≠ 0) (k : Nat) : (m * 2 ^ k).log2 = m.log2 + k := by
  have hp := Nat.two_pow_pos k
  refine (Nat.log2_eq_iff (Nat.mul_ne_zero h (by omega))).2 ⟨?_, ?_⟩
  · rw [Nat.pow_add]; exact Nat.mul_le_mul_right _ (Nat.log2_self_le h)
  · rw [show m.log2 + k + 1 = (m.log2 + 1) + k by omega, Nat.pow_add]; exact Nat.mul_lt_mul_of_pos_right Nat.lt_log2_self hp

theorem rz_nat (m : Nat) (s : Nat) : rz m s = m * 2 ^ s := by
  unfold rz
  rw [show ((s : Int)).toNat = s by omega, show (-(s : Int)).toNat = 0 by omega, rne_zero]
theorem rz_neg (m : Nat) (d : Nat) : rz m (-(d : Int)) = rne m d := by
  unfold rz
  rw [show (-(d : Int)).toNat = 0 by omega, show (- -(d : Int)).toNat = d by omega, Nat.pow_zero, Nat.mul_one]

theorem rz_scale (m k : Nat) (s : Int) : rz (m * 2 ^ k) s = rz m (s + k) := by
  rcases Int.lt_or_le s 0 with h | h
  · obtain ⟨d, rfl⟩ : ∃ d : Nat, s = -(d : Int) := ⟨(-s).toNat, by omega⟩
    rw [rz_neg]
    rcases Nat.lt_or_ge k d with g | g
    · obtain ⟨j, rfl⟩ : ∃ j, d = j + k := ⟨d - k, by omega⟩
      rw [rne_scale, show (-((j + k : Nat) : Int) + (k : Int)) = -(j : Int) by omega, rz_neg]
    · obtain ⟨j, rfl⟩ : ∃ j, k = j + d := ⟨k - d, by omega⟩
      rw [show (-(d : Int) + ((j + d : Nat) : Int)) = (j : Int) by omega, rz_nat, Nat.pow_add, ← Nat.mul_assoc, rne_exact]
  · obtain ⟨d, rfl⟩ : ∃ d : Nat, s = (d : Int) := ⟨s.toNat, by omega⟩
    rw [rz_nat, show ((d : Int) + (k : Int)) = ((d + k : Nat) : Int) by omega, rz_nat, Nat.mul_assoc, ← Nat.pow_add, Nat.add_comm k d]

theorem last_scale (f : Ieee.Format) {m : Nat} (h : m ≠ 0) (k : Nat) (p : Int) : lastOf f (m * 2 ^ k) p = lastOf f m (p + k) := by
  unfold lastOf; rw [log2_mul_pow h]; congr 1; omega

/-- The value decides. -/
theorem rung_scale (f : Ieee.Format) (m k : Nat) (p : Int) : rungOf f (m * 2 ^ k) p = rungOf f m (p + k) := by
  by_cases h : m = 0
  · subst h; unfold rungOf; rw [if_pos (Nat.zero_mul _), if_pos rfl]
  · unfold rungOf
    rw [if_neg (Nat.mul_ne_zero h (by have := Nat.two_pow_pos k; omega)), if_neg h, last_scale f h, rz_scale]
    rw [show p - lastOf f m (p + k) + (k : Int) = p + k - lastOf f m (p + k) by omega]

theorem rz_mono {m n : Nat} (s : Int) (h : m ≤ n) : rz m s ≤ rz n s := rne_mono _ (Nat.mul_le_mul_right _ h)

/-- What is kept has at most one digit more than the fraction, or is the next power of two. -/
theorem kept_le (f : Ieee.Format) (m : Nat) (p : Int) : rz m (p - lastOf f m p) ≤ 2 * f.binade := by
  have hm : m < 2 ^ (m.log2 + 1) := Nat.lt_log2_self
  have hb : 2 * f.binade = 2 ^ (f.fractionBits + 1) := by unfold Ieee.Format.binade; rw [Nat.pow_succ]; omega
  have hl : p + m.log2 - f.fractionBits ≤ lastOf f m p := by unfold lastOf; omega
  have h1 : rz m (p - lastOf f m p) ≤ rz (1 * 2 ^ (m.log2 + 1)) (p - lastOf f m p) := rz_mono _ (by omega)
  rw [rz_scale] at h1
  refine Nat.le_trans h1 ?_
  rw [hb]
  rcases Int.lt_or_le (p - lastOf f m p + ((m.log2 + 1 : Nat) : Int)) 0 with g | g
  · obtain ⟨d, e⟩ : ∃ d : Nat, p - lastOf f m p + ((m.log2 + 1 : Nat) : Int) = -(d : Int) := ⟨(-(p - lastOf f m p + ((m.log2 + 1 : Nat) : Int))).toNat, by omega⟩
    rw [e, rz_neg]
    have := Nat.two_pow_pos (f.fractionBits + 1)
    have h2 : rne 1 d ≤ 1 := rne_upper (by have := Nat.two_pow_pos d; omega)
    omega
  · obtain ⟨d, e⟩ : ∃ d : Nat, p - lastOf f m p + ((m.log2 + 1 : Nat) : Int) = (d : Int) := ⟨(p - lastOf f m p + ((m.log2 + 1 : Nat) : Int)).toNat, by omega⟩
    rw [e, rz_nat, Nat.one_mul]
    exact Nat.pow_le_pow_right (by omega) (by omega)

/-- Above the least place it has them all. -/
theorem le_kept (f : Ieee.Format) {m : Nat} (h : m ≠ 0) (p : Int) (hl : lastOf f m p = p + m.log2 - f.fractionBits) : f.binade ≤ rz m (p - lastOf f m p) := by
  have h1 : rz (1 * 2 ^ m.log2) (p - lastOf f m p) ≤ rz m (p - lastOf f m p) := rz_mono _ (by have := Nat.log2_self_le h; omega)
  rw [rz_scale] at h1
  refine Nat.le_trans ?_ h1
  rw [hl, show p - (p + (m.log2 : Int) - (f.fractionBits : Int)) + (m.log2 : Int) = ((f.fractionBits : Nat) : Int) by omega, rz_nat, Nat.one_mul]
  exact Nat.le_refl _

theorem last_ge (f : Ieee.Format) (m : Nat) (p : Int) : f.leastPlace ≤ lastOf f m p := by unfold lastOf; omega

/-- It rises. -/
theorem rung_mono (f : Ieee.Format) {m n : Nat} (p : Int) (h : m ≤ n) : rungOf f m p ≤ rungOf f n p := by
  unfold rungOf
  by_cases hm : m = 0
  · rw [if_pos hm]; exact Nat.zero_le _
  · have hn : n ≠ 0 := by omega
    rw [if_neg hm, if_neg hn]
    have hlog : m.log2 ≤ n.log2 := (Nat.le_log2 hn).2 (Nat.le_trans (Nat.log2_self_le hm) h)
    have h1 := last_ge f m p
    have hle : lastOf f m p ≤ lastOf f n p := by unfold lastOf; omega
    have key : (lastOf f m p - f.leastPlace).toNat * f.binade + rz m (p - lastOf f m p) ≤ (lastOf f n p - f.leastPlace).toNat * f.binade + rz n (p - lastOf f n p) := by
      rcases Int.lt_or_eq_of_le hle with g | g
      · have hk := kept_le f m p
        have hl : lastOf f n p = p + n.log2 - f.fractionBits := by unfold lastOf at h1 g hle ⊢; omega
        have hk' := le_kept f hn p hl
        obtain ⟨a, ha⟩ : ∃ a : Nat, lastOf f m p = f.leastPlace + a := ⟨(lastOf f m p - f.leastPlace).toNat, by omega⟩
        obtain ⟨c, hc⟩ : ∃ c : Nat, lastOf f n p = f.leastPlace + (a + 1 + c : Nat) := ⟨(lastOf f n p - lastOf f m p - 1).toNat, by omega⟩
        have e1 : (lastOf f m p - f.leastPlace).toNat = a := by omega
        have e2 : (lastOf f n p - f.leastPlace).toNat = a + 1 + c := by omega
        rw [e1, e2]
        have e3 : (a + 1 + c) * f.binade = a * f.binade + f.binade + c * f.binade := by rw [Nat.add_mul, Nat.add_mul, Nat.one_mul]
        rw [e3]
        omega
      · rw [g]
        exact Nat.add_le_add_left (rz_mono _ h) _
    omega

/-- Digits far behind the last one that is kept may be told by one. -/
theorem rung_stick (f : Ieee.Format) {M k : Nat} (p : Int) (hk : k ≤ M.log2) (hM : M ≠ 0) (h : p + k + 1 ≤ lastOf f M p) : rungOf f (stick M k) (p + k - 1) = rungOf f M p := by
  have hlo := Nat.log2_self_le hM
  have hhi : M < 2 ^ (M.log2 + 1) := Nat.lt_log2_self
  obtain ⟨j, hj⟩ : ∃ j, M.log2 = k + j := ⟨M.log2 - k, by omega⟩
  have hp := Nat.two_pow_pos k
  have q1 : 2 ^ j ≤ M / 2 ^ k := by rw [Nat.le_div_iff_mul_le hp, ← Nat.pow_add, Nat.add_comm, ← hj]; exact hlo
  have q2 : M / 2 ^ k < 2 ^ (j + 1) := by rw [Nat.div_lt_iff_lt_mul hp, ← Nat.pow_add, show j + 1 + k = M.log2 + 1 by omega]; exact hhi
  have hj0 := Nat.two_pow_pos j
  have s1 : stick M k ≠ 0 := by unfold stick; omega
  have s2 : (stick M k).log2 = j + 1 := by
    refine (Nat.log2_eq_iff s1).2 ⟨?_, ?_⟩
    · unfold stick; rw [Nat.pow_succ]; omega
    · have e2 : 2 ^ (j + 1 + 1) = 2 * 2 ^ (j + 1) := by rw [Nat.pow_succ]; omega
      unfold stick; rw [e2]; split <;> omega
  have hl : lastOf f (stick M k) (p + k - 1) = lastOf f M p := by
    unfold lastOf; rw [s2, hj]; congr 1; omega
  unfold rungOf
  rw [if_neg s1, if_neg hM, hl]
  obtain ⟨d, hd⟩ : ∃ d : Nat, lastOf f M p = p + d := ⟨(lastOf f M p - p).toNat, by omega⟩
  have e : rz (stick M k) (p + k - 1 - lastOf f M p) = rz M (p - lastOf f M p) := by
    rw [hd, show p - (p + (d : Int)) = -(d : Int) by omega, rz_neg, show p + (k : Int) - 1 - (p + (d : Int)) = -((d - k + 1 : Nat) : Int) by omega, rz_neg]
    exact rne_stick (by omega)
  rw [e]

end Go.Proofs.YtmgpaheobhfioaaDoor
/- Numbers of the reference: how they lie in memory; what Of returns of a word. -/
namespace Go.Proofs.YtmgpaheobhfioaaDoor
open Go.RowKit

/-- A number of the reference. -/
structure RNum where
  it : Option (Bool ⊕ (Bool × Nat × Int × Bool))
abbrev RNum.nan : RNum := ⟨none⟩
abbrev RNum.inf (s : Bool) : RNum := ⟨some (.inl s)⟩
abbrev RNum.fin (s : Bool) (n : Nat) (e : Int) (m : Bool) : RNum := ⟨some (.inr (s, n, e, m))⟩
theorem RNum.rec3 {motive : RNum → Prop} (nan : motive .nan) (inf : ∀ s, motive (.inf s)) (fin : ∀ s n e m, motive (.fin s n e m)) (x : RNum) : motive x := by
  obtain ⟨_ | s | ⟨s, n, e, m⟩⟩ := x
  · exact nan
  · exact inf s
  · exact fin s n e m

/-- The struct v is the number x. -/
def NumAt (w : World) (v : Value) : RNum → Prop
  | ⟨none⟩ => ∃ b e m, v = .agg #[.int .i64 0, .bool b, .slice none 0 0, .int .i64 e, .bool m]
  | ⟨some (.inl s)⟩ => ∃ e m, v = .agg #[.int .i64 1, .bool s, .slice none 0 0, .int .i64 e, .bool m]
  | ⟨some (.inr (s, n, e, m))⟩ => ∃ nv, v = .agg #[.int .i64 2, .bool s, nv, .int .i64 e, .bool m] ∧ NatAt w nv n
theorem Q.num {a b : World} (h : Q a b) {v : Value} {x : RNum} (hx : NumAt a v x) : NumAt b v x := by
  cases x using RNum.rec3 with
  | nan => exact hx
  | inf s => exact hx
  | fin s n e m =>
    obtain ⟨nv, e, hn⟩ := hx
    exact ⟨nv, e, h.nat hn⟩

/-- What a word stands for. -/
def numOf (f : Ieee.Format) (b : Nat) : RNum :=
  match f.read b with
  | .nan .. => .nan
  | .infinity s => .inf s
  | .number s m p => .fin s m p false

theorem single_sign : Ieee.single.signWeight = 2147483648 := by decide
theorem single_binade : Ieee.single.binade = 8388608 := by decide
theorem single_inf : Ieee.single.infRung = 2139095040 := by decide
theorem single_least : Ieee.single.leastPlace = -149 := by decide
theorem single_frac : Ieee.single.fractionBits = 23 := rfl
theorem double_sign : Ieee.double.signWeight = 9223372036854775808 := by decide
theorem double_inf : Ieee.double.infRung = 9218868437227405312 := by decide
theorem numOf_nan {b : Nat} (h1 : b / 8388608 % 256 = 255) (h2 : b % 8388608 ≠ 0) : numOf Ieee.single b = .nan := by
  unfold numOf Ieee.Format.read
  simp only [single_sign, single_binade, single_inf, single_least]
  rw [if_neg (by omega), if_neg (by omega), if_neg (by omega)]
theorem numOf_inf {b : Nat} (h1 : b / 8388608 % 256 = 255) (h2 : b % 8388608 = 0) : numOf Ieee.single b = .inf (b / 2147483648 % 2 == 1) := by
  unfold numOf Ieee.Format.read
  simp only [single_sign, single_binade, single_inf, single_least]
  rw [if_neg (by omega), if_neg (by omega), if_pos (by omega)]
theorem numOf_small {b : Nat} (h1 : b / 8388608 % 256 = 0) : numOf Ieee.single b = .fin (b / 2147483648 % 2 == 1) (b % 8388608) (-149) false := by
  unfold numOf Ieee.Format.read
  simp only [single_sign, single_binade, single_inf, single_least]
  rw [if_pos (by omega)]
  have : b % 2147483648 = b % 8388608 := by omega
  rw [this]
theorem numOf_norm {b : Nat} (h1 : b / 8388608 % 256 ≠ 0) (h2 : b / 8388608 % 256 ≠ 255) :
    numOf Ieee.single b = .fin (b / 2147483648 % 2 == 1) (b % 8388608 + 8388608) (((b / 8388608 % 256 : Nat) : Int) - 150) false := by
  unfold numOf Ieee.Format.read
  simp only [single_sign, single_binade, single_inf, single_least]
  rw [if_neg (by omega), if_pos (by omega)]
  have e1 : 8388608 + b % 2147483648 % 8388608 = b % 8388608 + 8388608 := by omega
  have e2 : (-149 : Int) + ((b % 2147483648 / 8388608 - 1 : Nat) : Int) = ((b / 8388608 % 256 : Nat) : Int) - 150 := by omega
  rw [e1, e2]

theorem u64_and1 {x : Nat} (h : x < 18446744073709551616) : bits .and .u64 (x : Int) 1 = ((x % 2 : Nat) : Int) := by
  rw [show (1 : Int) = ((1 : Nat) : Int) from rfl, u64_and_nat _ _ h (by decide), Nat.and_one_is_mod]

/-- The bits of a binary32 word among 64. -/
theorem of_bits32 {b : Nat} (hb : b < 4294967296) :
    bits .and .u64 ((b : Int) / 2147483648) 1 = ((b / 2147483648 % 2 : Nat) : Int) ∧
    bits .and .u64 ((b : Int) / 8388608) 255 = ((b / 8388608 % 256 : Nat) : Int) ∧
    bits .and .u64 (b : Int) 8388607 = ((b % 8388608 : Nat) : Int) ∧
    bits .or .u64 ((b % 8388608 : Nat) : Int) 8388608 = ((b % 8388608 + 8388608 : Nat) : Int) := by
  refine ⟨?_, ?_, ?_, ?_⟩
  · have := u64_and1 (x := b / 2147483648) (by omega)
    exact this
  · have : bits .and .u64 ((b : Int) / 8388608) 255 = (b : Int) / 8388608 % 256 := by go_bits2
    rw [this]; omega
  · have : bits .and .u64 (b : Int) 8388607 = (b : Int) % 8388608 := by go_bits2
    rw [this]; omega
  · rw [show (8388608 : Int) = ((8388608 : Nat) : Int) from rfl, u64_or_nat _ _ (by omega) (by decide), Nat.or_comm,
      show (8388608 : Nat) = 2 ^ 23 * 1 from rfl, ← Nat.two_pow_add_eq_or_of_lt (i := 23) (by omega) 1]
    omega

set_option maxHeartbeats 4000000 in
theorem of32_any (b : Nat) (w : World) (hb : b < 4294967296) :
    Calls Tryd.prog 17 #[.agg #[.int .i64 23, .int .i64 8], .int .u64 b] w fun e w' => ∃ v, e = .returned v ∧ NumAt w' v (numOf Ieee.single b) ∧ Q w w' := by
  obtain ⟨e1, e2, e3, e4⟩ := of_bits32 hb
  obtain ⟨sg, hsg⟩ : ∃ sg : Nat, sg = b / 2147483648 % 2 := ⟨_, rfl⟩
  obtain ⟨ex, hex⟩ : ∃ ex : Nat, ex = b / 8388608 % 256 := ⟨_, rfl⟩
  obtain ⟨fr, hfr⟩ : ∃ fr : Nat, fr = b % 8388608 := ⟨_, rfl⟩
  rw [← hsg] at e1
  rw [← hex] at e2
  rw [← hfr] at e3 e4
  have xb : ex ≤ 255 := by omega
  have fb : fr < 8388608 := by omega
  have esg : ((sg : Int) == 1) = (b / 2147483648 % 2 == 1) := by
    rw [← hsg]
    rcases (by omega : sg = 0 ∨ sg = 1) with e | e <;> rw [e] <;> rfl
  have HSG : Hid _ := esg
  have hcase : (ex = 255 ∧ fr ≠ 0 ∧ Hid (numOf Ieee.single b = .nan)) ∨ (ex = 255 ∧ fr = 0 ∧ Hid (numOf Ieee.single b = .inf (b / 2147483648 % 2 == 1))) ∨
      (ex = 0 ∧ Hid (numOf Ieee.single b = .fin (b / 2147483648 % 2 == 1) fr (-149) false)) ∨ (ex ≠ 0 ∧ ex ≠ 255 ∧ Hid (numOf Ieee.single b = .fin (b / 2147483648 % 2 == 1) (fr + 8388608) ((ex : Int) - 150) false)) := by
    by_cases h1 : ex = 255
    · by_cases h2 : fr = 0
      · exact Or.inr (Or.inl ⟨h1, h2, numOf_inf (by omega) (by omega)⟩)
      · exact Or.inl ⟨h1, h2, numOf_nan (by omega) (by omega)⟩
    · by_cases h3 : ex = 0
      · exact Or.inr (Or.inr (Or.inl ⟨h3, by rw [hfr]; exact numOf_small (by omega)⟩))
      · exact Or.inr (Or.inr (Or.inr ⟨h3, h1, by rw [hfr, hex]; exact numOf_norm (by omega) (by omega)⟩))
  clear hsg hex hfr esg
  have w1 : IntKind.u64.wrap 255 = 255 := by decide
  have w2 : IntKind.u64.wrap 8388608 = 8388608 := by decide
  have w3 : IntKind.u64.wrap 8388607 = 8388607 := by decide
  have w4 : IntKind.i64.wrap (-149) = -149 := by decide
  rcases hcase with ⟨rfl, h2, HR⟩ | ⟨rfl, rfl, HR⟩ | ⟨rfl, HR⟩ | ⟨h1, h2, HR⟩
  · have h2b : ((fr : Int) != 0) = true := by simp; omega
    go_enter Tryd.func17, Tryd.ntmps17
    go_wp2_with fail
    go_region_held3 (fun w' => w'.cell? ⟨w.heap.size, 0, none⟩ = some (.int .i64 23) ∧ w'.cell? ⟨w.heap.size, 1, none⟩ = some (.int .i64 8)) (first | (simp [go_sem]; done) | go_keep) (first | (go_at_call 42; refine (top_any 23 8 255 (by decide) _).mono ?_; rintro e w1 ⟨rfl, rfl⟩))
    go_wp2_with fail
    refine (top_any 23 8 255 (by decide) _).mono ?_
    rintro e v1 ⟨rfl, rfl⟩
    go_wp2_with fail
    refine bodyPost_ret (v := .agg #[.int .i64 0, .bool false, .slice none 0 0, .int .i64 0, .bool false]) (by simp [results, Tryd.results17, go_sem]) rfl ⟨_, rfl, ?_, ?_⟩
    · rw [HR.out]; exact ⟨_, _, _, rfl⟩
    · exact (((((Q.refl w).cells _ _).cells _ _).cells _ _).cells _ _).drew
  · go_enter Tryd.func17, Tryd.ntmps17
    go_wp2_with fail
    go_region_held3 (fun w' => w'.cell? ⟨w.heap.size, 0, none⟩ = some (.int .i64 23) ∧ w'.cell? ⟨w.heap.size, 1, none⟩ = some (.int .i64 8)) (first | (simp [go_sem]; done) | go_keep) (first | (go_at_call 42; refine (top_any 23 8 255 (by decide) _).mono ?_; rintro e w1 ⟨rfl, rfl⟩))
    go_wp2_with fail
    refine (top_any 23 8 255 (by decide) _).mono ?_
    rintro e v1 ⟨rfl, rfl⟩
    go_wp2_with fail
    refine bodyPost_ret (v := .agg #[.int .i64 1, .bool ((sg : Int) == 1), .slice none 0 0, .int .i64 0, .bool false]) (by simp [results, Tryd.results17, go_sem]) rfl ⟨_, rfl, ?_, ?_⟩
    · rw [HR.out, HSG.out]; exact ⟨_, _, rfl⟩
    · exact (((((Q.refl w).cells _ _).cells _ _).cells _ _).cells _ _).drew
  · go_enter Tryd.func17, Tryd.ntmps17
    go_wp2_with fail
    go_region_held3 (fun w' => w'.cell? ⟨w.heap.size, 0, none⟩ = some (.int .i64 23) ∧ w'.cell? ⟨w.heap.size, 1, none⟩ = some (.int .i64 8)) (first | (simp [go_sem]; done) | go_keep) (first | (go_at_call 42; refine (top_any 23 8 255 (by decide) _).mono ?_; rintro e w1 ⟨rfl, rfl⟩))
    go_wp2_with fail
    refine (top_any 23 8 255 (by decide) _).mono ?_
    rintro e v1 ⟨rfl, rfl⟩
    go_wp2_with fail
    go_region_held3 (fun w' => w'.cell? ⟨w.heap.size, 0, none⟩ = some (.int .i64 23) ∧ w'.cell? ⟨w.heap.size, 1, none⟩ = some (.int .i64 8)) (first | (simp [go_sem]; done) | go_keep) (first | (go_at_call 21; refine (natof_any fr _ (by omega)).mono ?_; rintro e w1 ⟨C, rfl, rfl⟩) | (go_at_call 43; refine (bias_any 23 8 150 (by decide) _).mono ?_; rintro e w1 ⟨rfl, rfl⟩))
    all_goals
      go_wp2
      refine bodyPost_ret (v := .agg #[.int .i64 2, .bool ((sg : Int) == 1), .slice (some ⟨w.heap.size + 1 + 1 + 1 + 1, 0, none⟩) (len64 fr) C, .int .i64 (-149), .bool false]) (by simp [results, Tryd.results17, go_sem]) rfl ⟨_, rfl, ?_, ?_⟩
      · rw [HR.out, HSG.out]
        exact ⟨_, rfl, natAt_two (by omega) (by simp [go_sem]) (by simp [go_sem])⟩
      · exact (((((((Q.refl w).cells _ _).cells _ _).cells _ _).cells _ _).cells _ _).cells _ _).drew.drew.drew
  · have h1b : ((ex : Int) == 255) = false := by simp; omega
    have h2b : ((ex : Int) == 0) = false := by simp; omega
    obtain ⟨M, hM⟩ : ∃ M, M = fr + 8388608 := ⟨_, rfl⟩
    rw [← hM] at e4
    have hMb : M < 18446744073709551616 := by omega
    have w5 : IntKind.i64.wrap ((ex : Int) - 150) = (ex : Int) - 150 := by rw [IntKind.wrap_i64]; omega
    have w6 : IntKind.i64.wrap (ex : Int) = (ex : Int) := by rw [IntKind.wrap_i64]; omega
    have HM : Hid _ := hM
    clear hM
    go_enter Tryd.func17, Tryd.ntmps17
    go_wp2_with fail
    go_region_held3 (fun w' => w'.cell? ⟨w.heap.size, 0, none⟩ = some (.int .i64 23) ∧ w'.cell? ⟨w.heap.size, 1, none⟩ = some (.int .i64 8)) (first | (simp [go_sem]; done) | go_keep) (first | (go_at_call 42; refine (top_any 23 8 255 (by decide) _).mono ?_; rintro e w1 ⟨rfl, rfl⟩))
    go_wp2_with fail
    refine (top_any 23 8 255 (by decide) _).mono ?_
    rintro e v1 ⟨rfl, rfl⟩
    go_wp2_with fail
    go_region_held3 (fun w' => w'.cell? ⟨w.heap.size, 0, none⟩ = some (.int .i64 23) ∧ w'.cell? ⟨w.heap.size, 1, none⟩ = some (.int .i64 8)) (first | (simp [go_sem]; done) | go_keep) (first | (go_at_call 21; refine (natof_any M _ hMb).mono ?_; rintro e w1 ⟨C, rfl, rfl⟩) | (go_at_call 43; refine (bias_any 23 8 150 (by decide) _).mono ?_; rintro e w1 ⟨rfl, rfl⟩))
    all_goals
      go_wp2
      refine bodyPost_ret (v := .agg #[.int .i64 2, .bool ((sg : Int) == 1), .slice (some ⟨w.heap.size + 1 + 1 + 1 + 1, 0, none⟩) (len64 M) C, .int .i64 ((ex : Int) - 150), .bool false]) (by simp [results, Tryd.results17, go_sem]) rfl ⟨_, rfl, ?_, ?_⟩
      · rw [HR.out, HSG.out, ← HM.out]
        exact ⟨_, rfl, natAt_two hMb (by simp [go_sem]) (by simp [go_sem])⟩
      · exact (((((((Q.refl w).cells _ _).cells _ _).cells _ _).cells _ _).cells _ _).cells _ _).drew.drew.drew
end Go.Proofs.YtmgpaheobhfioaaDoor
/- Plain facts: how the reference rounds, step by step, and that it comes to the nearest word. -/
namespace Go.Proofs.YtmgpaheobhfioaaDoor
open Go.RowKit

theorem log2_stick {n m : Nat} (h : n ≠ 0) (hm : m ≤ 1) : (2 * n + m).log2 = n.log2 + 1 := by
  have h1 := Nat.log2_self_le h
  have h2 : n < 2 ^ (n.log2 + 1) := Nat.lt_log2_self
  refine (Nat.log2_eq_iff (by omega)).2 ⟨?_, ?_⟩
  · rw [Nat.pow_succ]; omega
  · rw [Nat.pow_succ]; omega
theorem last_stick (f : Ieee.Format) {n m : Nat} (e : Int) (h : n ≠ 0) (hm : m ≤ 1) : lastOf f (2 * n + m) (e - 1) = lastOf f n e := by
  unfold lastOf; rw [log2_stick h hm]; congr 1; omega

/-- What is kept. -/
def keptV (n m : Nat) (e to : Int) : Nat := rz (2 * n + m) (e - 1 - to)

theorem kept_down {n m : Nat} {e to : Int} (d : Nat) (hd : to = e + d) (h : 1 ≤ d) (hm : m ≤ 1) :
    keptV n m e to = n / 2 ^ d + if bitV n (d - 1) = 1 ∧ (m = 1 ∨ n % 2 ^ (d - 1) ≠ 0 ∨ bitV (n / 2 ^ d) 0 = 1) then 1 else 0 := by
  obtain ⟨j, rfl⟩ : ∃ j, d = j + 1 := ⟨d - 1, by omega⟩
  unfold keptV
  rw [hd, show e - 1 - (e + ((j + 1 : Nat) : Int)) = -((j + 2 : Nat) : Int) by omega, rz_neg]
  have hp := Nat.two_pow_pos j
  have p1 : 2 ^ (j + 1) = 2 * 2 ^ j := by rw [Nat.pow_succ]; omega
  have p2 : 2 ^ (j + 2) = 4 * 2 ^ j := by rw [Nat.pow_succ, p1]; omega
  rw [show j + 1 - 1 = j by omega]
  -- n = 2^(j+1) q + 2^j b + r
  obtain ⟨r, hr⟩ : ∃ r, r = n % 2 ^ j := ⟨_, rfl⟩
  obtain ⟨b, hb⟩ : ∃ b, b = n / 2 ^ j % 2 := ⟨_, rfl⟩
  obtain ⟨q, hq⟩ : ∃ q, q = n / 2 ^ (j + 1) := ⟨_, rfl⟩
  have e1 := Nat.div_add_mod n (2 ^ j)
  have e2 : n / 2 ^ j / 2 = q := by rw [hq, Nat.pow_succ, Nat.div_div_eq_div_mul]
  have e3 : n / 2 ^ j = 2 * q + b := by omega
  rw [e3, ← hr] at e1
  have hrl : r < 2 ^ j := by rw [hr]; exact Nat.mod_lt _ hp
  have hn : n = 2 * 2 ^ j * q + (2 ^ j * b + r) := by rw [← e1, Nat.mul_add, Nat.mul_comm 2 (2 ^ j), Nat.mul_assoc]; omega
  have hb1 : b ≤ 1 := by omega
  have hbb : 2 ^ j * b + r < 2 * 2 ^ j := by
    rcases (by omega : b = 0 ∨ b = 1) with g | g <;> rw [g] <;> omega
  have s1 : 2 * n + m = 4 * 2 ^ j * q + (2 * (2 ^ j * b + r) + m) := by
    have e4 : 2 * (2 * 2 ^ j * q) = 4 * 2 ^ j * q := by rw [← Nat.mul_assoc, ← Nat.mul_assoc]
    omega
  have d1 : (2 * n + m) / 2 ^ (j + 2) = q := by rw [p2, s1, Nat.mul_add_div (by omega), Nat.div_eq_of_lt (by omega), Nat.add_zero]
  have m1 : (2 * n + m) % 2 ^ (j + 2) = 2 * (2 ^ j * b + r) + m := by rw [p2, s1, Nat.mul_add_mod, Nat.mod_eq_of_lt (by omega)]
  have c1 : bitV n j = b := by unfold bitV; exact hb.symm
  have c2 : bitV q 0 = q % 2 := by unfold bitV; rw [Nat.pow_zero, Nat.div_one]
  rw [← hq, c1, ← hr, c2]
  unfold rne
  have g : goesUp (2 * n + m) (j + 2) ↔ (b = 1 ∧ (m = 1 ∨ r ≠ 0 ∨ q % 2 = 1)) := by
    unfold goesUp
    rw [d1, m1, p2]
    rcases (by omega : b = 0 ∨ b = 1) with g | g
    · rw [g, Nat.mul_zero, Nat.zero_add]; omega
    · rw [g, Nat.mul_one]; omega
  by_cases h1 : b = 1 ∧ (m = 1 ∨ r ≠ 0 ∨ q % 2 = 1)
  · rw [if_pos h1, if_pos (g.2 h1), d1]
  · rw [if_neg h1, if_neg (fun c => h1 (g.1 c)), d1]

theorem kept_up {n : Nat} {e to : Int} (d : Nat) (hd : e = to + d) : keptV n 0 e to = n * 2 ^ d := by
  unfold keptV
  rw [Nat.add_zero, hd]
  have := rz_scale n 1 (to + (d : Int) - 1 - to)
  rw [Nat.pow_one, Nat.mul_comm n 2] at this
  rw [this, show to + (d : Int) - 1 - to + ((1 : Nat) : Int) = (d : Int) by omega, rz_nat]

/-- The place of the last digit, as the reference reckons it. -/
def toV (n : Nat) (e : Int) (fr least : Int) : Int := max ((blen n : Int) + e - (fr + 1)) least
theorem toV_last (f : Ieee.Format) {n : Nat} (e : Int) (h : n ≠ 0) : toV n e f.fractionBits f.leastPlace = lastOf f n e := by
  unfold toV lastOf blen; rw [if_neg h]; congr 1; omega

theorem kept_zero (e to : Int) : keptV 0 0 e to = 0 := by
  unfold keptV rz
  rw [Nat.mul_zero, Nat.add_zero, Nat.zero_mul]
  have := rne_scale 0 0 (-(e - 1 - to)).toNat
  rw [Nat.zero_mul, Nat.zero_add, rne_zero] at this
  exact this

/-- What is kept, in bounds; the rung made of it. -/
theorem kept_facts (f : Ieee.Format) (n m : Nat) (e : Int) (hm : m ≤ 1) (h : m = 1 → n ≠ 0) :
    keptV n m e (toV n e f.fractionBits f.leastPlace) ≤ 2 * f.binade ∧ f.leastPlace ≤ toV n e f.fractionBits f.leastPlace ∧
    (keptV n m e (toV n e f.fractionBits f.leastPlace) < f.binade → toV n e f.fractionBits f.leastPlace = f.leastPlace ∨ n = 0) ∧
    rungOf f (2 * n + m) (e - 1) = if n = 0 then 0 else min ((toV n e f.fractionBits f.leastPlace - f.leastPlace).toNat * f.binade + keptV n m e (toV n e f.fractionBits f.leastPlace)) f.infRung := by
  by_cases h0 : n = 0
  · subst h0
    obtain rfl : m = 0 := by
      rcases (by omega : m = 0 ∨ m = 1) with g | g
      · exact g
      · exact absurd rfl (h g)
    refine ⟨by rw [kept_zero]; omega, by unfold toV; omega, fun _ => Or.inr rfl, ?_⟩
    unfold rungOf; rw [if_pos rfl, if_pos rfl]
  · rw [toV_last f e h0]
    have hl := last_stick f e h0 hm
    have hne : 2 * n + m ≠ 0 := by omega
    have h1 := kept_le f (2 * n + m) (e - 1)
    rw [hl] at h1
    refine ⟨h1, last_ge f n e, fun hlt => Or.inl ?_, ?_⟩
    · rcases Int.lt_or_eq_of_le (last_ge f n e) with g | g
      · have h2 : lastOf f (2 * n + m) (e - 1) = e - 1 + (2 * n + m).log2 - f.fractionBits := by
          have h3 := last_ge f n e
          rw [← hl] at g
          unfold lastOf at g ⊢; omega
        have h4 := le_kept f hne (e - 1) h2
        rw [hl] at h4
        unfold keptV at hlt
        omega
      · exact g.symm
    · unfold rungOf
      rw [if_neg hne, if_neg h0, hl]
      rfl

/-- The word that the reference puts together. -/
theorem or_word {neg : Bool} {r : Nat} (hr : r < 2147483648) : bits .or .u64 (signV false neg) (r : Int) = ((Ieee.single.word neg r : Nat) : Int) := by
  unfold Ieee.Format.word signV
  rw [single_sign]
  cases neg
  · show bits .or .u64 ((0 : Nat) : Int) (r : Int) = _
    rw [u64_or_nat _ _ (by decide) (by omega), Nat.zero_or]; rfl
  · show bits .or .u64 ((2147483648 : Nat) : Int) (r : Int) = _
    rw [u64_or_nat _ _ (by decide) (by omega), show (2147483648 : Nat) = 2 ^ 31 * 1 from rfl, ← Nat.two_pow_add_eq_or_of_lt (i := 31) hr 1]
    rfl
theorem or_word2 {neg : Bool} {x fr : Nat} (hx : x < 256) (hf : fr < 8388608) :
    bits .or .u64 ((Ieee.single.word neg (x * 8388608) : Nat) : Int) (fr : Int) = ((Ieee.single.word neg (x * 8388608 + fr) : Nat) : Int) := by
  have e : Ieee.single.word neg (x * 8388608) = 2 ^ 23 * ((if neg = true then 256 else 0) + x) := by
    unfold Ieee.Format.word; rw [single_sign]; cases neg <;> simp <;> omega
  have e2 : Ieee.single.word neg (x * 8388608 + fr) = 2 ^ 23 * ((if neg = true then 256 else 0) + x) + fr := by
    unfold Ieee.Format.word; rw [single_sign]; cases neg <;> simp <;> omega
  have hb : (if neg = true then 256 else 0) ≤ 256 := by split <;> omega
  rw [e2, e, u64_or_nat _ _ (by omega) (by omega), ← Nat.two_pow_add_eq_or_of_lt (i := 23) hf]
theorem word_lt {neg : Bool} {r : Nat} (hr : r < 2147483648) : Ieee.single.word neg r < 4294967296 := by
  unfold Ieee.Format.word; rw [single_sign]; split <;> omega

/-- Carried where it must be: what is kept, and its place. -/
theorem carried {n K : Nat} {T : Int} {R : Nat} (h1 : K ≤ 2 * 8388608) (h2 : -149 ≤ T) (h3 : K < 8388608 → T = -149 ∨ n = 0) (h0 : n = 0 → K = 0)
    (h4 : R = if n = 0 then 0 else min ((T - -149).toNat * 8388608 + K) 2139095040) :
    ∃ (K' : Nat) (T' : Int), K' < 16777216 ∧ -149 ≤ T' ∧ T' ≤ T + 1 ∧ ((K = 16777216 ∧ K' = 8388608 ∧ T' = T + 1) ∨ (K < 16777216 ∧ K' = K ∧ T' = T)) ∧
      (K' < 8388608 → R = K') ∧ (8388608 ≤ K' → R = min ((T' + 149).toNat * 8388608 + K') 2139095040) := by
  by_cases hK : K = 16777216
  · refine ⟨8388608, T + 1, by decide, by omega, by omega, Or.inl ⟨hK, rfl, rfl⟩, fun h => absurd h (by decide), fun _ => ?_⟩
    have : n ≠ 0 := fun e => by have := h0 e; omega
    rw [h4, if_neg this]
    have e1 : (T + 1 + 149).toNat = (T - -149).toNat + 1 := by omega
    have e2 : ∀ y : Nat, y * 8388608 + 16777216 = (y + 1) * 8388608 + 8388608 := fun y => by omega
    rw [e1, hK, e2]
  · refine ⟨K, T, by omega, h2, by omega, Or.inr ⟨by omega, rfl, rfl⟩, fun h => ?_, fun h => ?_⟩
    · rw [h4]
      by_cases hn : n = 0
      · rw [if_pos hn, h0 hn]
      · rw [if_neg hn]
        rcases h3 h with g | g
        · rw [g]; simp; omega
        · exact absurd g hn
    · have : n ≠ 0 := fun e => by have := h0 e; omega
      rw [h4, if_neg this]
      rw [show (T - -149).toNat = (T + 149).toNat by omega]
end Go.Proofs.YtmgpaheobhfioaaDoor
