/- Plain facts on rounding to the nearest, ties to even: closed forms, scaling, sticky bits, rising. -/
import Ieee.Arith
import Derived.Test.YtieojgblamkgoaaGreatDoorG93041aaa
namespace Go.Proofs.YtieojgblamkgoaaGreatDoor

/-- Does n / 2^d go up? -/
abbrev goesUp (n d : Nat) : Prop := 2 ^ d < 2 * (n % 2 ^ d) ∨ (2 ^ d = 2 * (n % 2 ^ d) ∧ n / 2 ^ d % 2 = 1)
/-- n / 2^d, rounded to the nearest, ties to even. -/
def rne (n d : Nat) : Nat := n / 2 ^ d + if goesUp n d then 1 else 0

theorem cut_rne (neg : Bool) (n d : Nat) : Ieee.Toward.even.cut neg n d = rne n d := by
  unfold Ieee.Toward.cut rne
  have key : ∀ e, ((decide ((1 <<< e : Nat) < 2 * (n % (1 <<< e))) || ((1 <<< e : Nat) == 2 * (n % (1 <<< e)) && n / (1 <<< e) % 2 == 1))).toNat = if goesUp n e then 1 else 0 := by
    intro e
    rw [Nat.shiftLeft_eq, Nat.one_mul]
    by_cases h1 : 2 ^ e < 2 * (n % 2 ^ e)
    · have gg : goesUp n e := Or.inl h1
      rw [if_pos gg]; simp [h1]
    · by_cases h2 : 2 ^ e = 2 * (n % 2 ^ e)
      · by_cases h3 : n / 2 ^ e % 2 = 1
        · have gg : goesUp n e := Or.inr ⟨h2, h3⟩
          rw [if_pos gg]
          have e1 : (2 ^ e == 2 * (n % 2 ^ e)) = true := beq_iff_eq.2 h2
          rw [e1, h3]; simp
        · have gg : ¬ goesUp n e := fun h => by
            rcases h with h | h
            · exact h1 h
            · exact h3 h.2
          rw [if_neg gg]
          have e1 : (n / 2 ^ e % 2 == 1) = false := beq_eq_false_iff_ne.2 h3
          rw [e1]; simp [h1]
      · have gg : ¬ goesUp n e := fun h => by
          rcases h with h | h
          · exact h1 h
          · exact h2 h.1
        rw [if_neg gg]
        have e1 : (2 ^ e == 2 * (n % 2 ^ e)) = false := beq_eq_false_iff_ne.2 h2
        rw [e1]; simp [h1]
  by_cases hd : d ≤ n.log2 + 2
  · rw [Nat.min_eq_left hd]
    show n / (1 <<< d) + _ = _
    rw [key d, Nat.shiftLeft_eq, Nat.one_mul]
  · rw [Nat.min_eq_right (by omega)]
    show n / (1 <<< (n.log2 + 2)) + _ = _
    rw [key (n.log2 + 2), Nat.shiftLeft_eq, Nat.one_mul]
    have hn : n < 2 ^ (n.log2 + 1) := Nat.lt_log2_self
    have a1 : 2 ^ (n.log2 + 2) = 2 * 2 ^ (n.log2 + 1) := by rw [Nat.pow_succ]; omega
    have a2 : 2 ^ (n.log2 + 2) ≤ 2 ^ d := Nat.pow_le_pow_right (by omega) (by omega)
    have b1 : n / 2 ^ (n.log2 + 2) = 0 := Nat.div_eq_of_lt (by omega)
    have b2 : n % 2 ^ (n.log2 + 2) = n := Nat.mod_eq_of_lt (by omega)
    have b3 : n / 2 ^ d = 0 := Nat.div_eq_of_lt (by omega)
    have b4 : n % 2 ^ d = n := Nat.mod_eq_of_lt (by omega)
    have c1 : ¬ goesUp n (n.log2 + 2) := by unfold goesUp; rw [b2]; omega
    have c2 : ¬ goesUp n d := by unfold goesUp; rw [b4]; omega
    rw [if_neg c1, if_neg c2, b1, b3]

theorem rne_zero (n : Nat) : rne n 0 = n := by
  have g : ¬ goesUp n 0 := by unfold goesUp; rw [Nat.pow_zero, Nat.mod_one]; omega
  unfold rne
  rw [if_neg g, Nat.pow_zero, Nat.div_one, Nat.add_zero]

/-- Factors of two go. -/
theorem rne_scale (n d k : Nat) : rne (n * 2 ^ k) (d + k) = rne n d := by
  have hk := Nat.two_pow_pos k
  have e1 : n * 2 ^ k / 2 ^ (d + k) = n / 2 ^ d := by rw [Nat.pow_add, Nat.mul_div_mul_right _ _ hk]
  have e2 : n * 2 ^ k % 2 ^ (d + k) = n % 2 ^ d * 2 ^ k := by rw [Nat.pow_add, Nat.mul_mod_mul_right]
  have e3 : goesUp (n * 2 ^ k) (d + k) ↔ goesUp n d := by
    unfold goesUp
    rw [e1, e2, Nat.pow_add, ← Nat.mul_assoc]
    constructor
    · rintro (h | ⟨h, g⟩)
      · exact Or.inl (Nat.lt_of_mul_lt_mul_right h)
      · exact Or.inr ⟨Nat.eq_of_mul_eq_mul_right hk h, g⟩
    · rintro (h | ⟨h, g⟩)
      · exact Or.inl (Nat.mul_lt_mul_of_pos_right h hk)
      · exact Or.inr ⟨congrArg (· * 2 ^ k) h, g⟩
  unfold rne
  by_cases h : goesUp n d
  · rw [if_pos h, if_pos (e3.2 h), e1]
  · rw [if_neg h, if_neg (fun g => h (e3.1 g)), e1]

theorem rne_exact (n d : Nat) : rne (n * 2 ^ d) d = n := by
  have := rne_scale n 0 d
  rw [Nat.zero_add, rne_zero] at this; exact this

/-- How far it lies. -/
theorem rne_near (n d : Nat) : 2 * (rne n d * 2 ^ d) ≤ 2 * n + 2 ^ d ∧ 2 * n ≤ 2 * (rne n d * 2 ^ d) + 2 ^ d := by
  have h := Nat.div_add_mod n (2 ^ d)
  have hm := Nat.mod_lt n (Nat.two_pow_pos d)
  have e : 2 ^ d * (n / 2 ^ d) = n / 2 ^ d * 2 ^ d := Nat.mul_comm _ _
  unfold rne
  by_cases g : goesUp n d
  · rw [if_pos g, Nat.add_mul, Nat.one_mul]
    unfold goesUp at g
    omega
  · rw [if_neg g, Nat.add_zero]
    unfold goesUp at g
    omega

/-- It rises. -/
theorem rne_mono {m n : Nat} (d : Nat) (h : m ≤ n) : rne m d ≤ rne n d := by
  have hq : m / 2 ^ d ≤ n / 2 ^ d := Nat.div_le_div_right h
  unfold rne
  by_cases e : m / 2 ^ d = n / 2 ^ d
  · by_cases g : goesUp m d
    · have g' : goesUp n d := by
        have h1 := Nat.div_add_mod m (2 ^ d)
        have h2 := Nat.div_add_mod n (2 ^ d)
        unfold goesUp at g ⊢
        rw [e] at h1 g
        omega
      rw [if_pos g, if_pos g', e]; exact Nat.le_refl _
    · rw [if_neg g, e]; omega
  · split <;> split <;> omega

theorem rne_lower {n d k : Nat} (h : k * 2 ^ d ≤ n) : k ≤ rne n d := by
  have := rne_mono d h
  rwa [rne_exact] at this
theorem rne_upper {n d k : Nat} (h : n ≤ k * 2 ^ d) : rne n d ≤ k := by
  have := rne_mono d h
  rwa [rne_exact] at this

/-- n without its k lowest bits, and a bit that tells whether there was anything in them. -/
def stick (n k : Nat) : Nat := 2 * (n / 2 ^ k) + if n % 2 ^ k = 0 then 0 else 1

theorem rne_stick {n k d : Nat} (h : k + 1 ≤ d) : rne (stick n k) (d - k + 1) = rne n d := by
  obtain ⟨j, rfl⟩ : ∃ j, d = k + j + 1 := ⟨d - k - 1, by omega⟩
  have ej : k + j + 1 - k + 1 = j + 2 := by omega
  rw [ej]
  have hk := Nat.two_pow_pos k
  have hj := Nat.two_pow_pos j
  have hn := Nat.div_add_mod n (2 ^ k)
  have hr := Nat.mod_lt n hk
  obtain ⟨q, hq⟩ : ∃ q, q = n / 2 ^ k := ⟨_, rfl⟩
  obtain ⟨r, hr'⟩ : ∃ r, r = n % 2 ^ k := ⟨_, rfl⟩
  rw [← hq, ← hr'] at hn
  rw [← hr'] at hr
  have hs : stick n k = 2 * q + if r = 0 then 0 else 1 := by unfold stick; rw [← hq, ← hr']
  -- q = 2^(j+1) * u + v
  have hqq := Nat.div_add_mod q (2 ^ (j + 1))
  have hv := Nat.mod_lt q (Nat.two_pow_pos (j + 1))
  obtain ⟨u, hu⟩ : ∃ u, u = q / 2 ^ (j + 1) := ⟨_, rfl⟩
  obtain ⟨v, hv'⟩ : ∃ v, v = q % 2 ^ (j + 1) := ⟨_, rfl⟩
  rw [← hu, ← hv'] at hqq
  rw [← hv'] at hv
  have p1 : 2 ^ (j + 1) = 2 * 2 ^ j := by rw [Nat.pow_succ]; omega
  have p2 : 2 ^ (j + 2) = 4 * 2 ^ j := by rw [Nat.pow_succ, p1]; omega
  have p3 : 2 ^ (k + j + 1) = 2 ^ k * (2 * 2 ^ j) := by rw [Nat.add_assoc, Nat.pow_add, p1]
  have d1 : n / 2 ^ (k + j + 1) = u := by rw [Nat.add_assoc, Nat.pow_add, ← Nat.div_div_eq_div_mul, ← hq, ← hu]
  have m1 : n % 2 ^ (k + j + 1) = 2 ^ k * v + r := by
    have h1 := Nat.div_add_mod n (2 ^ (k + j + 1))
    rw [d1, p3] at h1
    have h2 : n = 2 ^ k * (2 * 2 ^ j) * u + (2 ^ k * v + r) := by
      rw [← hn, ← hqq, p1, Nat.mul_add, ← Nat.mul_assoc]; omega
    rw [p3]; omega
  have st : (if r = 0 then 0 else 1) ≤ 1 := by split <;> omega
  obtain ⟨t, ht⟩ : ∃ t : Nat, t = if r = 0 then 0 else 1 := ⟨_, rfl⟩
  rw [← ht] at st hs
  have s2 : stick n k = 4 * 2 ^ j * u + (2 * v + t) := by rw [hs, ← hqq, p1, Nat.mul_add, ← Nat.mul_assoc, ← Nat.mul_assoc, Nat.add_assoc]
  have lt2 : 2 * v + t < 4 * 2 ^ j := by omega
  have d2 : stick n k / 2 ^ (j + 2) = u := by rw [p2, s2, Nat.mul_add_div (by omega), Nat.div_eq_of_lt lt2, Nat.add_zero]
  have m2 : stick n k % 2 ^ (j + 2) = 2 * v + t := by rw [p2, s2, Nat.mul_add_mod, Nat.mod_eq_of_lt lt2]
  have hvk : ∀ x : Nat, 2 ^ k * x + 2 ^ k = 2 ^ k * (x + 1) := fun x => by rw [Nat.mul_add, Nat.mul_one]
  have g : goesUp (stick n k) (j + 2) ↔ goesUp n (k + j + 1) := by
    unfold goesUp
    rw [d1, d2, m1, m2, p2, p3]
    have c1 : 4 * 2 ^ j < 2 * (2 * v + t) ↔ 2 ^ k * (2 * 2 ^ j) < 2 * (2 ^ k * v + r) := by
      rcases Nat.lt_trichotomy v (2 ^ j) with hlt | heq | hgt
      · have := Nat.mul_le_mul_left (2 ^ k) (show v + 1 ≤ 2 ^ j from hlt)
        have e := hvk v
        have e2 : 2 ^ k * (2 * 2 ^ j) = 2 * (2 ^ k * 2 ^ j) := by rw [← Nat.mul_assoc, Nat.mul_comm (2 ^ k) 2, Nat.mul_assoc]
        omega
      · rw [heq]
        have e2 : 2 ^ k * (2 * 2 ^ j) = 2 * (2 ^ k * 2 ^ j) := by rw [← Nat.mul_assoc, Nat.mul_comm (2 ^ k) 2, Nat.mul_assoc]
        split at ht <;> omega
      · have := Nat.mul_le_mul_left (2 ^ k) (show 2 ^ j + 1 ≤ v from hgt)
        have e := hvk (2 ^ j)
        have e2 : 2 ^ k * (2 * 2 ^ j) = 2 * (2 ^ k * 2 ^ j) := by rw [← Nat.mul_assoc, Nat.mul_comm (2 ^ k) 2, Nat.mul_assoc]
        omega
    have c2 : 4 * 2 ^ j = 2 * (2 * v + t) ↔ 2 ^ k * (2 * 2 ^ j) = 2 * (2 ^ k * v + r) := by
      rcases Nat.lt_trichotomy v (2 ^ j) with hlt | heq | hgt
      · have := Nat.mul_le_mul_left (2 ^ k) (show v + 1 ≤ 2 ^ j from hlt)
        have e := hvk v
        have e2 : 2 ^ k * (2 * 2 ^ j) = 2 * (2 ^ k * 2 ^ j) := by rw [← Nat.mul_assoc, Nat.mul_comm (2 ^ k) 2, Nat.mul_assoc]
        omega
      · rw [heq]
        have e2 : 2 ^ k * (2 * 2 ^ j) = 2 * (2 ^ k * 2 ^ j) := by rw [← Nat.mul_assoc, Nat.mul_comm (2 ^ k) 2, Nat.mul_assoc]
        split at ht <;> omega
      · have := Nat.mul_le_mul_left (2 ^ k) (show 2 ^ j + 1 ≤ v from hgt)
        have e := hvk (2 ^ j)
        have e2 : 2 ^ k * (2 * 2 ^ j) = 2 * (2 ^ k * 2 ^ j) := by rw [← Nat.mul_assoc, Nat.mul_comm (2 ^ k) 2, Nat.mul_assoc]
        omega
    rw [c1, c2]
  unfold rne
  by_cases h : goesUp n (k + j + 1)
  · rw [if_pos h, if_pos (g.2 h), d1, d2]
  · rw [if_neg h, if_neg (fun c => h (g.1 c)), d1, d2]

end Go.Proofs.YtieojgblamkgoaaGreatDoor
/- Plain facts on rounding a number to a format: the rung that it comes to; scaling, rising, sticky bits. -/
namespace Go.Proofs.YtieojgblamkgoaaGreatDoor

/-- The place of the last digit that is kept. -/
def lastOf (f : Ieee.Format) (m : Nat) (p : Int) : Int := max (p + m.log2 - f.fractionBits) f.leastPlace
/-- m * 2^s as a whole number, rounded. -/
def rz (m : Nat) (s : Int) : Nat := rne (m * 2 ^ s.toNat) (-s).toNat
/-- The rung of m * 2^p. -/
def rungOf (f : Ieee.Format) (m : Nat) (p : Int) : Nat :=
  if m = 0 then 0 else min ((lastOf f m p - f.leastPlace).toNat * f.binade + rz m (p - lastOf f m p)) f.infRung

theorem nearest_rung (f : Ieee.Format) (neg : Bool) (m : Nat) (p : Int) : f.nearest neg m p = f.word neg (rungOf f m p) := by
  unfold Ieee.Format.nearest rungOf
  by_cases h : m = 0
  · rw [if_pos h, if_pos h]
  · rw [if_neg h, if_neg h]
    show f.word neg (min ((lastOf f m p - f.leastPlace).toNat * f.binade + Ieee.Toward.even.cut neg (m <<< (p - lastOf f m p).toNat) (lastOf f m p - p).toNat) f.infRung) = _
    rw [cut_rne, Nat.shiftLeft_eq]
    unfold rz
    rw [Int.neg_sub]

theorem log2_mul_pow {m : Nat} (h : m ≠ 0) (k : Nat) : (m * 2 ^ k).log2 = m.log2 + k := by
  have hp := Nat.two_pow_pos k
  refine (Nat.log2_eq_iff (Nat.mul_ne_zero h (by omega))).2 ⟨?_, ?_⟩
  · rw [Nat.pow_add]; exact Nat.mul_le_mul_right _ (Nat.log2_self_le h)
  · rw [show m.log2 + k + 1 = (m.log2 + 1) + k by omega, Nat.pow_add]; exact Nat.mul_lt_mul_of_pos_right Nat.lt_log2_self hp

theorem rz_nat (m : Nat) (s : Nat) : rz m s = m * 2 ^ s := by
  unfold rz
  rw [show ((s : Int)).toNat = s by omega, show (-(s : Int)).toNat = 0 by omega, rne_zero]
theorem rz_neg (m : Nat) (d : Nat) : rz m (-(d : Int)) = rne m d := by
  unfold rz
  rw [show (-(d : Int)).toNat = 0 by omega, show (- -(d : Int)).toNat = d by omega, Nat.pow_zero, Nat.mul_one]

theorem rz_scale (m k : Nat) (s : Int) : rz (m * 2 ^ k) s = rz m (s + k) := by
  rcases Int.lt_or_le s 0 with h | h
  · obtain ⟨d, rfl⟩ : ∃ d : Nat, s = -(d : Int) := ⟨(-s).toNat, by omega⟩
    rw [rz_neg]
    rcases Nat.lt_or_ge k d with g | g
    · obtain ⟨j, rfl⟩ : ∃ j, d = j + k := ⟨d - k, by omega⟩
      rw [rne_scale, show (-((j + k : Nat) : Int) + (k : Int)) = -(j : Int) by omega, rz_neg]
    · obtain ⟨j, rfl⟩ : ∃ j, k = j + d := ⟨k - d, by omega⟩
      rw [show (-(d : Int) + ((j + d : Nat) : Int)) = (j : Int) by omega, rz_nat, Nat.pow_add, ← Nat.mul_assoc, rne_exact]
  · obtain ⟨d, rfl⟩ : ∃ d : Nat, s = (d : Int) := ⟨s.toNat, by omega⟩
    rw [rz_nat, show ((d : Int) + (k : Int)) = ((d + k : Nat) : Int) by omega, rz_nat, Nat.mul_assoc, ← Nat.pow_add, Nat.add_comm k d]

theorem last_scale (f : Ieee.Format) {m : Nat} (h : m ≠ 0) (k : Nat) (p : Int) : lastOf f (m * 2 ^ k) p = lastOf f m (p + k) := by
  unfold lastOf; rw [log2_mul_pow h]; congr 1; omega

/-- The value decides. -/
theorem rung_scale (f : Ieee.Format) (m k : Nat) (p : Int) : rungOf f (m * 2 ^ k) p = rungOf f m (p + k) := by
  by_cases h : m = 0
  · subst h; unfold rungOf; rw [if_pos (Nat.zero_mul _), if_pos rfl]
  · unfold rungOf
    rw [if_neg (Nat.mul_ne_zero h (by have := Nat.two_pow_pos k; omega)), if_neg h, last_scale f h, rz_scale]
    rw [show p - lastOf f m (p + k) + (k : Int) = p + k - lastOf f m (p + k) by omega]

theorem rung_down (f : Ieee.Format) (m k : Nat) (p : Int) : rungOf f m p = rungOf f (m * 2 ^ k) (p - k) := by
  rw [rung_scale]; congr 1; omega

theorem rz_mono {m n : Nat} (s : Int) (h : m ≤ n) : rz m s ≤ rz n s := rne_mono _ (Nat.mul_le_mul_right _ h)

/-- What is kept has at most one digit more than the fraction, or is the next power of two. -/
theorem kept_le (f : Ieee.Format) (m : Nat) (p : Int) : rz m (p - lastOf f m p) ≤ 2 * f.binade := by
  have hm : m < 2 ^ (m.log2 + 1) := Nat.lt_log2_self
  have hb : 2 * f.binade = 2 ^ (f.fractionBits + 1) := by unfold Ieee.Format.binade; rw [Nat.pow_succ]; omega
  have hl : p + m.log2 - f.fractionBits ≤ lastOf f m p := by unfold lastOf; omega
  have h1 : rz m (p - lastOf f m p) ≤ rz (1 * 2 ^ (m.log2 + 1)) (p - lastOf f m p) := rz_mono _ (by omega)
  rw [rz_scale] at h1
  refine Nat.le_trans h1 ?_
  rw [hb]
  rcases Int.lt_or_le (p - lastOf f m p + ((m.log2 + 1 : Nat) : Int)) 0 with g | g
  · obtain ⟨d, e⟩ : ∃ d : Nat, p - lastOf f m p + ((m.log2 + 1 : Nat) : Int) = -(d : Int) := ⟨(-(p - lastOf f m p + ((m.log2 + 1 : Nat) : Int))).toNat, by omega⟩
    rw [e, rz_neg]
    have := Nat.two_pow_pos (f.fractionBits + 1)
    have h2 : rne 1 d ≤ 1 := rne_upper (by have := Nat.two_pow_pos d; omega)
    omega
  · obtain ⟨d, e⟩ : ∃ d : Nat, p - lastOf f m p + ((m.log2 + 1 : Nat) : Int) = (d : Int) := ⟨(p - lastOf f m p + ((m.log2 + 1 : Nat) : Int)).toNat, by omega⟩
    rw [e, rz_nat, Nat.one_mul]
    exact Nat.pow_le_pow_right (by omega) (by omega)

/-- Above the least place it has them all. -/
theorem le_kept (f : Ieee.Format) {m : Nat} (h : m ≠ 0) (p : Int) (hl : lastOf f m p = p + m.log2 - f.fractionBits) : f.binade ≤ rz m (p - lastOf f m p) := by
  have h1 : rz (1 * 2 ^ m.log2) (p - lastOf f m p) ≤ rz m (p - lastOf f m p) := rz_mono _ (by have := Nat.log2_self_le h; omega)
  rw [rz_scale] at h1
  refine Nat.le_trans ?_ h1
  rw [hl, show p - (p + (m.log2 : Int) - (f.fractionBits : Int)) + (m.log2 : Int) = ((f.fractionBits : Nat) : Int) by omega, rz_nat, Nat.one_mul]
  exact Nat.le_refl _

theorem last_ge (f : Ieee.Format) (m : Nat) (p : Int) : f.leastPlace ≤ lastOf f m p := by unfold lastOf; omega

/-- It rises. -/
theorem rung_mono (f : Ieee.Format) {m n : Nat} (p : Int) (h : m ≤ n) : rungOf f m p ≤ rungOf f n p := by
  unfold rungOf
  by_cases hm : m = 0
  · rw [if_pos hm]; exact Nat.zero_le _
  · have hn : n ≠ 0 := by omega
    rw [if_neg hm, if_neg hn]
    have hlog : m.log2 ≤ n.log2 := (Nat.le_log2 hn).2 (Nat.le_trans (Nat.log2_self_le hm) h)
    have h1 := last_ge f m p
    have hle : lastOf f m p ≤ lastOf f n p := by unfold lastOf; omega
    have key : (lastOf f m p - f.leastPlace).toNat * f.binade + rz m (p - lastOf f m p) ≤ (lastOf f n p - f.leastPlace).toNat * f.binade + rz n (p - lastOf f n p) := by
      rcases Int.lt_or_eq_of_le hle with g | g
      · have hk := kept_le f m p
        have hl : lastOf f n p = p + n.log2 - f.fractionBits := by unfold lastOf at h1 g hle ⊢; omega
        have hk' := le_kept f hn p hl
        obtain ⟨a, ha⟩ : ∃ a : Nat, lastOf f m p = f.leastPlace + a := ⟨(lastOf f m p - f.leastPlace).toNat, by omega⟩
        obtain ⟨c, hc⟩ : ∃ c : Nat, lastOf f n p = f.leastPlace + (a + 1 + c : Nat) := ⟨(lastOf f n p - lastOf f m p - 1).toNat, by omega⟩
        have e1 : (lastOf f m p - f.leastPlace).toNat = a := by omega
        have e2 : (lastOf f n p - f.leastPlace).toNat = a + 1 + c := by omega
        rw [e1, e2]
        have e3 : (a + 1 + c) * f.binade = a * f.binade + f.binade + c * f.binade := by rw [Nat.add_mul, Nat.add_mul, Nat.one_mul]
        rw [e3]
        omega
      · rw [g]
        exact Nat.add_le_add_left (rz_mono _ h) _
    omega

/-- Digits far behind the last one that is kept may be told by one. -/
theorem rung_stick (f : Ieee.Format) {M k : Nat} (p : Int) (hk : k ≤ M.log2) (hM : M ≠ 0) (h : p + k + 1 ≤ lastOf f M p) : rungOf f (stick M k) (p + k - 1) = rungOf f M p := by
  have hlo := Nat.log2_self_le hM
  have hhi : M < 2 ^ (M.log2 + 1) := Nat.lt_log2_self
  obtain ⟨j, hj⟩ : ∃ j, M.log2 = k + j := ⟨M.log2 - k, by omega⟩
  have hp := Nat.two_pow_pos k
  have q1 : 2 ^ j ≤ M / 2 ^ k := by rw [Nat.le_div_iff_mul_le hp, ← Nat.pow_add, Nat.add_comm, ← hj]; exact hlo
  have q2 : M / 2 ^ k < 2 ^ (j + 1) := by rw [Nat.div_lt_iff_lt_mul hp, ← Nat.pow_add, show j + 1 + k = M.log2 + 1 by omega]; exact hhi
  have hj0 := Nat.two_pow_pos j
  have s1 : stick M k ≠ 0 := by unfold stick; omega
  have s2 : (stick M k).log2 = j + 1 := by
    refine (Nat.log2_eq_iff s1).2 ⟨?_, ?_⟩
    · unfold stick; rw [Nat.pow_succ]; omega
    · have e2 : 2 ^ (j + 1 + 1) = 2 * 2 ^ (j + 1) := by rw [Nat.pow_succ]; omega
      unfold stick; rw [e2]; split <;> omega
  have hl : lastOf f (stick M k) (p + k - 1) = lastOf f M p := by
    unfold lastOf; rw [s2, hj]; congr 1; omega
  unfold rungOf
  rw [if_neg s1, if_neg hM, hl]
  obtain ⟨d, hd⟩ : ∃ d : Nat, lastOf f M p = p + d := ⟨(lastOf f M p - p).toNat, by omega⟩
  have e : rz (stick M k) (p + k - 1 - lastOf f M p) = rz M (p - lastOf f M p) := by
    rw [hd, show p - (p + (d : Int)) = -(d : Int) by omega, rz_neg, show p + (k : Int) - 1 - (p + (d : Int)) = -((d - k + 1 : Nat) : Int) by omega, rz_neg]
    exact rne_stick (by omega)
  rw [e]

end Go.Proofs.YtieojgblamkgoaaGreatDoor
/- What the functions of package bits that package arith calls return: class, NaN, made, key, least, greatest; what was in memory stays as it was. -/
namespace Go.Proofs.YtieojgblamkgoaaGreatDoor
open Go.RowKit

theorem and_lo (s : Int) (h0 : 0 ≤ s) (h1 : s < 2147483648) : bits .and .u32 s 2147483648 = 0 := by go_bits2
theorem and_hi (s : Int) (h0 : 2147483648 ≤ s) (h1 : s ≤ 4294967295) : bits .and .u32 s 2147483648 = 2147483648 := by go_bits2
theorem or_lo (s : Int) (h0 : 0 ≤ s) (h1 : s < 2147483648) : bits .or .u32 s 2147483648 = s + 2147483648 := by go_bits2
theorem and_255 (s : Int) (h0 : 0 ≤ s) (h1 : s ≤ 4294967295) : bits .and .u32 s 255 = s % 256 := by go_bits2
theorem and_frac (s : Int) (h0 : 0 ≤ s) (h1 : s ≤ 4294967295) : bits .and .u32 s 8388607 = s % 8388608 := by go_bits2

/-- A sample's key. -/
def keyV (s : Int) : Int := if s < 2147483648 then s + 2147483648 else 4294967295 - s
theorem keyV_lo {s : Int} (h : s < 2147483648) : keyV s = s + 2147483648 := by unfold keyV; rw [if_pos h]
theorem keyV_hi {s : Int} (h : 2147483648 ≤ s) : keyV s = 4294967295 - s := by unfold keyV; rw [if_neg (by omega)]
/-- Whether a stands ahead of b. -/
def befB (a b : Int) : Bool := decide (keyV a < keyV b)
def leastV (a b : Int) : Int := if befB b a = true then b else a
def greatestV (a b : Int) : Int := if befB a b = true then b else a

/-- Exponent and fraction of a sample. -/
def expV (s : Int) : Int := s / 8388608 % 256
def fracV (s : Int) : Int := s % 8388608
def negB (s : Int) : Bool := decide (2147483648 ≤ s)
theorem expV_bd (s : Int) : 0 ≤ expV s ∧ expV s ≤ 255 := by unfold expV; omega
theorem fracV_bd (s : Int) : 0 ≤ fracV s ∧ fracV s ≤ 8388607 := by unfold fracV; omega
/-- The class by number: 1 NaN, 2 infinity, 3 normal, 4 small, 5 nought. -/
def classV (s : Int) : Int := if expV s = 255 then (if fracV s = 0 then 2 else 1) else if expV s = 0 then (if fracV s = 0 then 5 else 4) else 3
theorem neg_bit {s : Int} (h0 : 0 ≤ s) (h1 : s ≤ 4294967295) : (bits .and .u32 s 2147483648 != 0) = negB s := by
  unfold negB
  by_cases h : s < 2147483648
  · rw [and_lo s h0 h]; simp; omega
  · rw [and_hi s (by omega) h1]; simp; omega
theorem exp_bits {s : Int} (h0 : 0 ≤ s) (h1 : s ≤ 4294967295) : bits .and .u32 (s / 8388608) 255 = expV s := and_255 _ (by omega) (by omega)
theorem frac_bits {s : Int} (h0 : 0 ≤ s) (h1 : s ≤ 4294967295) : bits .and .u32 s 8388607 = fracV s := and_frac _ h0 h1
theorem classV_1 {s : Int} (h : expV s = 255) (g : ¬ fracV s = 0) : classV s = 1 := by unfold classV; rw [if_pos h, if_neg g]
theorem classV_2 {s : Int} (h : expV s = 255) (g : fracV s = 0) : classV s = 2 := by unfold classV; rw [if_pos h, if_pos g]
theorem classV_3 {s : Int} (h : ¬ expV s = 255) (g : ¬ expV s = 0) : classV s = 3 := by unfold classV; rw [if_neg h, if_neg g]
theorem classV_4 {s : Int} (h : expV s = 0) (g : ¬ fracV s = 0) : classV s = 4 := by unfold classV; rw [if_neg (by omega), if_pos h, if_neg g]
theorem classV_5 {s : Int} (h : expV s = 0) (g : fracV s = 0) : classV s = 5 := by unfold classV; rw [if_neg (by omega), if_pos h, if_pos g]

set_option maxHeartbeats 400000 in
theorem makeup_any (s : Int) (h0 : 0 ≤ s) (h1 : s ≤ 4294967295) (w : World) :
    Calls Tryz.prog 136 #[.int .u32 s] w fun e w' => e = .returned (.agg #[.bool (negB s), .int .u32 (expV s), .int .u32 (fracV s)]) ∧ Q w w' := by
  have e1 := neg_bit h0 h1
  have e2 := exp_bits h0 h1
  have e3 := frac_bits h0 h1
  go_enter Tryz.func136, Tryz.ntmps136
  go_wp2
  exact bodyPost_ret (v := .agg #[.bool (negB s), .int .u32 (expV s), .int .u32 (fracV s)]) (by simp [results, Tryz.results136, go_sem]) rfl ⟨rfl, (Q.refl w).cells _ _⟩

set_option maxHeartbeats 400000 in
theorem class_any (s : Int) (h0 : 0 ≤ s) (h1 : s ≤ 4294967295) (w : World) :
    Calls Tryz.prog 107 #[.int .u32 s] w fun e w' => e = .returned (.int .i64 (classV s)) ∧ Q w w' := by
  obtain ⟨x0, x1⟩ := expV_bd s
  obtain ⟨f0, f1⟩ := fracV_bd s
  go_enter Tryz.func107, Tryz.ntmps107
  go_wp2_with fail
  refine (makeup_any s h0 h1 _).mono ?_
  rintro e w1 ⟨rfl, q1⟩
  go_wp2_with fail
  all_goals
    go_ret
    exact ⟨ret_int (by first | exact (classV_1 (by assumption) (by assumption)).symm | exact (classV_2 (by assumption) (by assumption)).symm | exact (classV_3 (by assumption) (by assumption)).symm | exact (classV_4 (by assumption) (by assumption)).symm | exact (classV_5 (by assumption) (by assumption)).symm), q1.cells _ _⟩

theorem class_nan (a : Nat) : (classV (a : Int) == 1) = nanN a := by
  unfold nanN classV expV fracV
  by_cases h1 : (a : Int) / 8388608 % 256 = 255
  · rw [if_pos h1]
    by_cases h2 : (a : Int) % 8388608 = 0
    · rw [if_pos h2, decide_eq_false (by omega)]; rfl
    · rw [if_neg h2, decide_eq_true (by omega)]; rfl
  · rw [if_neg h1, decide_eq_false (by omega)]
    split
    · split <;> rfl
    · rfl

set_option maxHeartbeats 400000 in
theorem isnan_any (a : Nat) (ha : a < 4294967296) (w : World) :
    Calls Tryz.prog 83 #[.int .u32 a] w fun e w' => e = .returned (.bool (nanN a)) ∧ Q w w' := by
  have e1 := class_nan a
  go_enter Tryz.func83, Tryz.ntmps83
  go_wp2_with fail
  refine (class_any a (by omega) (by omega) _).mono ?_
  rintro e w1 ⟨rfl, q1⟩
  go_wp2_with fail
  go_ret
  exact ⟨rfl, q1⟩

/-- A sample, or the made NaN. -/
def madeN (a : Nat) : Nat := if nanN a = true then 2143289344 else a
theorem madeN_lt {a : Nat} (h : a < 4294967296) : madeN a < 4294967296 := by unfold madeN; split <;> omega
theorem madeN_of {a : Nat} (h : nanN a = false) : madeN a = a := by unfold madeN; rw [h]; rfl
theorem madeN_nan {a : Nat} (h : nanN a = true) : madeN a = 2143289344 := by unfold madeN; rw [h]; rfl
set_option maxHeartbeats 400000 in
theorem made_any (a : Nat) (ha : a < 4294967296) (w : World) :
    Calls Tryz.prog 160 #[.int .u32 a] w fun e w' => e = .returned (.int .u32 (madeN a : Nat)) ∧ Q w w' := by
  cases h : nanN a
  · rw [madeN_of h]
    go_enter Tryz.func160, Tryz.ntmps160
    go_wp2_with fail
    refine (isnan_any a ha _).mono ?_
    rintro e w1 ⟨rfl, q1⟩
    go_wp2_with fail
    go_ret
    exact ⟨rfl, q1⟩
  · rw [madeN_nan h]
    go_enter Tryz.func160, Tryz.ntmps160
    go_wp2_with fail
    refine (isnan_any a ha _).mono ?_
    rintro e w1 ⟨rfl, q1⟩
    go_wp2_with fail
    go_ret
    exact ⟨rfl, q1⟩

set_option maxHeartbeats 400000 in
theorem key_any (s : Int) (h0 : 0 ≤ s) (h1 : s ≤ 4294967295) (w : World) :
    Calls Tryz.prog 81 #[.int .u32 s] w fun e w' => e = .returned (.int .u32 (keyV s)) ∧ w' = w := by
  by_cases h : s < 2147483648
  · have e1 := and_lo s h0 h
    have e2 := or_lo s h0 h
    go_enter Tryz.func81, Tryz.ntmps81
    go_wp2
    go_ret
    exact ⟨ret_int (keyV_lo h).symm, rfl⟩
  · have e1 := and_hi s (by omega) h1
    go_enter Tryz.func81, Tryz.ntmps81
    go_wp2
    go_ret
    exact ⟨ret_int (keyV_hi (by omega)).symm, rfl⟩

end Go.Proofs.YtieojgblamkgoaaGreatDoor
