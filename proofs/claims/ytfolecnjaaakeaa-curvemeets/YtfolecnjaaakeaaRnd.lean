/- Plain facts on rounding to the nearest, ties to even: closed forms, scaling, sticky bits, rising. -/
import Ieee.Arith
namespace Go.Proofs.Ytfolecnjaaakeaa

/-- Does n / 2^d go up? -/
abbrev goesUp (n d : Nat) : Prop := 2 ^ d < 2 * (n % 2 ^ d) ∨ (2 ^ d = 2 * (n % 2 ^ d) ∧ n / 2 ^ d % 2 = 1)
/-- n / 2^d, rounded to the nearest, ties to even. -/
def rne (n d : Nat) : Nat := n / 2 ^ d + if goesUp n d then 1 else 0

theorem cut_rne (neg : Bool) (n d : Nat) : Ieee.Toward.even.cut neg n d = rne n d := by
  unfold Ieee.Toward.cut rne
  have key : ∀ e, ((decide ((1 <<< e : Nat) < 2 * (n % (1 <<< e))) || ((1 <<< e : Nat) == 2 * (n % (1 <<< e)) && n / (1 <<< e) % 2 == 1))).toNat = if goesUp n e then 1 else 0 := by
    intro e
    rw [Nat.shiftLeft_eq, Nat.one_mul]
    by_cases h1 : 2 ^ e < 2 * (n % 2 ^ e)
    · have gg : goesUp n e := Or.inl h1
      rw [if_pos gg]; simp [h1]
    · by_cases h2 : 2 ^ e = 2 * (n % 2 ^ e)
      · by_cases h3 : n / 2 ^ e % 2 = 1
        · have gg : goesUp n e := Or.inr ⟨h2, h3⟩
          rw [if_pos gg]
          have e1 : (2 ^ e == 2 * (n % 2 ^ e)) = true := beq_iff_eq.2 h2
          rw [e1, h3]; simp
        · have gg : ¬ goesUp n e := fun h => by
            rcases h with h | h
            · exact h1 h
            · exact h3 h.2
          rw [if_neg gg]
          have e1 : (n / 2 ^ e % 2 == 1) = false := beq_eq_false_iff_ne.2 h3
          rw [e1]; simp [h1]
      · have gg : ¬ goesUp n e := fun h => by
          rcases h with h | h
          · exact h1 h
          · exact h2 h.1
        rw [if_neg gg]
        have e1 : (2 ^ e == 2 * (n % 2 ^ e)) = false := beq_eq_false_iff_ne.2 h2
        rw [e1]; simp [h1]
  by_cases hd : d ≤ n.log2 + 2
  · rw [Nat.min_eq_left hd]
    show n / (1 <<< d) + _ = _
    rw [key d, Nat.shiftLeft_eq, Nat.one_mul]
  · rw [Nat.min_eq_right (by omega)]
    show n / (1 <<< (n.log2 + 2)) + _ = _
    rw [key (n.log2 + 2), Nat.shiftLeft_eq, Nat.one_mul]
    have hn : n < 2 ^ (n.log2 + 1) := Nat.lt_log2_self
    have a1 : 2 ^ (n.log2 + 2) = 2 * 2 ^ (n.log2 + 1) := by rw [Nat.pow_succ]; omega
    have a2 : 2 ^ (n.log2 + 2) ≤ 2 ^ d := Nat.pow_le_pow_right (by omega) (by omega)
    have b1 : n / 2 ^ (n.log2 + 2) = 0 := Nat.div_eq_of_lt (by omega)
    have b2 : n % 2 ^ (n.log2 + 2) = n := Nat.mod_eq_of_lt (by omega)
    have b3 : n / 2 ^ d = 0 := Nat.div_eq_of_lt (by omega)
    have b4 : n % 2 ^ d = n := Nat.mod_eq_of_lt (by omega)
    have c1 : ¬ goesUp n (n.log2 + 2) := by unfold goesUp; rw [b2]; omega
    have c2 : ¬ goesUp n d := by unfold goesUp; rw [b4]; omega
    rw [if_neg c1, if_neg c2, b1, b3]

theorem rne_zero (n : Nat) : rne n 0 = n := by
  have g : ¬ goesUp n 0 := by unfold goesUp; rw [Nat.pow_zero, Nat.mod_one]; omega
  unfold rne
  rw [if_neg g, Nat.pow_zero, Nat.div_one, Nat.add_zero]

/-- Factors of two go. -/
theorem rne_scale (n d k : Nat) : rne (n * 2 ^ k) (d + k) = rne n d := by
  have hk := Nat.two_pow_pos k
  have e1 : n * 2 ^ k / 2 ^ (d + k) = n / 2 ^ d := by rw [Nat.pow_add, Nat.mul_div_mul_right _ _ hk]
  have e2 : n * 2 ^ k % 2 ^ (d + k) = n % 2 ^ d * 2 ^ k := by rw [Nat.pow_add, Nat.mul_mod_mul_right]
  have e3 : goesUp (n * 2 ^ k) (d + k) ↔ goesUp n d := by
    unfold goesUp
    rw [e1, e2, Nat.pow_add, ← Nat.mul_assoc]
    constructor
    · rintro (h | ⟨h, g⟩)
      · exact Or.inl (Nat.lt_of_mul_lt_mul_right h)
      · exact Or.inr ⟨Nat.eq_of_mul_eq_mul_right hk h, g⟩
    · rintro (h | ⟨h, g⟩)
      · exact Or.inl (Nat.mul_lt_mul_of_pos_right h hk)
      · exact Or.inr ⟨congrArg (· * 2 ^ k) h, g⟩
  unfold rne
  by_cases h : goesUp n d
  · rw [if_pos h, if_pos (e3.2 h), e1]
  · rw [if_neg h, if_neg (fun g => h (e3.1 g)), e1]

theorem rne_exact (n d : Nat) : rne (n * 2 ^ d) d = n := by
  have := rne_scale n 0 d
  rw [Nat.zero_add, rne_zero] at this; exact this

/-- How far it lies. -/
theorem rne_near (n d : Nat) : 2 * (rne n d * 2 ^ d) ≤ 2 * n + 2 ^ d ∧ 2 * n ≤ 2 * (rne n d * 2 ^ d) + 2 ^ d := by
  have h := Nat.div_add_mod n (2 ^ d)
  have hm := Nat.mod_lt n (Nat.two_pow_pos d)
  have e : 2 ^ d * (n / 2 ^ d) = n / 2 ^ d * 2 ^ d := Nat.mul_comm _ _
  unfold rne
  by_cases g : goesUp n d
  · rw [if_pos g, Nat.add_mul, Nat.one_mul]
    unfold goesUp at g
    omega
  · rw [if_neg g, Nat.add_zero]
    unfold goesUp at g
    omega

/-- It rises. -/
theorem rne_mono {m n : Nat} (d : Nat) (h : m ≤ n) : rne m d ≤ rne n d := by
  have hq : m / 2 ^ d ≤ n / 2 ^ d := Nat.div_le_div_right h
  unfold rne
  by_cases e : m / 2 ^ d = n / 2 ^ d
  · by_cases g : goesUp m d
    · have g' : goesUp n d := by
        have h1 := Nat.div_add_mod m (2 ^ d)
        have h2 := Nat.div_add_mod n (2 ^ d)
        unfold goesUp at g ⊢
        rw [e] at h1 g
        omega
      rw [if_pos g, if_pos g', e]; exact Nat.le_refl _
    · rw [if_neg g, e]; omega
  · split <;> split <;> omega

theorem rne_lower {n d k : Nat} (h : k * 2 ^ d ≤ n) : k ≤ rne n d := by
  have := rne_mono d h
  rwa [rne_exact] at this
theorem rne_upper {n d k : Nat} (h : n ≤ k * 2 ^ d) : rne n d ≤ k := by
  have := rne_mono d h
  rwa [rne_exact] at this

/-- n without its k lowest bits, and a bit that tells whether there was anything in them. -/
def stick (n k : Nat) : Nat := 2 * (n / 2 ^ k) + if n % 2 ^ k = 0 then 0 else 1

theorem rne_stick {n k d : Nat} (h : k + 1 ≤ d) : rne (stick n k) (d - k + 1) = rne n d := by
  obtain ⟨j, rfl⟩ : ∃ j, d = k + j + 1 := ⟨d - k - 1, by omega⟩
  have ej : k + j + 1 - k + 1 = j + 2 := by omega
  rw [ej]
  have hk := Nat.two_pow_pos k
  have hj := Nat.two_pow_pos j
  have hn := Nat.div_add_mod n (2 ^ k)
  have hr := Nat.mod_lt n hk
  obtain ⟨q, hq⟩ : ∃ q, q = n / 2 ^ k := ⟨_, rfl⟩
  obtain ⟨r, hr'⟩ : ∃ r, r = n % 2 ^ k := ⟨_, rfl⟩
  rw [← hq, ← hr'] at hn
  rw [← hr'] at hr
  have hs : stick n k = 2 * q + if r = 0 then 0 else 1 := by unfold stick; rw [← hq, ← hr']
  -- q = 2^(j+1) * u + v
  have hqq := Nat.div_add_mod q (2 ^ (j + 1))
  have hv := Nat.mod_lt q (Nat.two_pow_pos (j + 1))
  obtain ⟨u, hu⟩ : ∃ u, u = q / 2 ^ (j + 1) := ⟨_, rfl⟩
  obtain ⟨v, hv'⟩ : ∃ v, v = q % 2 ^ (j + 1) := ⟨_, rfl⟩
  rw [← hu, ← hv'] at hqq
  rw [← hv'] at hv
  have p1 : 2 ^ (j + 1) = 2 * 2 ^ j := by rw [Nat.pow_succ]; omega
  have p2 : 2 ^ (j + 2) = 4 * 2 ^ j := by rw [Nat.pow_succ, p1]; omega
  have p3 : 2 ^ (k + j + 1) = 2 ^ k * (2 * 2 ^ j) := by rw [Nat.add_assoc, Nat.pow_add, p1]
  have d1 : n / 2 ^ (k + j + 1) = u := by rw [Nat.add_assoc, Nat.pow_add, ← Nat.div_div_eq_div_mul, ← hq, ← hu]
  have m1 : n % 2 ^ (k + j + 1) = 2 ^ k * v + r := by
    have h1 := Nat.div_add_mod n (2 ^ (k + j + 1))
    rw [d1, p3] at h1
    have h2 : n = 2 ^ k * (2 * 2 ^ j) * u + (2 ^ k * v + r) := by
      rw [← hn, ← hqq, p1, Nat.mul_add, ← Nat.mul_assoc]; omega
    rw [p3]; omega
  have st : (if r = 0 then 0 else 1) ≤ 1 := by split <;> omega
  obtain ⟨t, ht⟩ : ∃ t : Nat, t = if r = 0 then 0 else 1 := ⟨_, rfl⟩
  rw [← ht] at st hs
  have s2 : stick n k = 4 * 2 ^ j * u + (2 * v + t) := by rw [hs, ← hqq, p1, Nat.mul_add, ← Nat.mul_assoc, ← Nat.mul_assoc, Nat.add_assoc]
  have lt2 : 2 * v + t < 4 * 2 ^ j := by omega
  have d2 : stick n k / 2 ^ (j + 2) = u := by rw [p2, s2, Nat.mul_add_div (by omega), Nat.div_eq_of_lt lt2, Nat.add_zero]
  have m2 : stick n k % 2 ^ (j + 2) = 2 * v + t := by rw [p2, s2, Nat.mul_add_mod, Nat.mod_eq_of_lt lt2]
  have hvk : ∀ x : Nat, 2 ^ k * x + 2 ^ k = 2 ^ k * (x + 1) := fun x => by rw [Nat.mul_add, Nat.mul_one]
  have g : goesUp (stick n k) (j + 2) ↔ goesUp n (k + j + 1) := by
    unfold goesUp
    rw [d1, d2, m1, m2, p2, p3]
    have c1 : 4 * 2 ^ j < 2 * (2 * v + t) ↔ 2 ^ k * (2 * 2 ^ j) < 2 * (2 ^ k * v + r) := by
      rcases Nat.lt_trichotomy v (2 ^ j) with hlt | heq | hgt
      · have := Nat.mul_le_mul_left (2 ^ k) (show v + 1 ≤ 2 ^ j from hlt)
        have e := hvk v
        have e2 : 2 ^ k * (2 * 2 ^ j) = 2 * (2 ^ k * 2 ^ j) := by rw [← Nat.mul_assoc, Nat.mul_comm (2 ^ k) 2, Nat.mul_assoc]
        omega
      · rw [heq]
        have e2 : 2 ^ k * (2 * 2 ^ j) = 2 * (2 ^ k * 2 ^ j) := by rw [← Nat.mul_assoc, Nat.mul_comm (2 ^ k) 2, Nat.mul_assoc]
        split at ht <;> omega
      · have := Nat.mul_le_mul_left (2 ^ k) (show 2 ^ j + 1 ≤ v from hgt)
        have e := hvk (2 ^ j)
        have e2 : 2 ^ k * (2 * 2 ^ j) = 2 * (2 ^ k * 2 ^ j) := by rw [← Nat.mul_assoc, Nat.mul_comm (2 ^ k) 2, Nat.mul_assoc]
        omega
    have c2 : 4 * 2 ^ j = 2 * (2 * v + t) ↔ 2 ^ k * (2 * 2 ^ j) = 2 * (2 ^ k * v + r) := by
      rcases Nat.lt_trichotomy v (2 ^ j) with hlt | heq | hgt
      · have := Nat.mul_le_mul_left (2 ^ k) (show v + 1 ≤ 2 ^ j from hlt)
        have e := hvk v
        have e2 : 2 ^ k * (2 * 2 ^ j) = 2 * (2 ^ k * 2 ^ j) := by rw [← Nat.mul_assoc, Nat.mul_comm (2 ^ k) 2, Nat.mul_assoc]
        omega
      · rw [heq]
        have e2 : 2 ^ k * (2 * 2 ^ j) = 2 * (2 ^ k * 2 ^ j) := by rw [← Nat.mul_assoc, Nat.mul_comm (2 ^ k) 2, Nat.mul_assoc]
        split at ht <;> omega
      · have := Nat.mul_le_mul_left (2 ^ k) (show 2 ^ j + 1 ≤ v from hgt)
        have e := hvk (2 ^ j)
        have e2 : 2 ^ k * (2 * 2 ^ j) = 2 * (2 ^ k * 2 ^ j) := by rw [← Nat.mul_assoc, Nat.mul_comm (2 ^ k) 2, Nat.mul_assoc]
        omega
    rw [c1, c2]
  unfold rne
  by_cases h : goesUp n (k + j + 1)
  · rw [if_pos h, if_pos (g.2 h), d1, d2]
  · rw [if_neg h, if_neg (fun c => h (g.1 c)), d1, d2]

end Go.Proofs.Ytfolecnjaaakeaa
