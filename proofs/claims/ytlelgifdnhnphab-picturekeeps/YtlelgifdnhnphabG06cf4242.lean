/- Plain facts: roots with one bit that tells what is left; rounding a root twice; the model's root. -/
import Derived.Test.YtlelgifdnhnphabGd2bd5581
import Derived.Test.YtlelgifdnhnphabG393e0c75
namespace Go.Proofs.Ytlelgifdnhnphab
open Go.RowKit

/-- The whole root. -/
structure IsRoot (n r : Nat) : Prop where
  lo : r * r ≤ n
  hi : n < (r + 1) * (r + 1)
theorem root_unique {n r s : Nat} (h : IsRoot n r) (g : IsRoot n s) : r = s := by
  rcases Nat.lt_trichotomy r s with k | k | k
  · have := Nat.mul_le_mul (show r + 1 ≤ s from k) (show r + 1 ≤ s from k)
    have := h.hi; have := g.lo; omega
  · exact k
  · have := Nat.mul_le_mul (show s + 1 ≤ r from k) (show s + 1 ≤ r from k)
    have := g.hi; have := h.lo; omega
/-- The root's digits, and one more that tells of a rest. -/
def srV (n r : Nat) : Nat := 2 * r + if r * r = n then 0 else 1
theorem sq_pow (q k : Nat) : q * 2 ^ k * (q * 2 ^ k) = q * q * 4 ^ k := by
  rw [Nat.mul_mul_mul_comm, ← Nat.mul_pow]
theorem root_cut {n R k : Nat} (h : IsRoot (n * 4 ^ k) R) : IsRoot n (R / 2 ^ k) := by
  have hk := Nat.two_pow_pos k
  have h4 : 0 < 4 ^ k := Nat.pow_pos (by decide)
  have d := Nat.div_add_mod R (2 ^ k)
  have m := Nat.mod_lt R hk
  have e1 : R / 2 ^ k * 2 ^ k ≤ R := by rw [Nat.mul_comm]; omega
  have e2 : R + 1 ≤ (R / 2 ^ k + 1) * 2 ^ k := by rw [Nat.add_mul, Nat.one_mul, Nat.mul_comm]; omega
  constructor
  · have := Nat.mul_le_mul e1 e1
    rw [sq_pow] at this
    exact Nat.le_of_mul_le_mul_right (Nat.le_trans this h.lo) h4
  · have := Nat.mul_le_mul e2 e2
    rw [sq_pow] at this
    exact Nat.lt_of_mul_lt_mul_right (Nat.lt_of_lt_of_le h.hi this)
theorem sr_stick {n R k : Nat} (h : IsRoot (n * 4 ^ k) R) : stick (srV (n * 4 ^ k) R) (k + 1) = srV n (R / 2 ^ k) := by
  have hk := Nat.two_pow_pos k
  have h4 : 0 < 4 ^ k := Nat.pow_pos (by decide)
  have hc := root_cut h
  have d := Nat.div_add_mod R (2 ^ k)
  have m := Nat.mod_lt R hk
  have flag : R / 2 ^ k * (R / 2 ^ k) = n ↔ R % 2 ^ k = 0 ∧ R * R = n * 4 ^ k := by
    constructor
    · intro e
      have e1 : IsRoot (n * 4 ^ k) (R / 2 ^ k * 2 ^ k) := by
        have e2 : R / 2 ^ k * 2 ^ k * (R / 2 ^ k * 2 ^ k) = n * 4 ^ k := by rw [sq_pow, e]
        refine ⟨by omega, ?_⟩
        rw [← e2]
        have : (R / 2 ^ k * 2 ^ k) * (R / 2 ^ k * 2 ^ k) < (R / 2 ^ k * 2 ^ k + 1) * (R / 2 ^ k * 2 ^ k + 1) := Nat.mul_lt_mul_of_lt_of_le (by omega) (by omega) (by omega)
        exact this
      have e3 := root_unique h e1
      refine ⟨by rw [Nat.mul_comm] at e3; omega, ?_⟩
      rw [e3, sq_pow, e]
    · rintro ⟨e1, e2⟩
      have e3 : R = R / 2 ^ k * 2 ^ k := by rw [Nat.mul_comm]; omega
      rw [e3, sq_pow] at e2
      exact Nat.eq_of_mul_eq_mul_right h4 e2
  have ep : 2 ^ (k + 1) = 2 * 2 ^ k := by rw [Nat.pow_succ]; omega
  unfold stick srV
  obtain ⟨b, hb⟩ : ∃ b, b = if R * R = n * 4 ^ k then 0 else 1 := ⟨_, rfl⟩
  have hb2 : b < 2 := by rw [hb]; split <;> omega
  have hbR : b = 0 ↔ R * R = n * 4 ^ k := by rw [hb]; split <;> omega
  rw [← hb]
  have f1 : (2 * R + b) / 2 ^ (k + 1) = R / 2 ^ k := by
    rw [ep, ← Nat.div_div_eq_div_mul, show (2 * R + b) / 2 = R by omega]
  have f2 : (2 * R + b) % 2 ^ (k + 1) = 2 * (R % 2 ^ k) + b := by
    have g := Nat.div_add_mod (2 * R + b) (2 ^ (k + 1))
    rw [f1, ep] at g
    rw [ep]
    have g2 : 2 * 2 ^ k * (R / 2 ^ k) = 2 * (2 ^ k * (R / 2 ^ k)) := Nat.mul_assoc _ _ _
    omega
  rw [f1, f2]
  by_cases e : R / 2 ^ k * (R / 2 ^ k) = n
  · obtain ⟨a1, a2⟩ := flag.1 e
    rw [if_pos e, if_pos (by have := hbR.2 a2; omega)]
  · rw [if_neg e, if_neg]
    intro h'
    exact e (flag.2 ⟨by omega, hbR.1 (by omega)⟩)
theorem sr_link (f : Ieee.Format) {n R k : Nat} (x : Int) (h : IsRoot (n * 4 ^ k) R) (hq : 2 ^ (f.fractionBits + 1) ≤ R / 2 ^ k) :
    rungOf f (srV (n * 4 ^ k) R) (x - k - 1) = rungOf f (srV n (R / 2 ^ k)) (x - 1) := by
  have h1 : 2 ^ (f.fractionBits + 1 + k) ≤ R := by
    rw [Nat.pow_add]
    exact (Nat.le_div_iff_mul_le (Nat.two_pow_pos k)).1 hq
  have h2 : 2 ^ (f.fractionBits + 2 + k) ≤ srV (n * 4 ^ k) R := by
    unfold srV
    rw [show f.fractionBits + 2 + k = f.fractionBits + 1 + k + 1 by omega, Nat.pow_succ]
    omega
  have hM : srV (n * 4 ^ k) R ≠ 0 := by have := Nat.two_pow_pos (f.fractionBits + 2 + k); omega
  have hlog : f.fractionBits + 2 + k ≤ (srV (n * 4 ^ k) R).log2 := (Nat.le_log2 hM).2 h2
  have := rung_stick f (M := srV (n * 4 ^ k) R) (k := k + 1) (x - k - 1) (by omega) hM (by unfold lastOf; omega)
  rw [sr_stick h] at this
  rw [← this]
  congr 1; omega

/-- The model's search. -/
theorem rootFrom_to (n : Nat) : ∀ (todo r : Nat), r * r ≤ n → n < (r + 2 ^ todo) * (r + 2 ^ todo) → IsRoot n (Ieee.Datum.rootFrom n todo r) := by
  intro todo
  induction todo with
  | zero =>
    intro r h1 h2
    exact ⟨h1, h2⟩
  | succ t ih =>
    intro r h1 h2
    unfold Ieee.Datum.rootFrom
    dsimp only
    rw [Nat.shiftLeft_eq, Nat.one_mul]
    by_cases g : (r + 2 ^ t) * (r + 2 ^ t) ≤ n
    · rw [if_pos g]
      refine ih _ g ?_
      rw [Nat.pow_succ] at h2
      rw [show r + 2 ^ t + 2 ^ t = r + 2 ^ t * 2 by omega]; exact h2
    · rw [if_neg g]
      exact ih _ h1 (by omega)
theorem root_whole (n : Nat) : IsRoot n (Ieee.Datum.rootFrom n (n.log2 / 2 + 1) 0) := by
  refine rootFrom_to n _ 0 (Nat.zero_le _) ?_
  have h2 : n < 2 ^ (n.log2 + 1) := Nat.lt_log2_self
  rw [Nat.zero_add, ← Nat.pow_add]
  exact Nat.lt_of_lt_of_le h2 (Nat.pow_le_pow_right (by decide) (by omega))

/-- Rounding a root twice doesn't show. -/
theorem twice {S n' r : Nat} (hr : IsRoot n' r) (hS : S = srV n' r) (h0 : 2 ^ 54 ≤ r) (h1 : r < 2 ^ 55) (hd : 2 ^ 61 ∣ n') : rne (rne S 3 * 8) 32 = rne S 32 := by
  obtain ⟨n1, n2⟩ := rne_near S 3
  obtain ⟨c, hc⟩ : ∃ c, c = rne S 3 := ⟨_, rfl⟩
  rw [← hc] at n1 n2 ⊢
  have e8 : (2 : Nat) ^ 3 = 8 := rfl
  rw [e8] at n1 n2
  have hS2 : S = 2 * r ∨ S = 2 * r + 1 := by rw [hS]; unfold srV; split <;> omega
  have hno : c * 8 % 4294967296 ≠ 2147483648 := by
    intro hm
    obtain ⟨q, hq⟩ : ∃ q, c * 8 = (2 * q + 1) * 2147483648 := ⟨c * 8 / 4294967296, by omega⟩
    obtain ⟨v, hv⟩ := hd
    have hC : c * 8 ≤ 2 ^ 57 := by omega
    -- 4 n' lies about the square of it
    obtain ⟨C, hCe⟩ : ∃ C, C = c * 8 := ⟨_, rfl⟩
    rw [← hCe] at hq hC n1 n2
    have a1 : C ≤ 2 * r + 5 := by omega
    have a2 : 2 * r + 2 ≤ C + 6 := by omega
    have b1 := hr.lo
    have b2 := hr.hi
    have s1 : C * C ≤ (2 * r + 5) * (2 * r + 5) := Nat.mul_le_mul a1 a1
    have s2 : (2 * r + 2) * (2 * r + 2) ≤ (C + 6) * (C + 6) := Nat.mul_le_mul a2 a2
    have t1 : (2 * r + 5) * (2 * r + 5) = 4 * (r * r) + 20 * r + 25 := by
      simp only [Nat.add_mul, Nat.mul_add, Nat.mul_assoc, Nat.mul_left_comm r 2]
      omega
    have t2 : (2 * r + 2) * (2 * r + 2) = 4 * ((r + 1) * (r + 1)) := by
      rw [show 2 * r + 2 = 2 * (r + 1) by omega, Nat.mul_mul_mul_comm]
    have t3 : (C + 6) * (C + 6) = C * C + 12 * C + 36 := by
      simp only [Nat.add_mul, Nat.mul_add]
      omega
    have t4 : C * C = (2 * q + 1) * (2 * q + 1) * 4611686018427387904 := by
      rw [hq, Nat.mul_mul_mul_comm]
    have t5 : (2 * q + 1) * (2 * q + 1) = 2 * (2 * (q * q) + 2 * q) + 1 := by
      simp only [Nat.add_mul, Nat.mul_add, Nat.mul_assoc, Nat.mul_left_comm q 2]
      omega
    rw [t5] at t4
    have e61 : (2 : Nat) ^ 61 = 2305843009213693952 := by decide
    rw [e61] at hv
    generalize q * q = qq at t4
    generalize C * C = CC at *
    generalize r * r = rr at *
    generalize (r + 1) * (r + 1) = rp at *
    omega
  have h32 : (2 : Nat) ^ 32 = 4294967296 := by decide
  have g1 : rne (c * 8) 32 = c * 8 / 4294967296 ∧ c * 8 % 4294967296 < 2147483648 ∨ rne (c * 8) 32 = c * 8 / 4294967296 + 1 ∧ 2147483648 < c * 8 % 4294967296 := by
    unfold rne
    by_cases g : goesUp (c * 8) 32
    · rw [if_pos g, h32]
      unfold goesUp at g
      rw [h32] at g
      right; exact ⟨rfl, by omega⟩
    · rw [if_neg g, h32]
      unfold goesUp at g
      rw [h32] at g
      left; exact ⟨rfl, by omega⟩
  have g2 : rne S 32 = S / 4294967296 ∧ S % 4294967296 ≤ 2147483648 ∨ rne S 32 = S / 4294967296 + 1 ∧ 2147483648 ≤ S % 4294967296 := by
    unfold rne
    by_cases g : goesUp S 32
    · rw [if_pos g, h32]
      unfold goesUp at g
      rw [h32] at g
      right; exact ⟨rfl, by omega⟩
    · rw [if_neg g, h32]
      unfold goesUp at g
      rw [h32] at g
      left; exact ⟨rfl, by omega⟩
  generalize rne (c * 8) 32 = x at g1 ⊢
  generalize rne S 32 = y at g2 ⊢
  have hc8 : c * 8 % 8 = 0 := Nat.mul_mod_left _ _
  generalize c * 8 = C at *
  omega
end Go.Proofs.Ytlelgifdnhnphab
/- Plain facts: what the program's Sqrt tells of a number above 0: its root, rounded once; the odd cases. -/
namespace Go.Proofs.Ytlelgifdnhnphab
open Go.RowKit

/-- The root of a number of the form m * 2^p. -/
theorem sqrtV_fin {a : Nat} (h0 : rung32 a ≠ 0) (h : rung32 a < 2139095040) (hs : sgn32 a = false) :
    ∃ n' r A : Nat, IsRoot n' r ∧ 2 ^ 54 ≤ r ∧ r < 2 ^ 55 ∧ n' = mag32 (rung32 a) * 2 ^ A ∧ (-149 + (plc32 (rung32 a) : Int) - A) % 2 = 0 ∧ 85 ≤ A ∧ A ≤ 109 ∧
      sqrtV a = Ieee.single.word false (rungOf Ieee.single (srV n' r) ((-149 + (plc32 (rung32 a) : Int) - A) / 2 - 1)) := by
  have hn : nanN a = false := fin_num h
  obtain ⟨L, hL, m0, m1, e, hp⟩ := wide_wd h0 h
  have b0 : 4503599627370496 ≤ mag32 (rung32 a) * 2 ^ (52 - L) := by
    have := Nat.mul_le_mul_right (2 ^ (52 - L)) m0
    rw [← Nat.pow_add, show L + (52 - L) = 52 by omega] at this
    exact this
  have b1 : mag32 (rung32 a) * 2 ^ (52 - L) < 9007199254740992 := by
    have := Nat.mul_lt_mul_of_pos_right m1 (Nat.two_pow_pos (52 - L))
    rw [← Nat.pow_add, show L + 1 + (52 - L) = 53 by omega] at this
    exact this
  obtain ⟨M, hM⟩ : ∃ M, M = mag32 (rung32 a) * 2 ^ (52 - L) := ⟨_, rfl⟩
  obtain ⟨P, hP⟩ : ∃ P : Int, P = -149 + (plc32 (rung32 a) : Int) + L - 52 := ⟨_, rfl⟩
  rw [← hM] at b0 b1 e
  rw [← hP, hs] at e
  have hlog : M.log2 = 52 := by
    have hne : M ≠ 0 := by omega
    exact (Nat.log2_eq_iff hne).2 ⟨b0, b1⟩
  obtain ⟨more, hmore⟩ : ∃ more : Nat, more = 56 + ((P - ((56 : Nat) : Int)) % 2).toNat := ⟨_, rfl⟩
  have hm2 : more = 56 ∨ more = 57 := by omega
  have hev : (P - more) % 2 = 0 := by omega
  obtain ⟨r, hr⟩ : ∃ r, r = Ieee.Datum.rootFrom (M * 2 ^ more) ((M * 2 ^ more).log2 / 2 + 1) 0 := ⟨_, rfl⟩
  have hroot : IsRoot (M * 2 ^ more) r := by rw [hr]; exact root_whole _
  have lo : 2 ^ 108 ≤ M * 2 ^ more := by
    rcases hm2 with g | g
    · rw [g]; have := Nat.mul_le_mul_right (2 ^ 56) b0; exact this
    · rw [g]; have := Nat.mul_le_mul_right (2 ^ 57) b0; exact Nat.le_trans (by decide) this
  have up : M * 2 ^ more < 2 ^ 110 := by
    rcases hm2 with g | g
    · rw [g]; have := Nat.mul_lt_mul_of_pos_right b1 (Nat.two_pow_pos 56); exact Nat.lt_of_lt_of_le this (by decide)
    · rw [g]; have := Nat.mul_lt_mul_of_pos_right b1 (Nat.two_pow_pos 57); exact this
  have r0 : 2 ^ 54 ≤ r := by
    rcases Nat.lt_or_ge r (2 ^ 54) with g | g
    · have k1 := hroot.hi
      have k2 : (r + 1) * (r + 1) ≤ 2 ^ 54 * 2 ^ 54 := Nat.mul_le_mul g g
      rw [← Nat.pow_add] at k2
      omega
    · exact g
  have r1 : r < 2 ^ 55 := by
    rcases Nat.lt_or_ge r (2 ^ 55) with g | g
    · exact g
    · have k1 := hroot.lo
      have k2 : 2 ^ 55 * 2 ^ 55 ≤ r * r := Nat.mul_le_mul g g
      rw [← Nat.pow_add] at k2
      omega
  obtain ⟨S, hS⟩ : ∃ S, S = srV (M * 2 ^ more) r := ⟨_, rfl⟩
  have hSlog : S.log2 = 55 := by
    have : S = 2 * r ∨ S = 2 * r + 1 := by rw [hS]; unfold srV; split <;> omega
    exact (Nat.log2_eq_iff (by omega)).2 ⟨by omega, by omega⟩
  have hS0 : S ≠ 0 := by intro h0; rw [h0] at hSlog; exact absurd hSlog (by decide)
  obtain ⟨pl, hpl⟩ : ∃ pl : Int, pl = (P - more) / 2 - 1 := ⟨_, rfl⟩
  have hroot2 : Ieee.double.sqrt (wideN a) = some (Ieee.double.nearest false S pl) := by
    unfold Ieee.Format.sqrt
    rw [e, read_wd b0 b1 (by omega) (by omega)]
    have hd : (Ieee.Datum.number false M P).root (Ieee.double.fractionBits + 2) = some (.number false S pl) := by
      have hM0 : ¬ M = 0 := by omega
      have q1 : 2 * (Ieee.double.fractionBits + 2) - M.log2 = 56 := by rw [hlog]; decide
      simp only [Ieee.Datum.root, hM0, q1, if_false, Bool.false_eq_true]
      rw [hS, hpl, ← hmore, Nat.shiftLeft_eq, ← hr]
      unfold srV
      congr 2
      congr 1
      by_cases k : r * r = M * 2 ^ more
      · rw [if_pos k, k]; simp
      · rw [if_neg k, bne_iff_ne.2 k]; rfl
    rw [hd]; rfl
  have hval : sqrtV a = Ieee.single.word false (rungOf Ieee.single S pl) := by
    unfold sqrtV
    rw [hn, hroot2]
    show toldD (some (Ieee.double.read (Ieee.double.nearest false S pl))) = _
    have hlast : lastOf Ieee.double S pl = pl + 3 := by unfold lastOf; rw [least64, frac64, hSlog]; omega
    have hkept := kept_le Ieee.double S pl
    rw [hlast, binade64, show pl - (pl + 3) = -((3 : Nat) : Int) by omega, rz_neg] at hkept
    have hkept2 := le_kept Ieee.double hS0 pl (by rw [hlast, frac64, hSlog]; omega)
    rw [hlast, binade64, show pl - (pl + 3) = -((3 : Nat) : Int) by omega, rz_neg] at hkept2
    obtain ⟨c, hc⟩ : ∃ c, c = rne S 3 := ⟨_, rfl⟩
    rw [← hc] at hkept hkept2
    have hr64 : rungOf Ieee.double S pl = (pl + 3 + 1074).toNat * 4503599627370496 + c := by
      unfold rungOf
      rw [if_neg hS0, hlast, least64, binade64, inf64, show pl - (pl + 3) = -((3 : Nat) : Int) by omega, rz_neg, ← hc, show pl + 3 - -1074 = pl + 3 + 1074 by omega]
      rw [Nat.min_eq_left (by omega)]
    rw [nearest_rung, hr64]
    obtain ⟨a1, a2⟩ := sgn_word64 false (r := (pl + 3 + 1074).toNat * 4503599627370496 + c) (by omega)
    rw [read_fin64 (by rw [a2]; omega), a1, a2, toldD_num, rung_word64, val_of (by omega) (fun _ => by omega), rung_scale, show -1074 + (((pl + 3 + 1074).toNat : Nat) : Int) = pl + (3 : Nat) by omega, ← rung_scale]
    refine congrArg (Ieee.single.word false) ?_
    show rungOf Ieee.single (c * 8) pl = _
    have htw := twice hroot hS r0 r1 (Nat.dvd_trans (show 2 ^ 61 ∣ 2 ^ (52 - L + more) from Nat.pow_dvd_pow 2 (by omega)) ⟨mag32 (rung32 a), by rw [hM, Nat.mul_assoc, ← Nat.pow_add, Nat.mul_comm]⟩)
    rw [← hc] at htw
    have hl32 : lastOf Ieee.single S pl = pl + 32 := by unfold lastOf; rw [least32, show (Ieee.single.fractionBits : Int) = 23 from rfl, hSlog]; omega
    have hright : rungOf Ieee.single S pl = min ((pl + 32 + 149).toNat * 8388608 + rne S 32) 2139095040 := by
      unfold rungOf
      rw [if_neg hS0, hl32, least32, binade32, inf32, show pl - (pl + 32) = -((32 : Nat) : Int) by omega, rz_neg, show pl + 32 - -149 = pl + 32 + 149 by omega]
    rw [hright, ← htw]
    have hc0 : c * 8 ≠ 0 := by omega
    rcases Nat.lt_or_ge c 9007199254740992 with g | g
    · have hcl : (c * 8).log2 = 55 := (Nat.log2_eq_iff hc0).2 ⟨by omega, by omega⟩
      have hl : lastOf Ieee.single (c * 8) pl = pl + 32 := by unfold lastOf; rw [least32, show (Ieee.single.fractionBits : Int) = 23 from rfl, hcl]; omega
      unfold rungOf
      rw [if_neg hc0, hl, least32, binade32, inf32, show pl - (pl + 32) = -((32 : Nat) : Int) by omega, rz_neg, show pl + 32 - -149 = pl + 32 + 149 by omega]
    · have hc1 : c = 9007199254740992 := by omega
      have hcl : (c * 8).log2 = 56 := by rw [hc1]; decide
      have hl : lastOf Ieee.single (c * 8) pl = pl + 33 := by unfold lastOf; rw [least32, show (Ieee.single.fractionBits : Int) = 23 from rfl, hcl]; omega
      unfold rungOf
      rw [if_neg hc0, hl, least32, binade32, inf32, show pl - (pl + 33) = -((33 : Nat) : Int) by omega, rz_neg, hc1]
      have k1 : rne (9007199254740992 * 8) 33 = 8388608 := by decide +kernel
      have k2 : rne (9007199254740992 * 8) 32 = 16777216 := by decide +kernel
      rw [k1, k2, show (pl + 33 - -149).toNat * 8388608 + 8388608 = (pl + 32 + 149).toNat * 8388608 + 16777216 by omega]
  refine ⟨M * 2 ^ more, r, 52 - L + more, hroot, r0, r1, ?_, ?_, by omega, by omega, ?_⟩
  · rw [hM, Nat.mul_assoc, ← Nat.pow_add]
  · omega
  · rw [hval, hS, hpl]
    congr 2
    omega
theorem sqrtV_zero {a : Nat} (h : rung32 a = 0) : sqrtV a = Ieee.single.word (sgn32 a) 0 := by
  have e : Ieee.double.sqrt (wideN a) = some (Ieee.double.word (sgn32 a) 0) := by
    unfold Ieee.Format.sqrt
    rw [wide_zero h, read_word64]
    show some (Ieee.double.nearest (sgn32 a) 0 (-1074)) = _
    rw [nearest_rung, rungOf_zero]
  unfold sqrtV
  rw [fin_num (by omega), e]
  show toldD (some (Ieee.double.read (Ieee.double.word (sgn32 a) 0))) = _
  rw [read_word64, toldD_num, rungOf_zero]
theorem sqrtV_pinf {a : Nat} (h : rung32 a = 2139095040) (hs : sgn32 a = false) : sqrtV a = Ieee.single.word false 2139095040 := by
  have e : Ieee.double.sqrt (wideN a) = some (Ieee.double.word false 9218868437227405312) := by
    unfold Ieee.Format.sqrt
    rw [wide_read_inf h, hs]
    show some (Ieee.double.write (.infinity false)) = _
    rw [write_inf]
  unfold sqrtV
  rw [inf_num h, e]
  show toldD (some (Ieee.double.read (Ieee.double.word false 9218868437227405312))) = _
  rw [told_inf]
theorem sqrtV_none {a : Nat} (h : nanN a = true ∨ (rung32 a ≠ 0 ∧ sgn32 a = true)) : sqrtV a = 2143289344 := by
  unfold sqrtV
  cases hn : nanN a
  · rcases h with h | ⟨h, hs⟩
    · rw [hn] at h; cases h
    · have e : Ieee.double.sqrt (wideN a) = none := by
        unfold Ieee.Format.sqrt
        rw [nanN_rung] at hn
        have hn := of_decide_eq_false hn
        rcases Nat.lt_or_ge (rung32 a) 2139095040 with g | g
        · rw [read_fin64 (wide_fin g).1, (wide_fin g).2.1, hs]
          have hm : ¬ mag64 (rung64 (wideN a)) = 0 := fun k => mag_ne32 h ((wide_mag_zero g).1 k)
          simp [Ieee.Datum.root, hm]
        · rw [wide_read_inf (by omega), hs]; rfl
      rw [e]; rfl
  · rfl
end Go.Proofs.Ytlelgifdnhnphab
