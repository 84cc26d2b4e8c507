/- Plain facts: what the program's Sqrt tells of a number above 0: its root, rounded once; the odd cases. -/
import Derived.Test.YtkgojnjlfkijiaaG08a7e663
import Derived.Test.YtkgojnjlfkijiaaGfac5606e
import Derived.Test.YtkgojnjlfkijiaaG462f0baa
namespace Go.Proofs.Ytkgojnjlfkijiaa
open Go.RowKit

/-- The root of a number of the form m * 2^p. -/
theorem sqrtV_fin {a : Nat} (h0 : rung32 a ≠ 0) (h : rung32 a < 2139095040) (hs : sgn32 a = false) :
    ∃ n' r A : Nat, IsRoot n' r ∧ 2 ^ 54 ≤ r ∧ r < 2 ^ 55 ∧ n' = mag32 (rung32 a) * 2 ^ A ∧ (-149 + (plc32 (rung32 a) : Int) - A) % 2 = 0 ∧ 85 ≤ A ∧ A ≤ 109 ∧
      sqrtV a = Ieee.single.word false (rungOf Ieee.single (srV n' r) ((-149 + (plc32 (rung32 a) : Int) - A) / 2 - 1)) := by
  have hn : nanN a = false := fin_num h
  obtain ⟨L, hL, m0, m1, e, hp⟩ := wide_wd h0 h
  have b0 : 4503599627370496 ≤ mag32 (rung32 a) * 2 ^ (52 - L) := by
    have := Nat.mul_le_mul_right (2 ^ (52 - L)) m0
    rw [← Nat.pow_add, show L + (52 - L) = 52 by omega] at this
    exact this
  have b1 : mag32 (rung32 a) * 2 ^ (52 - L) < 9007199254740992 := by
    have := Nat.mul_lt_mul_of_pos_right m1 (Nat.two_pow_pos (52 - L))
    rw [← Nat.pow_add, show L + 1 + (52 - L) = 53 by omega] at this
    exact this
  obtain ⟨M, hM⟩ : ∃ M, M = mag32 (rung32 a) * 2 ^ (52 - L) := ⟨_, rfl⟩
  obtain ⟨P, hP⟩ : ∃ P : Int, P = -149 + (plc32 (rung32 a) : Int) + L - 52 := ⟨_, rfl⟩
  rw [← hM] at b0 b1 e
  rw [← hP, hs] at e
  have hlog : M.log2 = 52 := by
    have hne : M ≠ 0 := by omega
    exact (Nat.log2_eq_iff hne).2 ⟨b0, b1⟩
  obtain ⟨more, hmore⟩ : ∃ more : Nat, more = 56 + ((P - ((56 : Nat) : Int)) % 2).toNat := ⟨_, rfl⟩
  have hm2 : more = 56 ∨ more = 57 := by omega
  have hev : (P - more) % 2 = 0 := by omega
  obtain ⟨r, hr⟩ : ∃ r, r = Ieee.Datum.rootFrom (M * 2 ^ more) ((M * 2 ^ more).log2 / 2 + 1) 0 := ⟨_, rfl⟩
  have hroot : IsRoot (M * 2 ^ more) r := by rw [hr]; exact root_whole _
  have lo : 2 ^ 108 ≤ M * 2 ^ more := by
    rcases hm2 with g | g
    · rw [g]; have := Nat.mul_le_mul_right (2 ^ 56) b0; exact this
    · rw [g]; have := Nat.mul_le_mul_right (2 ^ 57) b0; exact Nat.le_trans (by decide) this
  have up : M * 2 ^ more < 2 ^ 110 := by
    rcases hm2 with g | g
    · rw [g]; have := Nat.mul_lt_mul_of_pos_right b1 (Nat.two_pow_pos 56); exact Nat.lt_of_lt_of_le this (by decide)
    · rw [g]; have := Nat.mul_lt_mul_of_pos_right b1 (Nat.two_pow_pos 57); exact this
  have r0 : 2 ^ 54 ≤ r := by
    rcases Nat.lt_or_ge r (2 ^ 54) with g | g
    · have k1 := hroot.hi
      have k2 : (r + 1) * (r + 1) ≤ 2 ^ 54 * 2 ^ 54 := Nat.mul_le_mul g g
      rw [← Nat.pow_add] at k2
      omega
    · exact g
  have r1 : r < 2 ^ 55 := by
    rcases Nat.lt_or_ge r (2 ^ 55) with g | g
    · exact g
    · have k1 := hroot.lo
      have k2 : 2 ^ 55 * 2 ^ 55 ≤ r * r := Nat.mul_le_mul g g
      rw [← Nat.pow_add] at k2
      omega
  obtain ⟨S, hS⟩ : ∃ S, S = srV (M * 2 ^ more) r := ⟨_, rfl⟩
  have hSlog : S.log2 = 55 := by
    have : S = 2 * r ∨ S = 2 * r + 1 := by rw [hS]; unfold srV; split <;> omega
    exact (Nat.log2_eq_iff (by omega)).2 ⟨by omega, by omega⟩
  have hS0 : S ≠ 0 := by intro h0; rw [h0] at hSlog; exact absurd hSlog (by decide)
  obtain ⟨pl, hpl⟩ : ∃ pl : Int, pl = (P - more) / 2 - 1 := ⟨_, rfl⟩
  have hroot2 : Ieee.double.sqrt (wideN a) = some (Ieee.double.nearest false S pl) := by
    unfold Ieee.Format.sqrt
    rw [e, read_wd b0 b1 (by omega) (by omega)]
    have hd : (Ieee.Datum.number false M P).root (Ieee.double.fractionBits + 2) = some (.number false S pl) := by
      have hM0 : ¬ M = 0 := by omega
      have q1 : 2 * (Ieee.double.fractionBits + 2) - M.log2 = 56 := by rw [hlog]; decide
      simp only [Ieee.Datum.root, hM0, q1, if_false, Bool.false_eq_true]
      rw [hS, hpl, ← hmore, Nat.shiftLeft_eq, ← hr]
      unfold srV
      congr 2
      congr 1
      by_cases k : r * r = M * 2 ^ more
      · rw [if_pos k, k]; simp
      · rw [if_neg k, bne_iff_ne.2 k]; rfl
    rw [hd]; rfl
  have hval : sqrtV a = Ieee.single.word false (rungOf Ieee.single S pl) := by
    unfold sqrtV
    rw [hn, hroot2]
    show toldD (some (Ieee.double.read (Ieee.double.nearest false S pl))) = _
    have hlast : lastOf Ieee.double S pl = pl + 3 := by unfold lastOf; rw [least64, frac64, hSlog]; omega
    have hkept := kept_le Ieee.double S pl
    rw [hlast, binade64, show pl - (pl + 3) = -((3 : Nat) : Int) by omega, rz_neg] at hkept
    have hkept2 := le_kept Ieee.double hS0 pl (by rw [hlast, frac64, hSlog]; omega)
    rw [hlast, binade64, show pl - (pl + 3) = -((3 : Nat) : Int) by omega, rz_neg] at hkept2
    obtain ⟨c, hc⟩ : ∃ c, c = rne S 3 := ⟨_, rfl⟩
    rw [← hc] at hkept hkept2
    have hr64 : rungOf Ieee.double S pl = (pl + 3 + 1074).toNat * 4503599627370496 + c := by
      unfold rungOf
      rw [if_neg hS0, hlast, least64, binade64, inf64, show pl - (pl + 3) = -((3 : Nat) : Int) by omega, rz_neg, ← hc, show pl + 3 - -1074 = pl + 3 + 1074 by omega]
      rw [Nat.min_eq_left (by omega)]
    rw [nearest_rung, hr64]
    obtain ⟨a1, a2⟩ := sgn_word64 false (r := (pl + 3 + 1074).toNat * 4503599627370496 + c) (by omega)
    rw [read_fin64 (by rw [a2]; omega), a1, a2, toldD_num, rung_word64, val_of (by omega) (fun _ => by omega), rung_scale, show -1074 + (((pl + 3 + 1074).toNat : Nat) : Int) = pl + (3 : Nat) by omega, ← rung_scale]
    refine congrArg (Ieee.single.word false) ?_
    show rungOf Ieee.single (c * 8) pl = _
    have htw := twice hroot hS r0 r1 (Nat.dvd_trans (show 2 ^ 61 ∣ 2 ^ (52 - L + more) from Nat.pow_dvd_pow 2 (by omega)) ⟨mag32 (rung32 a), by rw [hM, Nat.mul_assoc, ← Nat.pow_add, Nat.mul_comm]⟩)
    rw [← hc] at htw
    have hl32 : lastOf Ieee.single S pl = pl + 32 := by unfold lastOf; rw [least32, show (Ieee.single.fractionBits : Int) = 23 from rfl, hSlog]; omega
    have hright : rungOf Ieee.single S pl = min ((pl + 32 + 149).toNat * 8388608 + rne S 32) 2139095040 := by
      unfold rungOf
      rw [if_neg hS0, hl32, least32, binade32, inf32, show pl - (pl + 32) = -((32 : Nat) : Int) by omega, rz_neg, show pl + 32 - -149 = pl + 32 + 149 by omega]
    rw [hright, ← htw]
    have hc0 : c * 8 ≠ 0 := by omega
    rcases Nat.lt_or_ge c 9007199254740992 with g | g
    · have hcl : (c * 8).log2 = 55 := (Nat.log2_eq_iff hc0).2 ⟨by omega, by omega⟩
      have hl : lastOf Ieee.single (c * 8) pl = pl + 32 := by unfold lastOf; rw [least32, show (Ieee.single.fractionBits : Int) = 23 from rfl, hcl]; omega
      unfold rungOf
      rw [if_neg hc0, hl, least32, binade32, inf32, show pl - (pl + 32) = -((32 : Nat) : Int) by omega, rz_neg, show pl + 32 - -149 = pl + 32 + 149 by omega]
    · have hc1 : c = 9007199254740992 := by omega
      have hcl : (c * 8).log2 = 56 := by rw [hc1]; decide
      have hl : lastOf Ieee.single (c * 8) pl = pl + 33 := by unfold lastOf; rw [least32, show (Ieee.single.fractionBits : Int) = 23 from rfl, hcl]; omega
      unfold rungOf
      rw [if_neg hc0, hl, least32, binade32, inf32, show pl - (pl + 33) = -((33 : Nat) : Int) by omega, rz_neg, hc1]
      have k1 : rne (9007199254740992 * 8) 33 = 8388608 := by decide +kernel
      have k2 : rne (9007199254740992 * 8) 32 = 16777216 := by decide +kernel
      rw [k1, k2, show (pl + 33 - -149).toNat * 8388608 + 8388608 = (pl + 32 + 149).toNat * 8388608 + 16777216 by omega]
  refine ⟨M * 2 ^ more, r, 52 - L + more, hroot, r0, r1, ?_, ?_, by omega, by omega, ?_⟩
  · rw [hM, Nat.mul_assoc, ← Nat.pow_add]
  · omega
  · rw [hval, hS, hpl]
    congr 2
    omega
theorem sqrtV_zero {a : Nat} (h : rung32 a = 0) : sqrtV a = Ieee.single.word (sgn32 a) 0 := by
  have e : Ieee.double.sqrt (wideN a) = some (Ieee.double.word (sgn32 a) 0) := by
    unfold Ieee.Format.sqrt
    rw [wide_zero h, read_word64]
    show some (Ieee.double.nearest (sgn32 a) 0 (-1074)) = _
    rw [nearest_rung, rungOf_zero]
  unfold sqrtV
  rw [fin_num (by omega), e]
  show toldD (some (Ieee.double.read (Ieee.double.word (sgn32 a) 0))) = _
  rw [read_word64, toldD_num, rungOf_zero]
theorem sqrtV_pinf {a : Nat} (h : rung32 a = 2139095040) (hs : sgn32 a = false) : sqrtV a = Ieee.single.word false 2139095040 := by
  have e : Ieee.double.sqrt (wideN a) = some (Ieee.double.word false 9218868437227405312) := by
    unfold Ieee.Format.sqrt
    rw [wide_read_inf h, hs]
    show some (Ieee.double.write (.infinity false)) = _
    rw [write_inf]
  unfold sqrtV
  rw [inf_num h, e]
  show toldD (some (Ieee.double.read (Ieee.double.word false 9218868437227405312))) = _
  rw [told_inf]
theorem sqrtV_none {a : Nat} (h : nanN a = true ∨ (rung32 a ≠ 0 ∧ sgn32 a = true)) : sqrtV a = 2143289344 := by
  unfold sqrtV
  cases hn : nanN a
  · rcases h with h | ⟨h, hs⟩
    · rw [hn] at h; cases h
    · have e : Ieee.double.sqrt (wideN a) = none := by
        unfold Ieee.Format.sqrt
        rw [nanN_rung] at hn
        have hn := of_decide_eq_false hn
        rcases Nat.lt_or_ge (rung32 a) 2139095040 with g | g
        · rw [read_fin64 (wide_fin g).1, (wide_fin g).2.1, hs]
          have hm : ¬ mag64 (rung64 (wideN a)) = 0 := fun k => mag_ne32 h ((wide_mag_zero g).1 k)
          simp [Ieee.Datum.root, hm]
        · rw [wide_read_inf (by omega), hs]; rfl
      rw [e]; rfl
  · rfl
end Go.Proofs.Ytkgojnjlfkijiaa
/- Plain facts: samples made whole by way of binary64; whole numbers as samples. -/
namespace Go.Proofs.Ytkgojnjlfkijiaa
open Go.RowKit

theorem frac32 : Ieee.single.fractionBits = 23 := rfl
/-- How many digits a number in least units loses. -/
def lostK32 (M : Nat) : Nat := M.log2 - 23
theorem kept_bd32 {M : Nat} : rne M (lostK32 M) ≤ 16777216 ∧ (0 < lostK32 M → 8388608 ≤ rne M (lostK32 M)) := by
  have e1 : lastOf Ieee.single M (-149) = -149 + (lostK32 M : Int) := by unfold lastOf lostK32; rw [least32, frac32]; omega
  have e3 : (-149 : Int) - (-149 + (lostK32 M : Int)) = -(lostK32 M : Int) := by omega
  have hk := kept_le Ieee.single M (-149)
  rw [e1, e3, rz_neg, binade32] at hk
  refine ⟨hk, fun h => ?_⟩
  have hM : M ≠ 0 := by intro h0; subst h0; exact absurd h (by decide)
  have := le_kept Ieee.single hM (-149) (by rw [e1, frac32]; unfold lostK32 at *; omega)
  rw [e1, e3, rz_neg, binade32] at this
  exact this
theorem rung32_eq {M : Nat} (hM : M.log2 ≤ 270) : rungOf Ieee.single M (-149) = lostK32 M * 8388608 + rne M (lostK32 M) := by
  by_cases h : M = 0
  · subst h
    rw [rungOf_zero, show lostK32 0 = 0 from by decide, rne_zero]
  · unfold rungOf
    rw [if_neg h]
    have e1 : lastOf Ieee.single M (-149) = -149 + (lostK32 M : Int) := by unfold lastOf lostK32; rw [least32, frac32]; omega
    have e2 : (-149 + (lostK32 M : Int) - -149).toNat = lostK32 M := by omega
    have e3 : (-149 : Int) - (-149 + (lostK32 M : Int)) = -(lostK32 M : Int) := by omega
    rw [e1, least32, binade32, inf32, e2, e3, rz_neg]
    have hk := (kept_bd32 (M := M)).1
    have hl : lostK32 M ≤ 247 := by unfold lostK32; omega
    rw [Nat.min_eq_left (by omega)]
theorem val_of32 {K c : Nat} (h : c ≤ 16777216) (h' : 0 < K → 8388608 ≤ c) : val32 (K * 8388608 + c) = c * 2 ^ K := by
  unfold val32 mag32
  rcases Nat.lt_or_ge c 16777216 with g | g
  · rcases Nat.lt_or_ge c 8388608 with k | k
    · have hK : K = 0 := by omega
      subst hK
      have e : plc32 (0 * 8388608 + c) = 0 := by unfold plc32; omega
      rw [e]; congr 1; omega
    · have e : plc32 (K * 8388608 + c) = K := by unfold plc32; omega
      rw [e]; congr 1; omega
  · have e : plc32 (K * 8388608 + c) = K + 1 := by unfold plc32; omega
    rw [e, Nat.pow_succ]
    have e2 : K * 8388608 + c - (K + 1) * 8388608 = 8388608 := by omega
    have e3 : c = 8388608 * 2 := by omega
    rw [e2, e3, Nat.mul_assoc, Nat.mul_comm (2 ^ K) 2]
theorem vN_eq32 {M : Nat} (hM : M.log2 ≤ 270) : val32 (rungOf Ieee.single M (-149)) = rne M (lostK32 M) * 2 ^ lostK32 M := by
  rw [rung32_eq hM, val_of32 kept_bd32.1 kept_bd32.2]
theorem vN_div32 {M : Nat} (hM : M.log2 ≤ 270) (h : 2 ^ lostK32 M ∣ M) : val32 (rungOf Ieee.single M (-149)) = M := by
  rw [vN_eq32 hM]
  obtain ⟨o, ho⟩ := h
  have : rne M (lostK32 M) = o := by
    have e := rne_exact o (lostK32 M)
    rw [Nat.mul_comm, ← ho] at e
    exact e
  rw [this, Nat.mul_comm, ← ho]
theorem vN_exact32 {M g : Nat} (hM : M.log2 ≤ 270) (hd : 2 ^ g ∣ M) (hb : M < 2 ^ (24 + g)) : val32 (rungOf Ieee.single M (-149)) = M := by
  by_cases h0 : M = 0
  · subst h0; rw [rungOf_zero]; exact val_zero32
  · refine vN_div32 hM ?_
    have hl := (Nat.log2_lt h0).2 hb
    exact Nat.dvd_trans (Nat.pow_dvd_pow 2 (by unfold lostK32; omega)) hd

theorem cut_down (neg : Bool) (n d : Nat) : Ieee.Toward.down.cut neg n d = n / 2 ^ d + (neg && decide (n % 2 ^ d ≠ 0)).toNat := by
  unfold Ieee.Toward.cut
  have h1 : n < 2 ^ (n.log2 + 1) := Nat.lt_log2_self
  show n / (1 <<< min d (n.log2 + 2)) + (neg && (n % (1 <<< min d (n.log2 + 2)) != 0)).toNat = _
  rw [Nat.shiftLeft_eq, Nat.one_mul]
  have hb : ∀ x : Nat, (x != 0) = decide (x ≠ 0) := by intro x; cases x <;> rfl
  rw [hb]
  rcases Nat.le_total d (n.log2 + 2) with h | h
  · rw [Nat.min_eq_left h]
  · rw [Nat.min_eq_right h]
    have h2 : 2 ^ (n.log2 + 1) ≤ 2 ^ (n.log2 + 2) := Nat.pow_le_pow_right (by decide) (by omega)
    have h3 : 2 ^ (n.log2 + 2) ≤ 2 ^ d := Nat.pow_le_pow_right (by decide) h
    rw [Nat.div_eq_of_lt (by omega), Nat.div_eq_of_lt (by omega), Nat.mod_eq_of_lt (by omega), Nat.mod_eq_of_lt (by omega)]
/-- Down or to the nearest: the value decides. -/
theorem cut_scale {way : Ieee.Toward} (hw : way = .down ∨ way = .even) (neg : Bool) (n d k : Nat) : way.cut neg (n * 2 ^ k) (d + k) = way.cut neg n d := by
  rcases hw with rfl | rfl
  · rw [cut_down, cut_down]
    have hk := Nat.two_pow_pos k
    have e1 : n * 2 ^ k / 2 ^ (d + k) = n / 2 ^ d := by rw [Nat.pow_add, Nat.mul_div_mul_right _ _ hk]
    have e2 : n * 2 ^ k % 2 ^ (d + k) = n % 2 ^ d * 2 ^ k := by rw [Nat.pow_add, Nat.mul_mod_mul_right]
    rw [e1, e2]
    congr 2
    congr 1
    rw [decide_eq_decide]
    constructor
    · intro h h0; rw [h0, Nat.zero_mul] at h; exact h rfl
    · intro h h0
      rcases Nat.mul_eq_zero.1 h0 with g | g
      · exact h g
      · omega
  · rw [cut_rne, cut_rne, rne_scale]
theorem cut_0 {way : Ieee.Toward} (hw : way = .down ∨ way = .even) (neg : Bool) (n : Nat) : way.cut neg n 0 = n := by
  rcases hw with rfl | rfl
  · rw [cut_down, Nat.pow_zero, Nat.div_one, Nat.mod_one]
    cases neg <;> rfl
  · rw [cut_rne, rne_zero]
theorem cut_le {way : Ieee.Toward} (hw : way = .down ∨ way = .even) (neg : Bool) (n d : Nat) : way.cut neg n d ≤ n / 2 ^ d + 1 := by
  rcases hw with rfl | rfl
  · rw [cut_down]
    have := Bool.toNat_lt (neg && decide (n % 2 ^ d ≠ 0))
    omega
  · rw [cut_rne]; unfold rne; split <;> omega

/-- A number made whole. -/
def wholeN (way : Ieee.Toward) (s : Bool) (m : Nat) (p : Int) : Nat := way.cut s (m <<< p.toNat) (-p).toNat
theorem wholeN_scale {way : Ieee.Toward} (hw : way = .down ∨ way = .even) (s : Bool) (m j : Nat) (p : Int) : wholeN way s (m * 2 ^ j) (p - j) = wholeN way s m p := by
  unfold wholeN
  rw [Nat.shiftLeft_eq, Nat.shiftLeft_eq]
  rcases Int.lt_or_le (p - j) 0 with h | h
  · rw [show (p - (j : Int)).toNat = 0 by omega, Nat.pow_zero, Nat.mul_one]
    rcases Int.lt_or_le p 0 with g | g
    · rw [show p.toNat = 0 by omega, Nat.pow_zero, Nat.mul_one, show (-(p - (j : Int))).toNat = (-p).toNat + j by omega, cut_scale hw]
    · obtain ⟨q, rfl⟩ := Int.eq_ofNat_of_zero_le g
      have e : m * 2 ^ j = m * 2 ^ q * 2 ^ (j - q) := by rw [Nat.mul_assoc, ← Nat.pow_add, show q + (j - q) = j by omega]
      rw [e, show (-((q : Int) - (j : Int))).toNat = 0 + (j - q) by omega, cut_scale hw, show ((q : Int)).toNat = q by omega, show (-(q : Int)).toNat = 0 by omega]
  · rw [show (-(p - (j : Int))).toNat = 0 by omega, show (-p).toNat = 0 by omega, cut_0 hw, cut_0 hw, Nat.mul_assoc, ← Nat.pow_add, show j + (p - (j : Int)).toNat = p.toNat by omega]
theorem wholeN_zero {way : Ieee.Toward} (hw : way = .down ∨ way = .even) (s : Bool) (p : Int) : wholeN way s 0 p = 0 := by
  unfold wholeN
  rw [Nat.shiftLeft_eq, Nat.zero_mul]
  rcases hw with rfl | rfl
  · rw [cut_down, Nat.zero_div, Nat.zero_mod]; cases s <;> rfl
  · rw [cut_rne]
    have := rne_exact 0 (-p).toNat
    rw [Nat.zero_mul] at this; exact this
/-- A finite sample, wide, made whole. -/
theorem integral_wide {way : Ieee.Toward} (hw : way = .down ∨ way = .even) {a : Nat} (h : rung32 a < 2139095040) :
    (Ieee.double.read (wideN a)).integral way = .number (sgn32 a) (wholeN way (sgn32 a) (mag32 (rung32 a)) (-149 + (plc32 (rung32 a) : Int))) 0 := by
  by_cases z : rung32 a = 0
  · rw [wide_zero z, read_word64, z, show mag32 0 = 0 from by decide, wholeN_zero hw]
    show Ieee.Datum.number (sgn32 a) (wholeN way (sgn32 a) 0 (-1074)) 0 = _
    rw [wholeN_zero hw]
  · obtain ⟨L, hL, m0, m1, e, hp⟩ := wide_wd z h
    have b0 : 4503599627370496 ≤ mag32 (rung32 a) * 2 ^ (52 - L) := by
      have := Nat.mul_le_mul_right (2 ^ (52 - L)) m0
      rw [← Nat.pow_add, show L + (52 - L) = 52 by omega] at this
      exact this
    have b1 : mag32 (rung32 a) * 2 ^ (52 - L) < 9007199254740992 := by
      have := Nat.mul_lt_mul_of_pos_right m1 (Nat.two_pow_pos (52 - L))
      rw [← Nat.pow_add, show L + 1 + (52 - L) = 53 by omega] at this
      exact this
    rw [e, read_wd b0 b1 (by omega) (by omega)]
    show Ieee.Datum.number (sgn32 a) (wholeN way (sgn32 a) (mag32 (rung32 a) * 2 ^ (52 - L)) (-149 + (plc32 (rung32 a) : Int) + L - 52)) 0 = _
    have := wholeN_scale hw (sgn32 a) (mag32 (rung32 a)) (52 - L) (-149 + (plc32 (rung32 a) : Int))
    rw [show -149 + (plc32 (rung32 a) : Int) - ((52 - L : Nat) : Int) = -149 + (plc32 (rung32 a) : Int) + L - 52 by omega] at this
    rw [this]
/-- What a whole number is as a word, and that word as a whole number. -/
theorem whole_word {s : Bool} {N o k : Nat} (hN : N = o * 2 ^ k) (ho : o < 2 ^ 53) (hk : k ≤ 200) :
    Ieee.double.write (.number s N 0) = wordOf s (Ieee.signed s o (k + 1074)) ∧ rung64 (Ieee.double.write (.number s N 0)) < 9218868437227405312 ∧ sgn64 (Ieee.double.write (.number s N 0)) = s ∧
      ∃ E : Nat, E = 1074 ∧ sval64 (Ieee.double.write (.number s N 0)) = Ieee.signed s N E := by
  obtain ⟨E, hE⟩ : ∃ E : Nat, E = 1074 := ⟨_, rfl⟩
  have e1 : Ieee.double.write (.number s N 0) = wordOf s (Ieee.signed s o (k + 1074)) := by
    show Ieee.double.nearest s N 0 = _
    rw [nearest_rung]
    unfold wordOf
    rw [signed_abs, ← hE, Nat.pow_add, ← Nat.mul_assoc, ← hN, rung_scale, show (-1074 : Int) + (E : Int) = 0 by omega]
  obtain ⟨a, b, c⟩ := units_word (s := s) (m := o) (k := k + 1074) ho (by omega)
  rw [e1]
  refine ⟨rfl, a, b, E, hE, ?_⟩
  rw [c, ← hE]
  unfold Ieee.signed
  rw [Nat.shiftLeft_eq, Nat.shiftLeft_eq, hN, Nat.pow_add, ← Nat.mul_assoc]
theorem trunc_whole {x N E : Nat} {s : Bool} (hx : rung64 x < 9218868437227405312) (hs : sgn64 x = s) (hE : E = 1074) (hv : sval64 x = Ieee.signed s N E) : truncV x = Ieee.signed s N 0 := by
  rw [(trunc_fin hx).2, hs]
  have hval : mag64 (rung64 x) * 2 ^ plc64 (rung64 x) = N * 2 ^ E := by
    have := val_abs x
    rw [hv, signed_abs] at this
    exact this.symm
  have key : mag64 (rung64 x) * 2 ^ (-1074 + (plc64 (rung64 x) : Int)).toNat / 2 ^ (-(-1074 + (plc64 (rung64 x) : Int))).toNat = N := by
    rcases Nat.le_total E (plc64 (rung64 x)) with g | g
    · rw [show (-1074 + (plc64 (rung64 x) : Int)).toNat = plc64 (rung64 x) - E by omega, show (-(-1074 + (plc64 (rung64 x) : Int))).toNat = 0 by omega, Nat.pow_zero, Nat.div_one]
      have : mag64 (rung64 x) * 2 ^ (plc64 (rung64 x) - E) * 2 ^ E = N * 2 ^ E := by
        rw [Nat.mul_assoc, ← Nat.pow_add, show plc64 (rung64 x) - E + E = plc64 (rung64 x) by omega]; exact hval
      exact Nat.eq_of_mul_eq_mul_right (Nat.two_pow_pos E) this
    · rw [show (-1074 + (plc64 (rung64 x) : Int)).toNat = 0 by omega, Nat.pow_zero, Nat.mul_one, show (-(-1074 + (plc64 (rung64 x) : Int))).toNat = E - plc64 (rung64 x) by omega]
      have : mag64 (rung64 x) * 2 ^ plc64 (rung64 x) = N * 2 ^ (E - plc64 (rung64 x)) * 2 ^ plc64 (rung64 x) := by
        rw [Nat.mul_assoc N, ← Nat.pow_add, show E - plc64 (rung64 x) + plc64 (rung64 x) = E by omega]; exact hval
      have := Nat.eq_of_mul_eq_mul_right (Nat.two_pow_pos _) this
      rw [this, Nat.mul_div_cancel _ (Nat.two_pow_pos _)]
  rw [key]
theorem in_whole {x N E : Nat} {s : Bool} (hx : rung64 x < 9218868437227405312) (hE : E = 1074) (hv : sval64 x = Ieee.signed s N E) :
    inWhole x = decide (-9223372036854775808 ≤ Ieee.signed s N 0 ∧ Ieee.signed s N 0 < 9223372036854775808) := by
  have hn : nan64 x = false := by rw [nan64_rung]; exact decide_eq_false (by omega)
  have hp : (0 : Int) < 2 ^ E := Int.pow_pos (by decide)
  have e0 : sval64 x = Ieee.signed s N 0 * 2 ^ E := by
    rw [hv, signed_shift]
    unfold Ieee.signed
    rw [Nat.shiftLeft_eq, Nat.shiftLeft_zero, Nat.zero_add]
  have c1 : sval64 4890909195324358656 = 9223372036854775808 * 2 ^ E := by
    unfold sval64 val64
    rw [show sgn64 4890909195324358656 = false from by decide, show rung64 4890909195324358656 = 4890909195324358656 from by decide, show mag64 4890909195324358656 = 4503599627370496 from by decide, show plc64 4890909195324358656 = 11 + E from by rw [hE]; decide, Nat.pow_add]
    simp only [Bool.false_eq_true, if_false]
    rw [← Nat.mul_assoc, show (4503599627370496 * 2 ^ 11 : Nat) = 9223372036854775808 from rfl, Int.natCast_mul, Int.natCast_pow]
    rfl
  have c2 : sval64 14114281232179134464 = -9223372036854775808 * 2 ^ E := by
    unfold sval64 val64
    rw [show sgn64 14114281232179134464 = true from by decide, show rung64 14114281232179134464 = 4890909195324358656 from by decide, show mag64 4890909195324358656 = 4503599627370496 from by decide, show plc64 4890909195324358656 = 11 + E from by rw [hE]; decide, Nat.pow_add]
    simp only [if_true]
    rw [← Nat.mul_assoc, Int.neg_mul, show (4503599627370496 * 2 ^ 11 : Nat) = 9223372036854775808 from rfl, Int.natCast_mul, Int.natCast_pow]
    rfl
  have k1 := sval_srung64 x 4890909195324358656
  have k2 := sval_srung64 x 14114281232179134464
  rw [whole_hi, c1, e0, cmp_scale hp] at k1
  rw [whole_lo, c2, e0, cmp_scale hp] at k2
  have l1 : srung64 x < 4890909195324358656 ↔ Ieee.signed s N 0 < 9223372036854775808 := by rw [← Int.compare_eq_lt, ← Int.compare_eq_lt, k1]
  have l2 : srung64 x < -4890909195324358656 ↔ Ieee.signed s N 0 < -9223372036854775808 := by rw [← Int.compare_eq_lt, ← Int.compare_eq_lt, k2]
  unfold inWhole
  rw [hn, Bool.not_false, Bool.true_and, ← Bool.decide_and, decide_eq_decide]
  omega
/-- What Floor and Nearest tell of a finite sample. -/
theorem flo_fin {way : Ieee.Toward} (hw : way = .down ∨ way = .even) {a : Nat} (h : rung32 a < 2139095040) :
    ∃ V, V = Ieee.signed (sgn32 a) (wholeN way (sgn32 a) (mag32 (rung32 a)) (-149 + (plc32 (rung32 a) : Int))) 0 ∧
      floI way a = (if -9223372036854775808 ≤ V ∧ V < 9223372036854775808 then V else 0) ∧ floE way a = (if -9223372036854775808 ≤ V ∧ V < 9223372036854775808 then 0 else 20) := by
  obtain ⟨N, hN⟩ : ∃ N, N = wholeN way (sgn32 a) (mag32 (rung32 a)) (-149 + (plc32 (rung32 a) : Int)) := ⟨_, rfl⟩
  have hm := mag_lt32 (rung32 a)
  have hp := plc_le32 h
  have hf : ∃ o k, N = o * 2 ^ k ∧ o < 2 ^ 53 ∧ k ≤ 200 := by
    rcases Int.lt_or_le (-149 + (plc32 (rung32 a) : Int)) 0 with g | g
    · refine ⟨N, 0, by rw [Nat.pow_zero, Nat.mul_one], ?_, by omega⟩
      rw [hN]
      unfold wholeN
      have := cut_le hw (sgn32 a) (mag32 (rung32 a) <<< (-149 + (plc32 (rung32 a) : Int)).toNat) (-(-149 + (plc32 (rung32 a) : Int))).toNat
      have k1 : mag32 (rung32 a) <<< (-149 + (plc32 (rung32 a) : Int)).toNat = mag32 (rung32 a) := by
        rw [show (-149 + (plc32 (rung32 a) : Int)).toNat = 0 by omega, Nat.shiftLeft_zero]
      rw [k1] at this ⊢
      have k2 := Nat.div_le_self (mag32 (rung32 a)) (2 ^ (-(-149 + (plc32 (rung32 a) : Int))).toNat)
      omega
    · refine ⟨mag32 (rung32 a), (-149 + (plc32 (rung32 a) : Int)).toNat, ?_, by omega, by omega⟩
      rw [hN]
      unfold wholeN
      rw [show (-(-149 + (plc32 (rung32 a) : Int))).toNat = 0 by omega, cut_0 hw, Nat.shiftLeft_eq]
  obtain ⟨o, k, e1, e2, e3⟩ := hf
  obtain ⟨w1, w2, w3, E, w4, w5⟩ := whole_word (s := sgn32 a) e1 e2 e3
  have hfl : flD way (wideN a) = Ieee.double.write (.number (sgn32 a) N 0) := by
    unfold flD; rw [integral_wide hw h, hN]
  have hnn := fin_num h
  refine ⟨_, rfl, ?_, ?_⟩
  · unfold floI wholeI
    rw [hnn, if_neg (by decide), hfl, in_whole w2 w4 w5, trunc_whole w2 w3 w4 w5, ← hN]
    simp only [decide_eq_true_eq]
  · unfold floE wholeE
    rw [hnn, if_neg (by decide), hfl, in_whole w2 w4 w5, ← hN]
    simp only [decide_eq_true_eq]
theorem flo_inf {way : Ieee.Toward} {a : Nat} (h : rung32 a = 2139095040) : floI way a = 0 ∧ floE way a = 20 := by
  have e : flD way (wideN a) = Ieee.double.word (sgn32 a) 9218868437227405312 := by
    unfold flD
    rw [wide_read_inf h]
    show Ieee.double.write (.infinity (sgn32 a)) = _
    rw [write_inf]
  have hi : inWhole (Ieee.double.word (sgn32 a) 9218868437227405312) = false := by
    cases sgn32 a <;> decide
  unfold floI floE wholeI wholeE
  rw [inf_num h, e, hi]
  exact ⟨rfl, rfl⟩
theorem flo_nan {way : Ieee.Toward} {a : Nat} (h : nanN a = true) : floI way a = 0 ∧ floE way a = 20 := by
  unfold floI floE; rw [h]; exact ⟨rfl, rfl⟩
end Go.Proofs.Ytkgojnjlfkijiaa
/- Plain facts: sums, products by what isn't negative, and roots rise; near numbers are taken away exactly. -/
namespace Go.Proofs.Ytkgojnjlfkijiaa
open Go.RowKit
set_option linter.unusedVariables false
set_option linter.unusedSimpArgs false

theorem add_key {a c : Nat} (ha : rung32 a < 2139095040) (hc : rung32 c < 2139095040) : srung32 (toldD ((Ieee.single.read a).sum (Ieee.single.read c))) = RS (sampleZ a + sampleZ c) ∧ nanN (toldD ((Ieee.single.read a).sum (Ieee.single.read c))) = false := by
  rw [read_fin32 ha, read_fin32 hc]
  obtain ⟨N, b, e1, e2⟩ := sum_units (sgn32 a) (sgn32 c) (mag32 (rung32 a)) (mag32 (rung32 c)) (-149 + (plc32 (rung32 a) : Int)) (-149 + (plc32 (rung32 c) : Int)) (by omega) (by omega)
  rw [show (-149 + (plc32 (rung32 a) : Int) + 1074).toNat = plc32 (rung32 a) + 925 by omega, show (-149 + (plc32 (rung32 c) : Int) + 1074).toNat = plc32 (rung32 c) + 925 by omega] at e1 e2
  rw [e1]
  exact srung_told (fun h => sg_of h) (e2 _)
theorem sub_key {a c : Nat} (ha : rung32 a < 2139095040) (hc : rung32 c < 2139095040) : srung32 (toldD ((Ieee.single.read a).sum (Ieee.single.read c).opposite)) = RS (sampleZ a - sampleZ c) ∧ nanN (toldD ((Ieee.single.read a).sum (Ieee.single.read c).opposite)) = false := by
  rw [read_fin32 ha, read_fin32 hc]
  obtain ⟨N, b, e1, e2⟩ := sum_units (sgn32 a) (!sgn32 c) (mag32 (rung32 a)) (mag32 (rung32 c)) (-149 + (plc32 (rung32 a) : Int)) (-149 + (plc32 (rung32 c) : Int)) (by omega) (by omega)
  rw [show (-149 + (plc32 (rung32 a) : Int) + 1074).toNat = plc32 (rung32 a) + 925 by omega, show (-149 + (plc32 (rung32 c) : Int) + 1074).toNat = plc32 (rung32 c) + 925 by omega] at e1 e2
  rw [signed_neg, ← Int.sub_eq_add_neg] at e1 e2
  show srung32 (toldD ((Ieee.Datum.number (sgn32 a) (mag32 (rung32 a)) (-149 + (plc32 (rung32 a) : Int))).sum (.number (!sgn32 c) (mag32 (rung32 c)) (-149 + (plc32 (rung32 c) : Int))))) = _ ∧ nanN (toldD ((Ieee.Datum.number (sgn32 a) (mag32 (rung32 a)) (-149 + (plc32 (rung32 a) : Int))).sum (.number (!sgn32 c) (mag32 (rung32 c)) (-149 + (plc32 (rung32 c) : Int))))) = _
  rw [e1]
  exact srung_told (fun h => sg_of h) (e2 _)
theorem signed_xor (s t : Bool) (m n j k : Nat) {l : Nat} (i : Nat) (hl : l = j + k + i) : Ieee.signed (s ^^ t) (m * n) l = Ieee.signed s m j * Ieee.signed t n k * 2 ^ i := by
  subst hl
  unfold Ieee.signed
  simp only [Nat.shiftLeft_eq]
  rw [show m * n * 2 ^ (j + k + i) = m * 2 ^ j * (n * 2 ^ k) * 2 ^ i by rw [Nat.pow_add, Nat.pow_add]; simp only [Nat.mul_comm, Nat.mul_left_comm, Nat.mul_assoc]]
  cases s <;> cases t <;> simp [Int.neg_mul, Int.mul_neg]
theorem mul_key {a c : Nat} (ha : rung32 a < 2139095040) (hc : rung32 c < 2139095040) {i : Nat} (hi : i = 776) : srung32 (toldD ((Ieee.single.read a).product (Ieee.single.read c))) = RS (sval32 a * sval32 c * 2 ^ i) ∧ nanN (toldD ((Ieee.single.read a).product (Ieee.single.read c))) = false := by
  have hv : ∀ x, sval32 x = Ieee.signed (sgn32 x) (mag32 (rung32 x)) (plc32 (rung32 x)) := fun x => by
    unfold sval32 val32 Ieee.signed
    rw [Nat.shiftLeft_eq]
  have hz := signed_xor (sgn32 a) (sgn32 c) (mag32 (rung32 a)) (mag32 (rung32 c)) (plc32 (rung32 a)) (plc32 (rung32 c)) i rfl
  rw [hv a, hv c, ← hz]
  rw [read_fin32 ha, read_fin32 hc]
  show srung32 (toldD (some (.number (sgn32 a ^^ sgn32 c) (mag32 (rung32 a) * mag32 (rung32 c)) (-149 + (plc32 (rung32 a) : Int) + (-149 + (plc32 (rung32 c) : Int)))))) = _ ∧ nanN (toldD (some (.number (sgn32 a ^^ sgn32 c) (mag32 (rung32 a) * mag32 (rung32 c)) (-149 + (plc32 (rung32 a) : Int) + (-149 + (plc32 (rung32 c) : Int)))))) = _
  refine srung_told (fun h => signed_sign h) ?_
  rw [signed_abs, rung_scale]
  congr 1
  omega
theorem srung_pinf : srung32 (toldD (some (.infinity false))) = 2139095040 ∧ nanN (toldD (some (.infinity false))) = false := by
  rw [toldD_inf]
  obtain ⟨a, b⟩ := sgn_word32 false (r := 2139095040) (by decide)
  refine ⟨?_, nanN_word (by decide)⟩
  unfold srung32; rw [a, b]; rfl
theorem srung_ninf : srung32 (toldD (some (.infinity true))) = -2139095040 ∧ nanN (toldD (some (.infinity true))) = false := by
  rw [toldD_inf]
  obtain ⟨a, b⟩ := sgn_word32 true (r := 2139095040) (by decide)
  refine ⟨?_, nanN_word (by decide)⟩
  unfold srung32; rw [a, b]; rfl
theorem nan_made : nanN 2143289344 = true := by decide
/-- Not above: one of both a NaN, or not above. -/
def Rise (A B : Nat) : Prop := nanN A = true ∨ nanN B = true ∨ srung32 A ≤ srung32 B
theorem rise_pinf (A : Nat) : Rise A (toldD (some (.infinity false))) := by
  cases h : nanN A
  · refine Or.inr (Or.inr ?_)
    rw [srung_pinf.1]
    exact (srung_bd h).2
  · exact Or.inl h
theorem rise_ninf (B : Nat) : Rise (toldD (some (.infinity true))) B := by
  cases h : nanN B
  · refine Or.inr (Or.inr ?_)
    rw [srung_ninf.1]
    exact (srung_bd h).1
  · exact Or.inr (Or.inl h)
theorem inf_sign {x : Nat} (h : rung32 x = 2139095040) : (sgn32 x = true ∧ srung32 x = -2139095040) ∨ (sgn32 x = false ∧ srung32 x = 2139095040) := by
  unfold srung32
  cases hs : sgn32 x
  · right; rw [h]; exact ⟨rfl, rfl⟩
  · left; rw [h]; exact ⟨rfl, rfl⟩
theorem add_rises {a b c : Nat} (ha : nanN a = false) (hb : nanN b = false) (h : srung32 a ≤ srung32 b) : Rise (toldD ((Ieee.single.read a).sum (Ieee.single.read c))) (toldD ((Ieee.single.read b).sum (Ieee.single.read c))) := by
  cases hc : nanN c
  · rcases cases32 hc with fc | fc
    · rcases cases32 ha with fa | fa
      · rcases cases32 hb with fb | fb
        · refine Or.inr (Or.inr ?_)
          rw [(add_key fa fc).1, (add_key fb fc).1]
          exact RS_mono (Int.add_le_add_right (samp_le h) _)
        · rcases inf_sign fb with ⟨sb, kb⟩ | ⟨sb, kb⟩
          · have := fin_srung fa; omega
          · rw [read_inf32 fb, read_fin32 fc, sb]
            exact rise_pinf _
      · rcases inf_sign fa with ⟨sa, ka⟩ | ⟨sa, ka⟩
        · rw [read_inf32 fa, read_fin32 fc, sa]
          exact rise_ninf _
        · rcases cases32 hb with fb | fb
          · have := fin_srung fb; omega
          · rcases inf_sign fb with ⟨sb, kb⟩ | ⟨sb, kb⟩
            · omega
            · rw [read_inf32 fb, read_fin32 fc, sb]
              exact rise_pinf _
    · have key : ∀ x, nanN x = false → nanN (toldD ((Ieee.single.read x).sum (Ieee.single.read c))) = true ∨ toldD ((Ieee.single.read x).sum (Ieee.single.read c)) = toldD (some (.infinity (sgn32 c))) := fun x hx => by
        rw [read_inf32 fc]
        rcases cases32 hx with fx | fx
        · rw [read_fin32 fx]; exact Or.inr rfl
        · rw [read_inf32 fx]
          generalize sgn32 x = s
          generalize sgn32 c = t
          cases s <;> cases t
          · exact Or.inr rfl
          · exact Or.inl nan_made
          · exact Or.inl nan_made
          · exact Or.inr rfl
      rcases key a ha with k | k
      · exact Or.inl k
      · rcases key b hb with j | j
        · exact Or.inr (Or.inl j)
        · rw [k, j]
          exact Or.inr (Or.inr (Int.le_refl _))
  · left
    rw [sum_comm]
    obtain ⟨s, t, e⟩ := isNaN_cases (read32_nan hc)
    rw [e]
    exact nan_made
theorem mul_rises {a b c : Nat} (ha : nanN a = false) (hb : nanN b = false) (h : srung32 a ≤ srung32 b) (hs : sgn32 c = false) : Rise (toldD ((Ieee.single.read a).product (Ieee.single.read c))) (toldD ((Ieee.single.read b).product (Ieee.single.read c))) := by
  cases hc : nanN c
  · have zc : ∀ (s : Bool) (m : Nat) (p : Int), m = 0 → nanN (toldD ((Ieee.Datum.infinity s).product (.number false m p))) = true := fun s m p hm => by
      subst hm; exact nan_made
    have pc : ∀ (s : Bool) (m : Nat) (p : Int), m ≠ 0 → (Ieee.Datum.infinity s).product (.number false m p) = some (.infinity s) := fun s m p hm => by
      show (if m = 0 then none else some (Ieee.Datum.infinity (s ^^ false))) = _
      rw [if_neg hm, xor_f]
    rcases cases32 hc with fc | fc
    · have hv0 : 0 ≤ sval32 c := by unfold sval32; rw [hs]; simp
      by_cases mc : mag32 (rung32 c) = 0
      · rcases cases32 ha with fa | fa
        · rcases cases32 hb with fb | fb
          · refine Or.inr (Or.inr ?_)
            rw [(mul_key fa fc rfl).1, (mul_key fb fc rfl).1]
            have e : sval32 c = 0 := by unfold sval32 val32; rw [mc]; simp
            rw [e, Int.mul_zero, Int.mul_zero]
            exact Int.le_refl _
          · right; left
            rw [read_inf32 fb, read_fin32 fc, hs]
            exact zc _ _ _ mc
        · left
          rw [read_inf32 fa, read_fin32 fc, hs]
          exact zc _ _ _ mc
      · rcases cases32 ha with fa | fa
        · rcases cases32 hb with fb | fb
          · refine Or.inr (Or.inr ?_)
            obtain ⟨i, hi⟩ : ∃ i : Nat, i = 776 := ⟨_, rfl⟩
            rw [(mul_key fa fc hi).1, (mul_key fb fc hi).1]
            exact RS_mono (Int.mul_le_mul_of_nonneg_right (Int.mul_le_mul_of_nonneg_right (sval_le h) hv0) (Int.le_of_lt (Int.pow_pos (by decide))))
          · rcases inf_sign fb with ⟨sb, kb⟩ | ⟨sb, kb⟩
            · have := fin_srung fa; omega
            · rw [read_inf32 fb, read_fin32 fc, sb, hs, pc _ _ _ mc]
              exact rise_pinf _
        · rcases inf_sign fa with ⟨sa, ka⟩ | ⟨sa, ka⟩
          · rw [read_inf32 fa, read_fin32 fc, sa, hs, pc _ _ _ mc]
            exact rise_ninf _
          · rcases cases32 hb with fb | fb
            · have := fin_srung fb; omega
            · rcases inf_sign fb with ⟨sb, kb⟩ | ⟨sb, kb⟩
              · omega
              · rw [read_inf32 fb, read_fin32 fc, sb, hs, pc _ _ _ mc]
                exact rise_pinf _
    · have key : ∀ x, nanN x = false → nanN (toldD ((Ieee.single.read x).product (Ieee.single.read c))) = true ∨ (toldD ((Ieee.single.read x).product (Ieee.single.read c)) = toldD (some (.infinity (sgn32 x))) ∧ srung32 x ≠ 0) := fun x hx => by
        rw [read_inf32 fc, hs]
        rcases cases32 hx with fx | fx
        · rw [read_fin32 fx, product_comm]
          by_cases mx : mag32 (rung32 x) = 0
          · left
            show nanN (toldD (if mag32 (rung32 x) = 0 then none else some (Ieee.Datum.infinity (false ^^ sgn32 x)))) = true
            rw [if_pos mx]; exact nan_made
          · right
            refine ⟨?_, fun e => mx ?_⟩
            · show toldD (if mag32 (rung32 x) = 0 then none else some (Ieee.Datum.infinity (false ^^ sgn32 x))) = _
              rw [if_neg mx, Bool.false_xor]
            · have : rung32 x = 0 := by unfold srung32 at e; split at e <;> omega
              rw [this]; rfl
        · right
          rw [read_inf32 fx]
          refine ⟨?_, fun e => ?_⟩
          · show toldD (some (Ieee.Datum.infinity (sgn32 x ^^ false))) = _
            rw [xor_f]
          · unfold srung32 at e; split at e <;> omega
      rcases key a ha with k | ⟨k, ka⟩
      · exact Or.inl k
      · rcases key b hb with j | ⟨j, kb⟩
        · exact Or.inr (Or.inl j)
        · rw [k, j]
          cases sa : sgn32 a
          · have : sgn32 b = false := by
              cases sb : sgn32 b
              · rfl
              · unfold srung32 at h ka kb
                rw [sa, sb] at h
                rw [sa] at ka
                rw [sb] at kb
                simp at h ka kb
                omega
            rw [this]
            exact rise_pinf _
          · exact rise_ninf _
  · left
    rw [product_comm]
    obtain ⟨s, t, e⟩ := isNaN_cases (read32_nan hc)
    rw [e]
    exact nan_made
/-- Roots rise. -/
theorem sr_mono {n n' r r' : Nat} (h : IsRoot n r) (h' : IsRoot n' r') (hn : n ≤ n') : srV n r ≤ srV n' r' := by
  have hr : r ≤ r' := by
    rcases Nat.lt_or_ge r' r with g | g
    · have := Nat.mul_le_mul (show r' + 1 ≤ r from g) (show r' + 1 ≤ r from g)
      have := h.lo; have := h'.hi; omega
    · exact g
  unfold srV
  rcases Nat.lt_or_eq_of_le hr with g | g
  · split <;> split <;> omega
  · subst g
    have := h.lo
    split <;> split <;> omega
theorem sqrt_key {a : Nat} (h0 : rung32 a ≠ 0) (h : rung32 a < 2139095040) (hs : sgn32 a = false) {e : Nat} (he : 400 ≤ e) :
    ∃ R, IsRoot (val32 (rung32 a) * 2 ^ (2 * e + 1)) R ∧ sqrtV a = Ieee.single.word false (rungOf Ieee.single (srV (val32 (rung32 a) * 2 ^ (2 * e + 1)) R) (-75 - (e : Int) - 1)) := by
  obtain ⟨n', r, A, hr, r0, r1, hn, hA, A0, A1, hw⟩ := sqrtV_fin h0 h hs
  obtain ⟨R, hR⟩ : ∃ R, IsRoot (val32 (rung32 a) * 2 ^ (2 * e + 1)) R := ⟨_, root_whole _⟩
  refine ⟨R, hR, ?_⟩
  -- n' * 4^k is the same number
  obtain ⟨k, hk⟩ : ∃ k : Nat, plc32 (rung32 a) + (2 * e + 1) = A + 2 * k := ⟨(plc32 (rung32 a) + (2 * e + 1) - A) / 2, by omega⟩
  have en : val32 (rung32 a) * 2 ^ (2 * e + 1) = n' * 4 ^ k := by
    unfold val32
    rw [hn, Nat.mul_assoc, ← Nat.pow_add, hk, Nat.pow_add, Nat.pow_mul, Nat.mul_assoc]
  rw [en] at hR ⊢
  have hq : R / 2 ^ k = r := root_unique (root_cut hR) hr
  have hl := sr_link Ieee.single (n := n') (R := R) (k := k) ((-149 + (plc32 (rung32 a) : Int) - A) / 2) hR (by rw [hq]; exact Nat.le_trans (by decide) r0)
  rw [hq] at hl
  rw [hw, ← hl]
  congr 2
  omega
theorem sqrt_rises {a b : Nat} (ha : nanN a = false) (hb : nanN b = false) (h : srung32 a ≤ srung32 b) : Rise (sqrtV a) (sqrtV b) := by
  have neg : ∀ x, rung32 x ≠ 0 → sgn32 x = true → nanN (sqrtV x) = true := fun x h1 h2 => by rw [sqrtV_none (Or.inr ⟨h1, h2⟩)]; exact nan_made
  have kw : ∀ (s : Bool) (r : Nat), r ≤ 2139095040 → srung32 (Ieee.single.word s r) = if s = true then -(r : Int) else r := fun s r hr => by
    obtain ⟨p, q⟩ := sgn_word32 s (r := r) (by omega)
    unfold srung32; rw [p, q]
  have rl : ∀ N p, rungOf Ieee.single N p ≤ 2139095040 := fun N p => by have := rungOf_le Ieee.single N p; rw [inf32] at this; exact this
  by_cases za : rung32 a = 0
  · by_cases sb : rung32 b ≠ 0 ∧ sgn32 b = true
    · exact Or.inr (Or.inl (neg b sb.1 sb.2))
    · refine Or.inr (Or.inr ?_)
      rw [sqrtV_zero za, kw _ _ (by decide)]
      have : (if sgn32 a = true then -((0 : Nat) : Int) else ((0 : Nat) : Int)) = 0 := by split <;> rfl
      rw [this]
      by_cases zb : rung32 b = 0
      · rw [sqrtV_zero zb, kw _ _ (by decide)]; split <;> decide
      · have sb : sgn32 b = false := by
          cases hs : sgn32 b
          · rfl
          · exact absurd ⟨zb, hs⟩ sb
        rcases cases32 hb with fb | fb
        · obtain ⟨R, _, e⟩ := sqrt_key zb fb sb (e := 400) (Nat.le_refl _)
          rw [e, kw _ _ (rl _ _), if_neg (by decide)]
          omega
        · rw [sqrtV_pinf fb sb, kw _ _ (by decide)]; decide
  · cases sa : sgn32 a
    · have pa : 0 < srung32 a := by unfold srung32; rw [sa]; simp; omega
      have sb : sgn32 b = false := by
        cases hs : sgn32 b
        · rfl
        · unfold srung32 at h pa; rw [hs] at h; rw [sa] at h pa; simp at h pa; omega
      have zb : rung32 b ≠ 0 := fun e => by unfold srung32 at h pa; rw [sb, e] at h; rw [sa] at h pa; simp at h pa; omega
      rcases cases32 hb with fb | fb
      · rcases cases32 ha with fa | fa
        · refine Or.inr (Or.inr ?_)
          obtain ⟨e, he⟩ : ∃ e : Nat, e = 400 := ⟨_, rfl⟩
          obtain ⟨R, hR, e1⟩ := sqrt_key za fa sa (e := e) (by omega)
          obtain ⟨R', hR', e2⟩ := sqrt_key zb fb sb (e := e) (by omega)
          rw [e1, e2, kw _ _ (rl _ _), kw _ _ (rl _ _), if_neg (by decide), if_neg (by decide)]
          have hv : val32 (rung32 a) ≤ val32 (rung32 b) := by
            refine val_le32 ?_
            unfold srung32 at h; rw [sa, sb] at h; simp at h; omega
          have := rung_mono Ieee.single (-75 - (e : Int) - 1) (sr_mono hR hR' (Nat.mul_le_mul_right _ hv))
          omega
        · have := fin_srung fb
          rcases inf_sign fa with ⟨q, _⟩ | ⟨_, q⟩
          · rw [sa] at q; cases q
          · omega
      · rw [sqrtV_pinf fb sb, ← toldD_inf]
        exact rise_pinf _
    · exact Or.inl (neg a za sa)
/-- Near numbers are taken away exactly. -/
theorem rung_full {M : Nat} (hM : M.log2 ≤ 276) : rungOf Ieee.single M (-149) = lostK32 M * 8388608 + rne M (lostK32 M) := by
  by_cases h : M = 0
  · subst h
    rw [rungOf_zero, show lostK32 0 = 0 from by decide, rne_zero]
  · unfold rungOf
    rw [if_neg h]
    have e1 : lastOf Ieee.single M (-149) = -149 + (lostK32 M : Int) := by unfold lastOf lostK32; rw [least32, frac32]; omega
    have e2 : (-149 + (lostK32 M : Int) - -149).toNat = lostK32 M := by omega
    have e3 : (-149 : Int) - (-149 + (lostK32 M : Int)) = -(lostK32 M : Int) := by omega
    rw [e1, least32, binade32, inf32, e2, e3, rz_neg]
    have hk := (kept_bd32 (M := M)).1
    have hl : lostK32 M ≤ 253 := by unfold lostK32; omega
    rw [Nat.min_eq_left (by omega)]
theorem val_full {M : Nat} (hM : M.log2 ≤ 276) : val32 (rungOf Ieee.single M (-149)) = rne M (lostK32 M) * 2 ^ lostK32 M := by
  rw [rung_full hM, val_of32 kept_bd32.1 kept_bd32.2]
theorem val_exact {M g : Nat} (hM : M.log2 ≤ 276) (hd : 2 ^ g ∣ M) (hb : M < 2 ^ (24 + g)) : val32 (rungOf Ieee.single M (-149)) = M := by
  by_cases h0 : M = 0
  · subst h0; rw [rungOf_zero]; exact val_zero32
  · rw [val_full hM]
    have hl := (Nat.log2_lt h0).2 hb
    obtain ⟨o, ho⟩ := Nat.dvd_trans (Nat.pow_dvd_pow 2 (show lostK32 M ≤ g by unfold lostK32; omega)) hd
    have : rne M (lostK32 M) = o := by
      have e := rne_exact o (lostK32 M)
      rw [Nat.mul_comm, ← ho] at e
      exact e
    rw [this, Nat.mul_comm, ← ho]
theorem near_exact {x y : Nat} (hx : x < 2139095040) (hxy : x ≤ y) (h : val32 y ≤ 2 * val32 x) (hy : y < 2139095040) : val32 (rungOf Ieee.single (val32 y - val32 x) (-149)) = val32 y - val32 x := by
  have hp : plc32 x ≤ plc32 y := by unfold plc32; omega
  have d1 : 2 ^ plc32 x ∣ val32 x := ⟨mag32 x, by unfold val32; rw [Nat.mul_comm]⟩
  have d2 : 2 ^ plc32 x ∣ val32 y := by
    unfold val32
    exact Nat.dvd_trans (Nat.pow_dvd_pow 2 hp) ⟨mag32 y, by rw [Nat.mul_comm]⟩
  have b : val32 x < 2 ^ (24 + plc32 x) := by
    unfold val32
    rw [Nat.pow_add]
    exact Nat.mul_lt_mul_of_pos_right (mag_lt32 x) (Nat.two_pow_pos _)
  have hb : val32 y - val32 x < 2 ^ (24 + plc32 x) := by omega
  refine val_exact (g := plc32 x) ?_ (Nat.dvd_sub d2 d1) hb
  have hp3 : plc32 x ≤ 253 := by unfold plc32; omega
  rcases Nat.eq_zero_or_pos (val32 y - val32 x) with z | z
  · rw [z]; decide
  · have := (Nat.log2_lt (by omega)).2 hb
    omega
theorem sdiff (s : Bool) (x y : Nat) : ((if s = true then -(x : Int) else (x : Int)) - (if s = true then -(y : Int) else (y : Int))).natAbs = x - y + (y - x) := by split <;> omega
theorem sdiff_le {n x y : Nat} (h : n = x - y + (y - x)) (h1 : y ≤ 2 * x) : n ≤ x := by omega
theorem scale_neg {D : Int} {c : Nat} : (D * 2 ^ c < 0) ↔ D < 0 := by
  have hp : (0 : Int) < 2 ^ c := Int.pow_pos (by decide)
  constructor
  · intro g
    rcases Int.lt_or_le D 0 with k | k
    · exact k
    · have := Int.mul_nonneg k (Int.le_of_lt hp); omega
  · exact fun g => Int.mul_neg_of_neg_of_pos g hp
/-- A word of a known signed rung, and its value. -/
theorem val_of_key {d r : Nat} {D : Int} (hrd : srung32 d = if D < 0 then -(r : Int) else (r : Int)) (hv : val32 r = D.natAbs) : sval32 d = D ∧ rung32 d = r := by
  have hrun : rung32 d = r := by
    unfold srung32 at hrd
    split at hrd <;> split at hrd <;> omega
  refine ⟨?_, hrun⟩
  have hz0 : r = 0 → D = 0 := fun e => by rw [e, val_zero32] at hv; omega
  unfold srung32 at hrd
  unfold sval32
  rw [hrun] at hrd ⊢
  rw [hv]
  generalize sgn32 d = s at hrd ⊢
  cases s
  · rw [if_neg (by decide)] at hrd ⊢
    split at hrd <;> omega
  · rw [if_pos rfl] at hrd ⊢
    split at hrd <;> omega
/-- Sterbenz: the difference of near samples is a sample; added again it brings the first one back. -/
theorem near_back {a b : Nat} (ha : rung32 a < 2139095040) (hb : rung32 b < 2139095040) (hs : sgn32 a = sgn32 b) (h1 : val32 (rung32 b) ≤ 2 * val32 (rung32 a)) (h2 : val32 (rung32 a) ≤ 2 * val32 (rung32 b)) :
    nanN (toldD ((Ieee.single.read a).sum (Ieee.single.read b).opposite)) = false ∧ srung32 (toldD ((Ieee.single.read (toldD ((Ieee.single.read a).sum (Ieee.single.read b).opposite))).sum (Ieee.single.read b))) = srung32 a := by
  obtain ⟨hk, hn⟩ := sub_key ha hb
  refine ⟨hn, ?_⟩
  generalize toldD ((Ieee.single.read a).sum (Ieee.single.read b).opposite) = d at hk hn
  have habs : (sval32 a - sval32 b).natAbs = val32 (rung32 a) - val32 (rung32 b) + (val32 (rung32 b) - val32 (rung32 a)) := by
    unfold sval32; rw [hs]; exact sdiff _ _ _
  have hv : val32 (rungOf Ieee.single (sval32 a - sval32 b).natAbs (-149)) = (sval32 a - sval32 b).natAbs := by
    rw [habs]
    rcases Nat.le_total (rung32 a) (rung32 b) with g | g
    · rw [Nat.sub_eq_zero_of_le (val_le32 g), Nat.zero_add]
      exact near_exact ha g h1 hb
    · rw [Nat.sub_eq_zero_of_le (val_le32 g), Nat.add_zero]
      exact near_exact hb g h2 ha
  have hle := sdiff_le habs h1
  obtain ⟨D, hD⟩ : ∃ D, D = sval32 a - sval32 b := ⟨_, rfl⟩
  rw [← hD] at habs hv hle
  obtain ⟨r, hr⟩ : ∃ r, r = rungOf Ieee.single D.natAbs (-149) := ⟨_, rfl⟩
  rw [← hr] at hv
  have hrl : r < 2139095040 := by
    rcases Nat.lt_or_ge (rung32 a) r with g | g
    · have := val_mono32 g; rw [hv] at this; exact absurd hle (Nat.not_le.2 this)
    · exact Nat.lt_of_le_of_lt g ha
  obtain ⟨c, hc⟩ : ∃ c : Nat, c = 925 := ⟨_, rfl⟩
  have hZ : sampleZ a - sampleZ b = D * 2 ^ c := by rw [samp_eq a hc, samp_eq b hc, hD, Int.sub_mul]
  have hrz : rungOf Ieee.single (D * 2 ^ c).natAbs (-1074) = r := by
    rw [Int.natAbs_mul, Int.natAbs_pow, show (2 : Int).natAbs = 2 from rfl, rung_scale, hr, hc]; rfl
  have hrd : srung32 d = if D < 0 then -(r : Int) else (r : Int) := by
    rw [hk, hZ]; unfold RS; rw [hrz]
    by_cases k : D < 0
    · rw [if_pos (scale_neg.2 k), if_pos k]
    · rw [if_neg (fun g => k (scale_neg.1 g)), if_neg k]
  obtain ⟨hdv, hdr⟩ := val_of_key hrd hv
  have hd : rung32 d < 2139095040 := by rw [hdr]; exact hrl
  rw [(add_key hd hb).1]
  have e : sampleZ d + sampleZ b = sampleZ a := by
    rw [samp_eq d hc, samp_eq b hc, samp_eq a hc, ← Int.add_mul, hdv, hD, Int.sub_add_cancel]
  rw [e]
  exact RS_self ha
end Go.Proofs.Ytkgojnjlfkijiaa
/- What the reference's Plus and Minus return of whole numbers in memory. -/
namespace Go.Proofs.Ytkgojnjlfkijiaa
open Go.RowKit

/-- A new row of L digits, the first k of them those of v, the others 0. -/
structure Part (w wr : World) (L v k : Nat) : Prop where
  q : Q w wr
  row : wr.rowIs w.heap.size 23 L (fun j => .int .u32 (if j < k then (dig v j : Int) else 0))
theorem part_start (w : World) (L v : Nat) : Part w (w.alloc (.cells (madeCells #[.int .u32 0] L) 23)) L v 0 :=
  ⟨(Q.refl w).cells _ _, (World.rowIs_made w _ L 23).congr (fun j _ => by rw [if_neg (Nat.not_lt_zero _)])⟩
theorem part_step {w wr : World} {L v k : Nat} (h : Part w wr L v k) : Part w (wr.setCell ⟨w.heap.size, k, none⟩ (.int .u32 (dig v k))) L v (k + 1) := by
  refine ⟨h.q.set (Nat.le_refl _) _, (h.row.set k _).congr (fun j _ => ?_)⟩
  by_cases e : j = k
  · subst e; rw [if_pos rfl, if_pos (by omega)]
  · rw [if_neg e]
    by_cases g : j < k
    · rw [if_pos g, if_pos (by omega)]
    · rw [if_neg g, if_neg (by omega)]
theorem part_step' {w wr : World} {L v k : Nat} (h : Part w wr L v k) {x : Int} (e : x = dig v k) : Part w (wr.setCell ⟨w.heap.size, k, none⟩ (.int .u32 x)) L v (k + 1) := by
  rw [e]; exact part_step h
theorem part_done {w wr : World} {L v : Nat} (h : Part w wr L v L) (i : Nat) (hi : i < L) : wr.cell? ⟨w.heap.size, i, none⟩ = some (.int .u32 (dig v i)) := by
  rw [h.row.cell hi, if_pos hi]
theorem part_open {w wr : World} {L v k : Nat} (h : Part w wr L v k) (hk : k < L) : wr.cell? ⟨w.heap.size, k, none⟩ = some (.int .u32 0) := by
  rw [h.row.cell hk, if_neg (by omega)]

theorem and_mask (s : Int) (h0 : 0 ≤ s) (h1 : s ≤ 18446744073709551615) : bits .and .u64 s 4294967295 = s % 4294967296 := by go_bits2

theorem lt_pow_max {a b La Lb : Nat} (ha : a < 4294967296 ^ La) (hb : b < 4294967296 ^ Lb) : a + b < 4294967296 ^ (max La Lb + 1) := by
  have h1 : 4294967296 ^ La ≤ 4294967296 ^ (max La Lb) := Nat.pow_le_pow_right (by decide) (by omega)
  have h2 : 4294967296 ^ Lb ≤ 4294967296 ^ (max La Lb) := Nat.pow_le_pow_right (by decide) (by omega)
  rw [Nat.pow_succ]; omega

/-- One digit of a sum. -/
theorem sum_dig {a b k c : Nat} (h : (a + b) / 4294967296 ^ k = a / 4294967296 ^ k + b / 4294967296 ^ k + c) :
    (c + dig a k + dig b k) % 4294967296 = dig (a + b) k ∧
    (a + b) / 4294967296 ^ (k + 1) = a / 4294967296 ^ (k + 1) + b / 4294967296 ^ (k + 1) + (c + dig a k + dig b k) / 4294967296 := by
  rw [quo_succ, quo_succ, quo_succ]
  unfold dig
  generalize a / 4294967296 ^ k = x at *
  generalize b / 4294967296 ^ k = y at *
  generalize (a + b) / 4294967296 ^ k = z at *
  omega

theorem plus_rel {w wr : World} {M a b k c : Nat} (X : Int) (hX : X = ((c + dig a k + dig b k : Nat) : Int)) (hP : Part w wr M (a + b) k)
    (hQ : (c + dig a k + dig b k) % 4294967296 = dig (a + b) k ∧ (a + b) / 4294967296 ^ (k + 1) = a / 4294967296 ^ (k + 1) + b / 4294967296 ^ (k + 1) + (c + dig a k + dig b k) / 4294967296)
    (hk : k < M) (hc : c ≤ 1) :
    ∃ k' c' : Nat, k' ≤ M ∧ M - (k + 1) = M - k' ∧ Value.int .u64 (X / 4294967296) = .int .u64 c' ∧ Value.int .i64 ((k : Int) + 1) = .int .i64 k' ∧
      Part w (wr.setCell { block := w.heap.size, off := k } (.int .u32 (X % 4294967296))) M (a + b) k' ∧ (a + b) / 4294967296 ^ k' = a / 4294967296 ^ k' + b / 4294967296 ^ k' + c' ∧ c' ≤ 1 := by
  have h1 := dig_lt a k
  have h2 := dig_lt b k
  refine ⟨k + 1, (c + dig a k + dig b k) / 4294967296, by omega, rfl, by rw [hX]; rfl, by simp, part_step' hP (by rw [hX, ← hQ.1]; rfl), hQ.2, by omega⟩

set_option maxHeartbeats 4000000 in
theorem plus_any (va vb : Value) (a b : Nat) (w : World) (ha : NatAt w va a) (hb : NatAt w vb b) (hs : a + b < cap) :
    Calls Try.prog 49 #[va, vb] w fun e w' => ∃ v, e = .returned v ∧ NatAt w' v (a + b) ∧ Q w w' := by
  obtain ⟨pa, ba, La, Ca, rfl, ha⟩ := ha
  obtain ⟨pb, bb, Lb, Cb, rfl, hb⟩ := hb
  have hla := ha.len_cap (by omega)
  have hlb := hb.len_cap (by omega)
  obtain ⟨M, hM⟩ : ∃ M, M = max La Lb + 1 := ⟨_, rfl⟩
  have HM : Hid (M = max La Lb + 1) := hM
  have hM4 : M ≤ 400 := by omega
  have hmk := run_make_row' (P := Try.prog) 50 23 (.int .u32 0) 4 Try.underlying50 info_u32 rfl .i64 .i64 M (by omega) (by omega)
  have hcase : (La < Lb ∧ (Lb : Int) + 1 = (M : Int)) ∨ (¬ La < Lb ∧ (La : Int) + 1 = (M : Int)) := by omega
  have q0 : (a + b) / 4294967296 ^ 0 = a / 4294967296 ^ 0 + b / 4294967296 ^ 0 + 0 := by rw [quo_zero, quo_zero, quo_zero]; rfl
  have HL : Hid (a + b < 4294967296 ^ M) := by have := lt_pow_max ha.hi hb.hi; rw [← hM] at this; exact this
  clear hM
  rcases hcase with ⟨hc1, hc2⟩ | ⟨hc1, hc2⟩
  all_goals
    go_enter Try.func49, Try.ntmps49
    go_wp2
    clear hmk hc1 hc2
    go_loopg [7, 8] M (fun g s7 s8 wr => ∃ k c : Nat, k ≤ M ∧ g = M - k ∧ s7 = .int .u64 c ∧ s8 = .int .i64 k ∧ Part w wr M (a + b) k ∧ (a + b) / 4294967296 ^ k = a / 4294967296 ^ k + b / 4294967296 ^ k + c ∧ c ≤ 1)
    case atStart => exact ⟨0, 0, Nat.zero_le _, rfl, rfl, rfl, part_start w M _, q0, by decide⟩
    case round =>
      obtain ⟨k, c, hk, rfl, rfl, rfl, hP, hq, hc⟩ := hrel
      have HQ : Hid _ := sum_dig hq
      have hda := dig_lt a k
      have hdb := dig_lt b k
      clear hq q0
      by_cases hkM : k < M
      · have hkz : (k : Int) < (M : Int) := by omega
        have f1 := part_open hP hkM
        have f2 := hP.row.frozen k
        have m1 := and_mask ((c : Int) + dig a k + dig b k) (by omega) (by omega)
        have m2 := and_mask ((c : Int) + dig a k) (by omega) (by omega)
        have m3 := and_mask ((c : Int) + dig b k) (by omega) (by omega)
        have m4 := and_mask (c : Int) (by omega) (by omega)
        by_cases h1 : k < La
        · obtain rfl := ha.ptr (by omega)
          have h1z : (k : Int) < (La : Int) := by omega
          have ca := hP.q.cell (ha.cell k h1)
          by_cases h2 : k < Lb
          · obtain rfl := hb.ptr (by omega)
            have h2z : (k : Int) < (Lb : Int) := by omega
            have cb := hP.q.cell (hb.cell k h2)
            go_wp2
            go_roundg (M - (k + 1))
            case measure => go_light; omega
            case rel => go_light; exact plus_rel _ (by omega) hP HQ.out hkM hc
          · have h2z : ¬ (k : Int) < (Lb : Int) := by omega
            have e2 := dig_end hb.hi (i := k) (by omega)
            have E2 : Hid _ := e2
            clear e2
            go_wp2
            go_roundg (M - (k + 1))
            case measure => go_light; omega
            case rel => go_light; exact plus_rel _ (by have := E2.out; omega) hP HQ.out hkM hc
        · have h1z : ¬ (k : Int) < (La : Int) := by omega
          have e1 := dig_end ha.hi (i := k) (by omega)
          have E1 : Hid _ := e1
          clear e1
          by_cases h2 : k < Lb
          · obtain rfl := hb.ptr (by omega)
            have h2z : (k : Int) < (Lb : Int) := by omega
            have cb := hP.q.cell (hb.cell k h2)
            go_wp2
            go_roundg (M - (k + 1))
            case measure => go_light; omega
            case rel => go_light; exact plus_rel _ (by have := E1.out; omega) hP HQ.out hkM hc
          · have h2z : ¬ (k : Int) < (Lb : Int) := by omega
            have e2 := dig_end hb.hi (i := k) (by omega)
            have E2 : Hid _ := e2
            clear e2
            go_wp2
            go_roundg (M - (k + 1))
            case measure => go_light; omega
            case rel => go_light; exact plus_rel _ (by have := E1.out; have := E2.out; omega) hP HQ.out hkM hc
      · have hkz : ¬ (k : Int) < (M : Int) := by omega
        obtain rfl : k = M := by omega
        go_wp2_with fail
        refine (trimmed_any _ k k (a + b) wr (part_done hP) HL.out hM4 (Nat.le_refl _)).mono ?_
        rintro e w' ⟨L', C', rfl, hN, rfl⟩
        go_wp2_with fail
        go_ret
        exact ⟨_, rfl, ⟨_, _, _, _, rfl, hN⟩, hP.q⟩
end Go.Proofs.Ytkgojnjlfkijiaa
