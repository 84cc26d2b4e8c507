/- Plain facts: what the program's Sqrt tells of a number above 0: its root, rounded once; the odd cases. -/
import Derived.Test.YtkgojnjlfkijiaaGreatG2a0300ab
import Derived.Test.YtkgojnjlfkijiaaGreatG42d4e526
import Derived.Test.YtkgojnjlfkijiaaGreatGda973cf8
import Derived.Test.YtkgojnjlfkijiaaGreatGa5861977
namespace Go.Proofs.YtkgojnjlfkijiaaGreat
open Go.RowKit

/-- The root of a number of the form m * 2^p. -/
theorem sqrtV_fin {a : Nat} (h0 : rung32 a ≠ 0) (h : rung32 a < 2139095040) (hs : sgn32 a = false) :
    ∃ n' r A : Nat, IsRoot n' r ∧ 2 ^ 54 ≤ r ∧ r < 2 ^ 55 ∧ n' = mag32 (rung32 a) * 2 ^ A ∧ (-149 + (plc32 (rung32 a) : Int) - A) % 2 = 0 ∧ 85 ≤ A ∧ A ≤ 109 ∧
      sqrtV a = Ieee.single.word false (rungOf Ieee.single (srV n' r) ((-149 + (plc32 (rung32 a) : Int) - A) / 2 - 1)) := by
  have hn : nanN a = false := fin_num h
  obtain ⟨L, hL, m0, m1, e, hp⟩ := wide_wd h0 h
  have b0 : 4503599627370496 ≤ mag32 (rung32 a) * 2 ^ (52 - L) := by
    have := Nat.mul_le_mul_right (2 ^ (52 - L)) m0
    rw [← Nat.pow_add, show L + (52 - L) = 52 by omega] at this
    exact this
  have b1 : mag32 (rung32 a) * 2 ^ (52 - L) < 9007199254740992 := by
    have := Nat.mul_lt_mul_of_pos_right m1 (Nat.two_pow_pos (52 - L))
    rw [← Nat.pow_add, show L + 1 + (52 - L) = 53 by omega] at this
    exact this
  obtain ⟨M, hM⟩ : ∃ M, M = mag32 (rung32 a) * 2 ^ (52 - L) := ⟨_, rfl⟩
  obtain ⟨P, hP⟩ : ∃ P : Int, P = -149 + (plc32 (rung32 a) : Int) + L - 52 := ⟨_, rfl⟩
  rw [← hM] at b0 b1 e
  rw [← hP, hs] at e
  have hlog : M.log2 = 52 := by
    have hne : M ≠ 0 := by omega
    exact (Nat.log2_eq_iff hne).2 ⟨b0, b1⟩
  obtain ⟨more, hmore⟩ : ∃ more : Nat, more = 56 + ((P - ((56 : Nat) : Int)) % 2).toNat := ⟨_, rfl⟩
  have hm2 : more = 56 ∨ more = 57 := by omega
  have hev : (P - more) % 2 = 0 := by omega
  obtain ⟨r, hr⟩ : ∃ r, r = Ieee.Datum.rootFrom (M * 2 ^ more) ((M * 2 ^ more).log2 / 2 + 1) 0 := ⟨_, rfl⟩
  have hroot : IsRoot (M * 2 ^ more) r := by rw [hr]; exact root_whole _
  have lo : 2 ^ 108 ≤ M * 2 ^ more := by
    rcases hm2 with g | g
    · rw [g]; have := Nat.mul_le_mul_right (2 ^ 56) b0; exact this
    · rw [g]; have := Nat.mul_le_mul_right (2 ^ 57) b0; exact Nat.le_trans (by decide) this
  have up : M * 2 ^ more < 2 ^ 110 := by
    rcases hm2 with g | g
    · rw [g]; have := Nat.mul_lt_mul_of_pos_right b1 (Nat.two_pow_pos 56); exact Nat.lt_of_lt_of_le this (by decide)
    · rw [g]; have := Nat.mul_lt_mul_of_pos_right b1 (Nat.two_pow_pos 57); exact this
  have r0 : 2 ^ 54 ≤ r := by
    rcases Nat.lt_or_ge r (2 ^ 54) with g | g
    · have k1 := hroot.hi
      have k2 : (r + 1) * (r + 1) ≤ 2 ^ 54 * 2 ^ 54 := Nat.mul_le_mul g g
      rw [← Nat.pow_add] at k2
      omega
    · exact g
  have r1 : r < 2 ^ 55 := by
    rcases Nat.lt_or_ge r (2 ^ 55) with g | g
    · exact g
    · have k1 := hroot.lo
      have k2 : 2 ^ 55 * 2 ^ 55 ≤ r * r := Nat.mul_le_mul g g
      rw [← Nat.pow_add] at k2
      omega
  obtain ⟨S, hS⟩ : ∃ S, S = srV (M * 2 ^ more) r := ⟨_, rfl⟩
  have hSlog : S.log2 = 55 := by
    have : S = 2 * r ∨ S = 2 * r + 1 := by rw [hS]; unfold srV; split <;> omega
    exact (Nat.log2_eq_iff (by omega)).2 ⟨by omega, by omega⟩
  have hS0 : S ≠ 0 := by intro h0; rw [h0] at hSlog; exact absurd hSlog (by decide)
  obtain ⟨pl, hpl⟩ : ∃ pl : Int, pl = (P - more) / 2 - 1 := ⟨_, rfl⟩
  have hroot2 : Ieee.double.sqrt (wideN a) = some (Ieee.double.nearest false S pl) := by
    unfold Ieee.Format.sqrt
    rw [e, read_wd b0 b1 (by omega) (by omega)]
    have hd : (Ieee.Datum.number false M P).root (Ieee.double.fractionBits + 2) = some (.number false S pl) := by
      have hM0 : ¬ M = 0 := by omega
      have q1 : 2 * (Ieee.double.fractionBits + 2) - M.log2 = 56 := by rw [hlog]; decide
      simp only [Ieee.Datum.root, hM0, q1, if_false, Bool.false_eq_true]
      rw [hS, hpl, ← hmore, Nat.shiftLeft_eq, ← hr]
      unfold srV
      congr 2
      congr 1
      by_cases k : r * r = M * 2 ^ more
      · rw [if_pos k, k]; simp
      · rw [if_neg k, bne_iff_ne.2 k]; rfl
    rw [hd]; rfl
  have hval : sqrtV a = Ieee.single.word false (rungOf Ieee.single S pl) := by
    unfold sqrtV
    rw [hn, hroot2]
    show toldD (some (Ieee.double.read (Ieee.double.nearest false S pl))) = _
    have hlast : lastOf Ieee.double S pl = pl + 3 := by unfold lastOf; rw [least64, frac64, hSlog]; omega
    have hkept := kept_le Ieee.double S pl
    rw [hlast, binade64, show pl - (pl + 3) = -((3 : Nat) : Int) by omega, rz_neg] at hkept
    have hkept2 := le_kept Ieee.double hS0 pl (by rw [hlast, frac64, hSlog]; omega)
    rw [hlast, binade64, show pl - (pl + 3) = -((3 : Nat) : Int) by omega, rz_neg] at hkept2
    obtain ⟨c, hc⟩ : ∃ c, c = rne S 3 := ⟨_, rfl⟩
    rw [← hc] at hkept hkept2
    have hr64 : rungOf Ieee.double S pl = (pl + 3 + 1074).toNat * 4503599627370496 + c := by
      unfold rungOf
      rw [if_neg hS0, hlast, least64, binade64, inf64, show pl - (pl + 3) = -((3 : Nat) : Int) by omega, rz_neg, ← hc, show pl + 3 - -1074 = pl + 3 + 1074 by omega]
      rw [Nat.min_eq_left (by omega)]
    rw [nearest_rung, hr64]
    obtain ⟨a1, a2⟩ := sgn_word64 false (r := (pl + 3 + 1074).toNat * 4503599627370496 + c) (by omega)
    rw [read_fin64 (by rw [a2]; omega), a1, a2, toldD_num, rung_word64, val_of (by omega) (fun _ => by omega), rung_scale, show -1074 + (((pl + 3 + 1074).toNat : Nat) : Int) = pl + (3 : Nat) by omega, ← rung_scale]
    refine congrArg (Ieee.single.word false) ?_
    show rungOf Ieee.single (c * 8) pl = _
    have htw := twice hroot hS r0 r1 (Nat.dvd_trans (show 2 ^ 61 ∣ 2 ^ (52 - L + more) from Nat.pow_dvd_pow 2 (by omega)) ⟨mag32 (rung32 a), by rw [hM, Nat.mul_assoc, ← Nat.pow_add, Nat.mul_comm]⟩)
    rw [← hc] at htw
    have hl32 : lastOf Ieee.single S pl = pl + 32 := by unfold lastOf; rw [least32, show (Ieee.single.fractionBits : Int) = 23 from rfl, hSlog]; omega
    have hright : rungOf Ieee.single S pl = min ((pl + 32 + 149).toNat * 8388608 + rne S 32) 2139095040 := by
      unfold rungOf
      rw [if_neg hS0, hl32, least32, binade32, inf32, show pl - (pl + 32) = -((32 : Nat) : Int) by omega, rz_neg, show pl + 32 - -149 = pl + 32 + 149 by omega]
    rw [hright, ← htw]
    have hc0 : c * 8 ≠ 0 := by omega
    rcases Nat.lt_or_ge c 9007199254740992 with g | g
    · have hcl : (c * 8).log2 = 55 := (Nat.log2_eq_iff hc0).2 ⟨by omega, by omega⟩
      have hl : lastOf Ieee.single (c * 8) pl = pl + 32 := by unfold lastOf; rw [least32, show (Ieee.single.fractionBits : Int) = 23 from rfl, hcl]; omega
      unfold rungOf
      rw [if_neg hc0, hl, least32, binade32, inf32, show pl - (pl + 32) = -((32 : Nat) : Int) by omega, rz_neg, show pl + 32 - -149 = pl + 32 + 149 by omega]
    · have hc1 : c = 9007199254740992 := by omega
      have hcl : (c * 8).log2 = 56 := by rw [hc1]; decide
      have hl : lastOf Ieee.single (c * 8) pl = pl + 33 := by unfold lastOf; rw [least32, show (Ieee.single.fractionBits : Int) = 23 from rfl, hcl]; omega
      unfold rungOf
      rw [if_neg hc0, hl, least32, binade32, inf32, show pl - (pl + 33) = -((33 : Nat) : Int) by omega, rz_neg, hc1]
      have k1 : rne (9007199254740992 * 8) 33 = 8388608 := by decide +kernel
      have k2 : rne (9007199254740992 * 8) 32 = 16777216 := by decide +kernel
      rw [k1, k2, show (pl + 33 - -149).toNat * 8388608 + 8388608 = (pl + 32 + 149).toNat * 8388608 + 16777216 by omega]
  refine ⟨M * 2 ^ more, r, 52 - L + more, hroot, r0, r1, ?_, ?_, by omega, by omega, ?_⟩
  · rw [hM, Nat.mul_assoc, ← Nat.pow_add]
  · omega
  · rw [hval, hS, hpl]
    congr 2
    omega
theorem sqrtV_zero {a : Nat} (h : rung32 a = 0) : sqrtV a = Ieee.single.word (sgn32 a) 0 := by
  have e : Ieee.double.sqrt (wideN a) = some (Ieee.double.word (sgn32 a) 0) := by
    unfold Ieee.Format.sqrt
    rw [wide_zero h, read_word64]
    show some (Ieee.double.nearest (sgn32 a) 0 (-1074)) = _
    rw [nearest_rung, rungOf_zero]
  unfold sqrtV
  rw [fin_num (by omega), e]
  show toldD (some (Ieee.double.read (Ieee.double.word (sgn32 a) 0))) = _
  rw [read_word64, toldD_num, rungOf_zero]
theorem sqrtV_pinf {a : Nat} (h : rung32 a = 2139095040) (hs : sgn32 a = false) : sqrtV a = Ieee.single.word false 2139095040 := by
  have e : Ieee.double.sqrt (wideN a) = some (Ieee.double.word false 9218868437227405312) := by
    unfold Ieee.Format.sqrt
    rw [wide_read_inf h, hs]
    show some (Ieee.double.write (.infinity false)) = _
    rw [write_inf]
  unfold sqrtV
  rw [inf_num h, e]
  show toldD (some (Ieee.double.read (Ieee.double.word false 9218868437227405312))) = _
  rw [told_inf]
theorem sqrtV_none {a : Nat} (h : nanN a = true ∨ (rung32 a ≠ 0 ∧ sgn32 a = true)) : sqrtV a = 2143289344 := by
  unfold sqrtV
  cases hn : nanN a
  · rcases h with h | ⟨h, hs⟩
    · rw [hn] at h; cases h
    · have e : Ieee.double.sqrt (wideN a) = none := by
        unfold Ieee.Format.sqrt
        rw [nanN_rung] at hn
        have hn := of_decide_eq_false hn
        rcases Nat.lt_or_ge (rung32 a) 2139095040 with g | g
        · rw [read_fin64 (wide_fin g).1, (wide_fin g).2.1, hs]
          have hm : ¬ mag64 (rung64 (wideN a)) = 0 := fun k => mag_ne32 h ((wide_mag_zero g).1 k)
          simp [Ieee.Datum.root, hm]
        · rw [wide_read_inf (by omega), hs]; rfl
      rw [e]; rfl
  · rfl
end Go.Proofs.YtkgojnjlfkijiaaGreat
/- Plain facts: sums, products by what isn't negative, and roots rise; near numbers are taken away exactly. -/
namespace Go.Proofs.YtkgojnjlfkijiaaGreat
open Go.RowKit
set_option linter.unusedVariables false
set_option linter.unusedSimpArgs false

theorem add_key {a c : Nat} (ha : rung32 a < 2139095040) (hc : rung32 c < 2139095040) : srung32 (toldD ((Ieee.single.read a).sum (Ieee.single.read c))) = RS (sampleZ a + sampleZ c) ∧ nanN (toldD ((Ieee.single.read a).sum (Ieee.single.read c))) = false := by
  rw [read_fin32 ha, read_fin32 hc]
  obtain ⟨N, b, e1, e2⟩ := sum_units (sgn32 a) (sgn32 c) (mag32 (rung32 a)) (mag32 (rung32 c)) (-149 + (plc32 (rung32 a) : Int)) (-149 + (plc32 (rung32 c) : Int)) (by omega) (by omega)
  rw [show (-149 + (plc32 (rung32 a) : Int) + 1074).toNat = plc32 (rung32 a) + 925 by omega, show (-149 + (plc32 (rung32 c) : Int) + 1074).toNat = plc32 (rung32 c) + 925 by omega] at e1 e2
  rw [e1]
  exact srung_told (fun h => sg_of h) (e2 _)
theorem sub_key {a c : Nat} (ha : rung32 a < 2139095040) (hc : rung32 c < 2139095040) : srung32 (toldD ((Ieee.single.read a).sum (Ieee.single.read c).opposite)) = RS (sampleZ a - sampleZ c) ∧ nanN (toldD ((Ieee.single.read a).sum (Ieee.single.read c).opposite)) = false := by
  rw [read_fin32 ha, read_fin32 hc]
  obtain ⟨N, b, e1, e2⟩ := sum_units (sgn32 a) (!sgn32 c) (mag32 (rung32 a)) (mag32 (rung32 c)) (-149 + (plc32 (rung32 a) : Int)) (-149 + (plc32 (rung32 c) : Int)) (by omega) (by omega)
  rw [show (-149 + (plc32 (rung32 a) : Int) + 1074).toNat = plc32 (rung32 a) + 925 by omega, show (-149 + (plc32 (rung32 c) : Int) + 1074).toNat = plc32 (rung32 c) + 925 by omega] at e1 e2
  rw [signed_neg, ← Int.sub_eq_add_neg] at e1 e2
  show srung32 (toldD ((Ieee.Datum.number (sgn32 a) (mag32 (rung32 a)) (-149 + (plc32 (rung32 a) : Int))).sum (.number (!sgn32 c) (mag32 (rung32 c)) (-149 + (plc32 (rung32 c) : Int))))) = _ ∧ nanN (toldD ((Ieee.Datum.number (sgn32 a) (mag32 (rung32 a)) (-149 + (plc32 (rung32 a) : Int))).sum (.number (!sgn32 c) (mag32 (rung32 c)) (-149 + (plc32 (rung32 c) : Int))))) = _
  rw [e1]
  exact srung_told (fun h => sg_of h) (e2 _)
theorem signed_xor (s t : Bool) (m n j k : Nat) {l : Nat} (i : Nat) (hl : l = j + k + i) : Ieee.signed (s ^^ t) (m * n) l = Ieee.signed s m j * Ieee.signed t n k * 2 ^ i := by
  subst hl
  unfold Ieee.signed
  simp only [Nat.shiftLeft_eq]
  rw [show m * n * 2 ^ (j + k + i) = m * 2 ^ j * (n * 2 ^ k) * 2 ^ i by rw [Nat.pow_add, Nat.pow_add]; simp only [Nat.mul_comm, Nat.mul_left_comm, Nat.mul_assoc]]
  cases s <;> cases t <;> simp [Int.neg_mul, Int.mul_neg]
theorem mul_key {a c : Nat} (ha : rung32 a < 2139095040) (hc : rung32 c < 2139095040) {i : Nat} (hi : i = 776) : srung32 (toldD ((Ieee.single.read a).product (Ieee.single.read c))) = RS (sval32 a * sval32 c * 2 ^ i) ∧ nanN (toldD ((Ieee.single.read a).product (Ieee.single.read c))) = false := by
  have hv : ∀ x, sval32 x = Ieee.signed (sgn32 x) (mag32 (rung32 x)) (plc32 (rung32 x)) := fun x => by
    unfold sval32 val32 Ieee.signed
    rw [Nat.shiftLeft_eq]
  have hz := signed_xor (sgn32 a) (sgn32 c) (mag32 (rung32 a)) (mag32 (rung32 c)) (plc32 (rung32 a)) (plc32 (rung32 c)) i rfl
  rw [hv a, hv c, ← hz]
  rw [read_fin32 ha, read_fin32 hc]
  show srung32 (toldD (some (.number (sgn32 a ^^ sgn32 c) (mag32 (rung32 a) * mag32 (rung32 c)) (-149 + (plc32 (rung32 a) : Int) + (-149 + (plc32 (rung32 c) : Int)))))) = _ ∧ nanN (toldD (some (.number (sgn32 a ^^ sgn32 c) (mag32 (rung32 a) * mag32 (rung32 c)) (-149 + (plc32 (rung32 a) : Int) + (-149 + (plc32 (rung32 c) : Int)))))) = _
  refine srung_told (fun h => signed_sign h) ?_
  rw [signed_abs, rung_scale]
  congr 1
  omega
theorem srung_pinf : srung32 (toldD (some (.infinity false))) = 2139095040 ∧ nanN (toldD (some (.infinity false))) = false := by
  rw [toldD_inf]
  obtain ⟨a, b⟩ := sgn_word32 false (r := 2139095040) (by decide)
  refine ⟨?_, nanN_word (by decide)⟩
  unfold srung32; rw [a, b]; rfl
theorem srung_ninf : srung32 (toldD (some (.infinity true))) = -2139095040 ∧ nanN (toldD (some (.infinity true))) = false := by
  rw [toldD_inf]
  obtain ⟨a, b⟩ := sgn_word32 true (r := 2139095040) (by decide)
  refine ⟨?_, nanN_word (by decide)⟩
  unfold srung32; rw [a, b]; rfl
theorem nan_made : nanN 2143289344 = true := by decide
/-- Not above: one of both a NaN, or not above. -/
def Rise (A B : Nat) : Prop := nanN A = true ∨ nanN B = true ∨ srung32 A ≤ srung32 B
theorem rise_pinf (A : Nat) : Rise A (toldD (some (.infinity false))) := by
  cases h : nanN A
  · refine Or.inr (Or.inr ?_)
    rw [srung_pinf.1]
    exact (srung_bd h).2
  · exact Or.inl h
theorem rise_ninf (B : Nat) : Rise (toldD (some (.infinity true))) B := by
  cases h : nanN B
  · refine Or.inr (Or.inr ?_)
    rw [srung_ninf.1]
    exact (srung_bd h).1
  · exact Or.inr (Or.inl h)
theorem inf_sign {x : Nat} (h : rung32 x = 2139095040) : (sgn32 x = true ∧ srung32 x = -2139095040) ∨ (sgn32 x = false ∧ srung32 x = 2139095040) := by
  unfold srung32
  cases hs : sgn32 x
  · right; rw [h]; exact ⟨rfl, rfl⟩
  · left; rw [h]; exact ⟨rfl, rfl⟩
theorem add_rises {a b c : Nat} (ha : nanN a = false) (hb : nanN b = false) (h : srung32 a ≤ srung32 b) : Rise (toldD ((Ieee.single.read a).sum (Ieee.single.read c))) (toldD ((Ieee.single.read b).sum (Ieee.single.read c))) := by
  cases hc : nanN c
  · rcases cases32 hc with fc | fc
    · rcases cases32 ha with fa | fa
      · rcases cases32 hb with fb | fb
        · refine Or.inr (Or.inr ?_)
          rw [(add_key fa fc).1, (add_key fb fc).1]
          exact RS_mono (Int.add_le_add_right (samp_le h) _)
        · rcases inf_sign fb with ⟨sb, kb⟩ | ⟨sb, kb⟩
          · have := fin_srung fa; omega
          · rw [read_inf32 fb, read_fin32 fc, sb]
            exact rise_pinf _
      · rcases inf_sign fa with ⟨sa, ka⟩ | ⟨sa, ka⟩
        · rw [read_inf32 fa, read_fin32 fc, sa]
          exact rise_ninf _
        · rcases cases32 hb with fb | fb
          · have := fin_srung fb; omega
          · rcases inf_sign fb with ⟨sb, kb⟩ | ⟨sb, kb⟩
            · omega
            · rw [read_inf32 fb, read_fin32 fc, sb]
              exact rise_pinf _
    · have key : ∀ x, nanN x = false → nanN (toldD ((Ieee.single.read x).sum (Ieee.single.read c))) = true ∨ toldD ((Ieee.single.read x).sum (Ieee.single.read c)) = toldD (some (.infinity (sgn32 c))) := fun x hx => by
        rw [read_inf32 fc]
        rcases cases32 hx with fx | fx
        · rw [read_fin32 fx]; exact Or.inr rfl
        · rw [read_inf32 fx]
          generalize sgn32 x = s
          generalize sgn32 c = t
          cases s <;> cases t
          · exact Or.inr rfl
          · exact Or.inl nan_made
          · exact Or.inl nan_made
          · exact Or.inr rfl
      rcases key a ha with k | k
      · exact Or.inl k
      · rcases key b hb with j | j
        · exact Or.inr (Or.inl j)
        · rw [k, j]
          exact Or.inr (Or.inr (Int.le_refl _))
  · left
    rw [sum_comm]
    obtain ⟨s, t, e⟩ := isNaN_cases (read32_nan hc)
    rw [e]
    exact nan_made
theorem mul_rises {a b c : Nat} (ha : nanN a = false) (hb : nanN b = false) (h : srung32 a ≤ srung32 b) (hs : sgn32 c = false) : Rise (toldD ((Ieee.single.read a).product (Ieee.single.read c))) (toldD ((Ieee.single.read b).product (Ieee.single.read c))) := by
  cases hc : nanN c
  · have zc : ∀ (s : Bool) (m : Nat) (p : Int), m = 0 → nanN (toldD ((Ieee.Datum.infinity s).product (.number false m p))) = true := fun s m p hm => by
      subst hm; exact nan_made
    have pc : ∀ (s : Bool) (m : Nat) (p : Int), m ≠ 0 → (Ieee.Datum.infinity s).product (.number false m p) = some (.infinity s) := fun s m p hm => by
      show (if m = 0 then none else some (Ieee.Datum.infinity (s ^^ false))) = _
      rw [if_neg hm, xor_f]
    rcases cases32 hc with fc | fc
    · have hv0 : 0 ≤ sval32 c := by unfold sval32; rw [hs]; simp
      by_cases mc : mag32 (rung32 c) = 0
      · rcases cases32 ha with fa | fa
        · rcases cases32 hb with fb | fb
          · refine Or.inr (Or.inr ?_)
            rw [(mul_key fa fc rfl).1, (mul_key fb fc rfl).1]
            have e : sval32 c = 0 := by unfold sval32 val32; rw [mc]; simp
            rw [e, Int.mul_zero, Int.mul_zero]
            exact Int.le_refl _
          · right; left
            rw [read_inf32 fb, read_fin32 fc, hs]
            exact zc _ _ _ mc
        · left
          rw [read_inf32 fa, read_fin32 fc, hs]
          exact zc _ _ _ mc
      · rcases cases32 ha with fa | fa
        · rcases cases32 hb with fb | fb
          · refine Or.inr (Or.inr ?_)
            obtain ⟨i, hi⟩ : ∃ i : Nat, i = 776 := ⟨_, rfl⟩
            rw [(mul_key fa fc hi).1, (mul_key fb fc hi).1]
            exact RS_mono (Int.mul_le_mul_of_nonneg_right (Int.mul_le_mul_of_nonneg_right (sval_le h) hv0) (Int.le_of_lt (Int.pow_pos (by decide))))
          · rcases inf_sign fb with ⟨sb, kb⟩ | ⟨sb, kb⟩
            · have := fin_srung fa; omega
            · rw [read_inf32 fb, read_fin32 fc, sb, hs, pc _ _ _ mc]
              exact rise_pinf _
        · rcases inf_sign fa with ⟨sa, ka⟩ | ⟨sa, ka⟩
          · rw [read_inf32 fa, read_fin32 fc, sa, hs, pc _ _ _ mc]
            exact rise_ninf _
          · rcases cases32 hb with fb | fb
            · have := fin_srung fb; omega
            · rcases inf_sign fb with ⟨sb, kb⟩ | ⟨sb, kb⟩
              · omega
              · rw [read_inf32 fb, read_fin32 fc, sb, hs, pc _ _ _ mc]
                exact rise_pinf _
    · have key : ∀ x, nanN x = false → nanN (toldD ((Ieee.single.read x).product (Ieee.single.read c))) = true ∨ (toldD ((Ieee.single.read x).product (Ieee.single.read c)) = toldD (some (.infinity (sgn32 x))) ∧ srung32 x ≠ 0) := fun x hx => by
        rw [read_inf32 fc, hs]
        rcases cases32 hx with fx | fx
        · rw [read_fin32 fx, product_comm]
          by_cases mx : mag32 (rung32 x) = 0
          · left
            show nanN (toldD (if mag32 (rung32 x) = 0 then none else some (Ieee.Datum.infinity (false ^^ sgn32 x)))) = true
            rw [if_pos mx]; exact nan_made
          · right
            refine ⟨?_, fun e => mx ?_⟩
            · show toldD (if mag32 (rung32 x) = 0 then none else some (Ieee.Datum.infinity (false ^^ sgn32 x))) = _
              rw [if_neg mx, Bool.false_xor]
            · have : rung32 x = 0 := by unfold srung32 at e; split at e <;> omega
              rw [this]; rfl
        · right
          rw [read_inf32 fx]
          refine ⟨?_, fun e => ?_⟩
          · show toldD (some (Ieee.Datum.infinity (sgn32 x ^^ false))) = _
            rw [xor_f]
          · unfold srung32 at e; split at e <;> omega
      rcases key a ha with k | ⟨k, ka⟩
      · exact Or.inl k
      · rcases key b hb with j | ⟨j, kb⟩
        · exact Or.inr (Or.inl j)
        · rw [k, j]
          cases sa : sgn32 a
          · have : sgn32 b = false := by
              cases sb : sgn32 b
              · rfl
              · unfold srung32 at h ka kb
                rw [sa, sb] at h
                rw [sa] at ka
                rw [sb] at kb
                simp at h ka kb
                omega
            rw [this]
            exact rise_pinf _
          · exact rise_ninf _
  · left
    rw [product_comm]
    obtain ⟨s, t, e⟩ := isNaN_cases (read32_nan hc)
    rw [e]
    exact nan_made
/-- Roots rise. -/
theorem sr_mono {n n' r r' : Nat} (h : IsRoot n r) (h' : IsRoot n' r') (hn : n ≤ n') : srV n r ≤ srV n' r' := by
  have hr : r ≤ r' := by
    rcases Nat.lt_or_ge r' r with g | g
    · have := Nat.mul_le_mul (show r' + 1 ≤ r from g) (show r' + 1 ≤ r from g)
      have := h.lo; have := h'.hi; omega
    · exact g
  unfold srV
  rcases Nat.lt_or_eq_of_le hr with g | g
  · split <;> split <;> omega
  · subst g
    have := h.lo
    split <;> split <;> omega
theorem sqrt_key {a : Nat} (h0 : rung32 a ≠ 0) (h : rung32 a < 2139095040) (hs : sgn32 a = false) {e : Nat} (he : 400 ≤ e) :
    ∃ R, IsRoot (val32 (rung32 a) * 2 ^ (2 * e + 1)) R ∧ sqrtV a = Ieee.single.word false (rungOf Ieee.single (srV (val32 (rung32 a) * 2 ^ (2 * e + 1)) R) (-75 - (e : Int) - 1)) := by
  obtain ⟨n', r, A, hr, r0, r1, hn, hA, A0, A1, hw⟩ := sqrtV_fin h0 h hs
  obtain ⟨R, hR⟩ : ∃ R, IsRoot (val32 (rung32 a) * 2 ^ (2 * e + 1)) R := ⟨_, root_whole _⟩
  refine ⟨R, hR, ?_⟩
  -- n' * 4^k is the same number
  obtain ⟨k, hk⟩ : ∃ k : Nat, plc32 (rung32 a) + (2 * e + 1) = A + 2 * k := ⟨(plc32 (rung32 a) + (2 * e + 1) - A) / 2, by omega⟩
  have en : val32 (rung32 a) * 2 ^ (2 * e + 1) = n' * 4 ^ k := by
    unfold val32
    rw [hn, Nat.mul_assoc, ← Nat.pow_add, hk, Nat.pow_add, Nat.pow_mul, Nat.mul_assoc]
  rw [en] at hR ⊢
  have hq : R / 2 ^ k = r := root_unique (root_cut hR) hr
  have hl := sr_link Ieee.single (n := n') (R := R) (k := k) ((-149 + (plc32 (rung32 a) : Int) - A) / 2) hR (by rw [hq]; exact Nat.le_trans (by decide) r0)
  rw [hq] at hl
  rw [hw, ← hl]
  congr 2
  omega
theorem sqrt_rises {a b : Nat} (ha : nanN a = false) (hb : nanN b = false) (h : srung32 a ≤ srung32 b) : Rise (sqrtV a) (sqrtV b) := by
  have neg : ∀ x, rung32 x ≠ 0 → sgn32 x = true → nanN (sqrtV x) = true := fun x h1 h2 => by rw [sqrtV_none (Or.inr ⟨h1, h2⟩)]; exact nan_made
  have kw : ∀ (s : Bool) (r : Nat), r ≤ 2139095040 → srung32 (Ieee.single.word s r) = if s = true then -(r : Int) else r := fun s r hr => by
    obtain ⟨p, q⟩ := sgn_word32 s (r := r) (by omega)
    unfold srung32; rw [p, q]
  have rl : ∀ N p, rungOf Ieee.single N p ≤ 2139095040 := fun N p => by have := rungOf_le Ieee.single N p; rw [inf32] at this; exact this
  by_cases za : rung32 a = 0
  · by_cases sb : rung32 b ≠ 0 ∧ sgn32 b = true
    · exact Or.inr (Or.inl (neg b sb.1 sb.2))
    · refine Or.inr (Or.inr ?_)
      rw [sqrtV_zero za, kw _ _ (by decide)]
      have : (if sgn32 a = true then -((0 : Nat) : Int) else ((0 : Nat) : Int)) = 0 := by split <;> rfl
      rw [this]
      by_cases zb : rung32 b = 0
      · rw [sqrtV_zero zb, kw _ _ (by decide)]; split <;> decide
      · have sb : sgn32 b = false := by
          cases hs : sgn32 b
          · rfl
          · exact absurd ⟨zb, hs⟩ sb
        rcases cases32 hb with fb | fb
        · obtain ⟨R, _, e⟩ := sqrt_key zb fb sb (e := 400) (Nat.le_refl _)
          rw [e, kw _ _ (rl _ _), if_neg (by decide)]
          omega
        · rw [sqrtV_pinf fb sb, kw _ _ (by decide)]; decide
  · cases sa : sgn32 a
    · have pa : 0 < srung32 a := by unfold srung32; rw [sa]; simp; omega
      have sb : sgn32 b = false := by
        cases hs : sgn32 b
        · rfl
        · unfold srung32 at h pa; rw [hs] at h; rw [sa] at h pa; simp at h pa; omega
      have zb : rung32 b ≠ 0 := fun e => by unfold srung32 at h pa; rw [sb, e] at h; rw [sa] at h pa; simp at h pa; omega
      rcases cases32 hb with fb | fb
      · rcases cases32 ha with fa | fa
        · refine Or.inr (Or.inr ?_)
          obtain ⟨e, he⟩ : ∃ e : Nat, e = 400 := ⟨_, rfl⟩
          obtain ⟨R, hR, e1⟩ := sqrt_key za fa sa (e := e) (by omega)
          obtain ⟨R', hR', e2⟩ := sqrt_key zb fb sb (e := e) (by omega)
          rw [e1, e2, kw _ _ (rl _ _), kw _ _ (rl _ _), if_neg (by decide), if_neg (by decide)]
          have hv : val32 (rung32 a) ≤ val32 (rung32 b) := by
            refine val_le32 ?_
            unfold srung32 at h; rw [sa, sb] at h; simp at h; omega
          have := rung_mono Ieee.single (-75 - (e : Int) - 1) (sr_mono hR hR' (Nat.mul_le_mul_right _ hv))
          omega
        · have := fin_srung fb
          rcases inf_sign fa with ⟨q, _⟩ | ⟨_, q⟩
          · rw [sa] at q; cases q
          · omega
      · rw [sqrtV_pinf fb sb, ← toldD_inf]
        exact rise_pinf _
    · exact Or.inl (neg a za sa)
/-- Near numbers are taken away exactly. -/
theorem rung_full {M : Nat} (hM : M.log2 ≤ 276) : rungOf Ieee.single M (-149) = lostK32 M * 8388608 + rne M (lostK32 M) := by
  by_cases h : M = 0
  · subst h
    rw [rungOf_zero, show lostK32 0 = 0 from by decide, rne_zero]
  · unfold rungOf
    rw [if_neg h]
    have e1 : lastOf Ieee.single M (-149) = -149 + (lostK32 M : Int) := by unfold lastOf lostK32; rw [least32, frac32]; omega
    have e2 : (-149 + (lostK32 M : Int) - -149).toNat = lostK32 M := by omega
    have e3 : (-149 : Int) - (-149 + (lostK32 M : Int)) = -(lostK32 M : Int) := by omega
    rw [e1, least32, binade32, inf32, e2, e3, rz_neg]
    have hk := (kept_bd32 (M := M)).1
    have hl : lostK32 M ≤ 253 := by unfold lostK32; omega
    rw [Nat.min_eq_left (by omega)]
theorem val_full {M : Nat} (hM : M.log2 ≤ 276) : val32 (rungOf Ieee.single M (-149)) = rne M (lostK32 M) * 2 ^ lostK32 M := by
  rw [rung_full hM, val_of32 kept_bd32.1 kept_bd32.2]
theorem val_exact {M g : Nat} (hM : M.log2 ≤ 276) (hd : 2 ^ g ∣ M) (hb : M < 2 ^ (24 + g)) : val32 (rungOf Ieee.single M (-149)) = M := by
  by_cases h0 : M = 0
  · subst h0; rw [rungOf_zero]; exact val_zero32
  · rw [val_full hM]
    have hl := (Nat.log2_lt h0).2 hb
    obtain ⟨o, ho⟩ := Nat.dvd_trans (Nat.pow_dvd_pow 2 (show lostK32 M ≤ g by unfold lostK32; omega)) hd
    have : rne M (lostK32 M) = o := by
      have e := rne_exact o (lostK32 M)
      rw [Nat.mul_comm, ← ho] at e
      exact e
    rw [this, Nat.mul_comm, ← ho]
theorem near_exact {x y : Nat} (hx : x < 2139095040) (hxy : x ≤ y) (h : val32 y ≤ 2 * val32 x) (hy : y < 2139095040) : val32 (rungOf Ieee.single (val32 y - val32 x) (-149)) = val32 y - val32 x := by
  have hp : plc32 x ≤ plc32 y := by unfold plc32; omega
  have d1 : 2 ^ plc32 x ∣ val32 x := ⟨mag32 x, by unfold val32; rw [Nat.mul_comm]⟩
  have d2 : 2 ^ plc32 x ∣ val32 y := by
    unfold val32
    exact Nat.dvd_trans (Nat.pow_dvd_pow 2 hp) ⟨mag32 y, by rw [Nat.mul_comm]⟩
  have b : val32 x < 2 ^ (24 + plc32 x) := by
    unfold val32
    rw [Nat.pow_add]
    exact Nat.mul_lt_mul_of_pos_right (mag_lt32 x) (Nat.two_pow_pos _)
  have hb : val32 y - val32 x < 2 ^ (24 + plc32 x) := by omega
  refine val_exact (g := plc32 x) ?_ (Nat.dvd_sub d2 d1) hb
  have hp3 : plc32 x ≤ 253 := by unfold plc32; omega
  rcases Nat.eq_zero_or_pos (val32 y - val32 x) with z | z
  · rw [z]; decide
  · have := (Nat.log2_lt (by omega)).2 hb
    omega
theorem sdiff (s : Bool) (x y : Nat) : ((if s = true then -(x : Int) else (x : Int)) - (if s = true then -(y : Int) else (y : Int))).natAbs = x - y + (y - x) := by split <;> omega
theorem sdiff_le {n x y : Nat} (h : n = x - y + (y - x)) (h1 : y ≤ 2 * x) : n ≤ x := by omega
theorem scale_neg {D : Int} {c : Nat} : (D * 2 ^ c < 0) ↔ D < 0 := by
  have hp : (0 : Int) < 2 ^ c := Int.pow_pos (by decide)
  constructor
  · intro g
    rcases Int.lt_or_le D 0 with k | k
    · exact k
    · have := Int.mul_nonneg k (Int.le_of_lt hp); omega
  · exact fun g => Int.mul_neg_of_neg_of_pos g hp
/-- A word of a known signed rung, and its value. -/
theorem val_of_key {d r : Nat} {D : Int} (hrd : srung32 d = if D < 0 then -(r : Int) else (r : Int)) (hv : val32 r = D.natAbs) : sval32 d = D ∧ rung32 d = r := by
  have hrun : rung32 d = r := by
    unfold srung32 at hrd
    split at hrd <;> split at hrd <;> omega
  refine ⟨?_, hrun⟩
  have hz0 : r = 0 → D = 0 := fun e => by rw [e, val_zero32] at hv; omega
  unfold srung32 at hrd
  unfold sval32
  rw [hrun] at hrd ⊢
  rw [hv]
  generalize sgn32 d = s at hrd ⊢
  cases s
  · rw [if_neg (by decide)] at hrd ⊢
    split at hrd <;> omega
  · rw [if_pos rfl] at hrd ⊢
    split at hrd <;> omega
/-- Sterbenz: the difference of near samples is a sample; added again it brings the first one back. -/
theorem near_back {a b : Nat} (ha : rung32 a < 2139095040) (hb : rung32 b < 2139095040) (hs : sgn32 a = sgn32 b) (h1 : val32 (rung32 b) ≤ 2 * val32 (rung32 a)) (h2 : val32 (rung32 a) ≤ 2 * val32 (rung32 b)) :
    nanN (toldD ((Ieee.single.read a).sum (Ieee.single.read b).opposite)) = false ∧ srung32 (toldD ((Ieee.single.read (toldD ((Ieee.single.read a).sum (Ieee.single.read b).opposite))).sum (Ieee.single.read b))) = srung32 a := by
  obtain ⟨hk, hn⟩ := sub_key ha hb
  refine ⟨hn, ?_⟩
  generalize toldD ((Ieee.single.read a).sum (Ieee.single.read b).opposite) = d at hk hn
  have habs : (sval32 a - sval32 b).natAbs = val32 (rung32 a) - val32 (rung32 b) + (val32 (rung32 b) - val32 (rung32 a)) := by
    unfold sval32; rw [hs]; exact sdiff _ _ _
  have hv : val32 (rungOf Ieee.single (sval32 a - sval32 b).natAbs (-149)) = (sval32 a - sval32 b).natAbs := by
    rw [habs]
    rcases Nat.le_total (rung32 a) (rung32 b) with g | g
    · rw [Nat.sub_eq_zero_of_le (val_le32 g), Nat.zero_add]
      exact near_exact ha g h1 hb
    · rw [Nat.sub_eq_zero_of_le (val_le32 g), Nat.add_zero]
      exact near_exact hb g h2 ha
  have hle := sdiff_le habs h1
  obtain ⟨D, hD⟩ : ∃ D, D = sval32 a - sval32 b := ⟨_, rfl⟩
  rw [← hD] at habs hv hle
  obtain ⟨r, hr⟩ : ∃ r, r = rungOf Ieee.single D.natAbs (-149) := ⟨_, rfl⟩
  rw [← hr] at hv
  have hrl : r < 2139095040 := by
    rcases Nat.lt_or_ge (rung32 a) r with g | g
    · have := val_mono32 g; rw [hv] at this; exact absurd hle (Nat.not_le.2 this)
    · exact Nat.lt_of_le_of_lt g ha
  obtain ⟨c, hc⟩ : ∃ c : Nat, c = 925 := ⟨_, rfl⟩
  have hZ : sampleZ a - sampleZ b = D * 2 ^ c := by rw [samp_eq a hc, samp_eq b hc, hD, Int.sub_mul]
  have hrz : rungOf Ieee.single (D * 2 ^ c).natAbs (-1074) = r := by
    rw [Int.natAbs_mul, Int.natAbs_pow, show (2 : Int).natAbs = 2 from rfl, rung_scale, hr, hc]; rfl
  have hrd : srung32 d = if D < 0 then -(r : Int) else (r : Int) := by
    rw [hk, hZ]; unfold RS; rw [hrz]
    by_cases k : D < 0
    · rw [if_pos (scale_neg.2 k), if_pos k]
    · rw [if_neg (fun g => k (scale_neg.1 g)), if_neg k]
  obtain ⟨hdv, hdr⟩ := val_of_key hrd hv
  have hd : rung32 d < 2139095040 := by rw [hdr]; exact hrl
  rw [(add_key hd hb).1]
  have e : sampleZ d + sampleZ b = sampleZ a := by
    rw [samp_eq d hc, samp_eq b hc, samp_eq a hc, ← Int.add_mul, hdv, hD, Int.sub_add_cancel]
  rw [e]
  exact RS_self ha
end Go.Proofs.YtkgojnjlfkijiaaGreat
/- Log and Exp: what the program returns. -/
namespace Go.Proofs.YtkgojnjlfkijiaaGreat
open Go.RowKit
set_option linter.unusedVariables false

theorem wide_srung_inf {a : Nat} (h : rung32 a = 2139095040) : srung64 (wideN a) = if sgn32 a = true then -9218868437227405312 else 9218868437227405312 := by
  rw [wide_inf h]
  obtain ⟨h1, h2⟩ := sgn_word64 (sgn32 a) (r := 9218868437227405312) (by decide)
  unfold srung64; rw [h1, h2]; rfl
theorem ord_wide {a b : Nat} (ha : nanN a = false) (hb : nanN b = false) : Ieee.double.order (wideN a) (wideN b) = some (compare (srung32 a) (srung32 b)) := by
  have key : ∀ {a : Nat}, nanN a = false → (rung32 a < 2139095040 ∧ rung64 (wideN a) < 9218868437227405312) ∨ (rung32 a = 2139095040 ∧ rung64 (wideN a) = 9218868437227405312) := by
    intro a h
    rcases cases32 h with g | g
    · exact Or.inl ⟨g, (wide_fin g).1⟩
    · refine Or.inr ⟨g, ?_⟩
      rw [wide_inf g]; exact (sgn_word64 _ (by decide)).2
  rcases key ha with ⟨g1, g2⟩ | ⟨g1, g2⟩
  · rcases key hb with ⟨k1, k2⟩ | ⟨k1, k2⟩
    · rw [order_fin64 g2 k2, ← sval_srung64, (wide_fin g1).2.2, (wide_fin k1).2.2, samp_eq a rfl, samp_eq b rfl, cmp_scale (by exact Int.pow_pos (by decide)), sval_srung32]
    · rw [order_num64 (by omega) (by omega)]
      have e1 := wide_srung_inf k1
      have e2 := fin_srung g1
      have e3 : -9218868437227405312 < srung64 (wideN a) ∧ srung64 (wideN a) < 9218868437227405312 := by unfold srung64; split <;> omega
      rcases inf_sign k1 with ⟨s1, s2⟩ | ⟨s1, s2⟩
      · rw [s1, if_pos rfl] at e1
        exact congrArg some (cmp_alike (by omega) (by omega) (by omega))
      · rw [s1, if_neg (by decide)] at e1
        exact congrArg some (cmp_alike (by omega) (by omega) (by omega))
  · rw [order_num64 (by omega) (by rcases key hb with ⟨k1, k2⟩ | ⟨k1, k2⟩ <;> omega)]
    have e1 := wide_srung_inf g1
    rcases key hb with ⟨k1, k2⟩ | ⟨k1, k2⟩
    · have e2 := fin_srung k1
      have e3 : -9218868437227405312 < srung64 (wideN b) ∧ srung64 (wideN b) < 9218868437227405312 := by unfold srung64; split <;> omega
      rcases inf_sign g1 with ⟨s1, s2⟩ | ⟨s1, s2⟩
      · rw [s1, if_pos rfl] at e1
        exact congrArg some (cmp_alike (by omega) (by omega) (by omega))
      · rw [s1, if_neg (by decide)] at e1
        exact congrArg some (cmp_alike (by omega) (by omega) (by omega))
    · have e4 := wide_srung_inf k1
      rcases inf_sign g1 with ⟨s1, s2⟩ | ⟨s1, s2⟩ <;> rcases inf_sign k1 with ⟨t1, t2⟩ | ⟨t1, t2⟩ <;> rw [s1] at e1 <;> rw [t1] at e4
      · rw [if_pos rfl] at e1 e4
        exact congrArg some (cmp_alike (by omega) (by omega) (by omega))
      · rw [if_pos rfl] at e1
        rw [if_neg (by decide)] at e4
        exact congrArg some (cmp_alike (by omega) (by omega) (by omega))
      · rw [if_neg (by decide)] at e1
        rw [if_pos rfl] at e4
        exact congrArg some (cmp_alike (by omega) (by omega) (by omega))
      · rw [if_neg (by decide)] at e1 e4
        exact congrArg some (cmp_alike (by omega) (by omega) (by omega))
theorem wide_n0 : wideN 0 = 0 := by decide +kernel
theorem wide_128 : wideN 1124073472 = 4638707616191610880 := by decide +kernel
theorem wide_127 : wideN 3271426048 = 13862009284302209024 := by decide +kernel
/-- Log of a sample above 0. -/
def logP (x : Nat) : Nat := narW (shfW (floatOfInt .f64 ((x : Int) - 1065353216)) (-23))
def logV (x : Nat) : Nat := if nanN x = true ∨ srung32 x < 0 then 2143289344 else if srung32 x = 0 then 4286578688 else if x = 2139095040 then 2139095040 else logP x
theorem opT_lt {op : BinOp} (x y : Nat) : opT op x y < 18446744073709551616 := by
  unfold opT
  cases h : opD op (Ieee.double.read x) (Ieee.double.read y) with
  | none => show 9221120237041090560 < 18446744073709551616; omega
  | some d => rw [told64_some (opD_num h)]; exact write64_lt d
theorem can_int (n : Int) : canW (floatOfInt .f64 n) = floatOfInt .f64 n := by
  have e : floatOfInt .f64 n = Ieee.double.write (.number (decide (n < 0)) n.natAbs 0) := rfl
  have h : nan64 (floatOfInt .f64 n) = false := by rw [e]; exact nan64_write rfl
  unfold canW; rw [h, if_neg (by decide)]
theorem can_23 : canW 4710765210229538816 = 4710765210229538816 := by decide +kernel
/-- Exp of a number between -127 and 128. -/
def exN (y : Nat) : Nat := wholeN .even (sgn32 y) (mag32 (rung32 y)) (-126 + (plc32 (rung32 y) : Int))
def expI (y : Nat) : Int := Ieee.signed (sgn32 y) (exN y) 0
def expP (y : Nat) : Nat := (expI y + 1065353216).toNat
def expW (y : Nat) : Nat := if nanN y = true then 2143289344 else if 1124073472 ≤ srung32 y then 2139095040 else if srung32 y < -1123942400 then 0 else expP y
theorem integral_shf {y : Nat} (h : rung32 y < 2139095040) : (Ieee.double.read (shfW (wideN y) 23)).integral .even = .number (sgn32 y) (exN y) 0 := by
  unfold exN
  by_cases z : rung32 y = 0
  · rw [wide_zero z, shfW_num (read_word64 _), rungOf_zero, read_word64, z, show mag32 0 = 0 from by decide, wholeN_zero (Or.inr rfl)]
    show Ieee.Datum.number (sgn32 y) (wholeN .even (sgn32 y) 0 (-1074)) 0 = _
    rw [wholeN_zero (Or.inr rfl)]
  · obtain ⟨L, hL, m0, m1, e, hp⟩ := wide_wd z h
    have b0 : 4503599627370496 ≤ mag32 (rung32 y) * 2 ^ (52 - L) := by
      have := Nat.mul_le_mul_right (2 ^ (52 - L)) m0
      rw [← Nat.pow_add, show L + (52 - L) = 52 by omega] at this
      exact this
    have b1 : mag32 (rung32 y) * 2 ^ (52 - L) < 9007199254740992 := by
      have := Nat.mul_lt_mul_of_pos_right m1 (Nat.two_pow_pos (52 - L))
      rw [← Nat.pow_add, show L + 1 + (52 - L) = 53 by omega] at this
      exact this
    have e2 : shfW (wideN y) 23 = wd (sgn32 y) (mag32 (rung32 y) * 2 ^ (52 - L)) (-126 + (plc32 (rung32 y) : Int) + L - 52) := by
      have hr : Ieee.double.read (wideN y) = .number (sgn32 y) (mag32 (rung32 y) * 2 ^ (52 - L)) (-149 + (plc32 (rung32 y) : Int) + L - 52) := by rw [e, read_wd b0 b1 (by omega) (by omega)]
      rw [shfW_num hr, ← nearest_rung]
      have := nearest_exact (neg := sgn32 y) (o := mag32 (rung32 y) * 2 ^ (52 - L)) (L := 52) (k := 0) (p := -149 + (plc32 (rung32 y) : Int) + L - 52 + 23) b0 b1 (by omega) (by omega) (by omega)
      rw [Nat.pow_zero, Nat.mul_one] at this
      rw [this]
      congr 1; omega
    rw [e2, read_wd b0 b1 (by omega) (by omega)]
    show Ieee.Datum.number (sgn32 y) (wholeN .even (sgn32 y) (mag32 (rung32 y) * 2 ^ (52 - L)) (-126 + (plc32 (rung32 y) : Int) + L - 52)) 0 = _
    have := wholeN_scale (Or.inr rfl) (sgn32 y) (mag32 (rung32 y)) (52 - L) (-126 + (plc32 (rung32 y) : Int))
    rw [show -126 + (plc32 (rung32 y) : Int) - ((52 - L : Nat) : Int) = -126 + (plc32 (rung32 y) : Int) + L - 52 by omega] at this
    rw [this]
theorem exN_lo {y : Nat} (h : plc32 (rung32 y) ≤ 126) : exN y = rne (mag32 (rung32 y)) (126 - plc32 (rung32 y)) := by
  unfold exN wholeN
  rw [cut_rne, show (-126 + (plc32 (rung32 y) : Int)).toNat = 0 by omega, Nat.shiftLeft_zero, show (-(-126 + (plc32 (rung32 y) : Int))).toNat = 126 - plc32 (rung32 y) by omega]
theorem exN_hi {y : Nat} (h : 126 ≤ plc32 (rung32 y)) : exN y = mag32 (rung32 y) * 2 ^ (plc32 (rung32 y) - 126) := by
  unfold exN wholeN
  rw [cut_rne, show (-(-126 + (plc32 (rung32 y) : Int))).toNat = 0 by omega, rne_zero, Nat.shiftLeft_eq, show (-126 + (plc32 (rung32 y) : Int)).toNat = plc32 (rung32 y) - 126 by omega]
theorem exN_bd {y : Nat} (h : rung32 y < 1124073472) : exN y < 1073741824 ∧ (rung32 y ≤ 1123942400 → exN y ≤ 1065353216) := by
  have hm := mag_lt32 (rung32 y)
  have hp : plc32 (rung32 y) ≤ 132 := by unfold plc32; omega
  rcases Nat.le_total (plc32 (rung32 y)) 126 with g | g
  · have e := rne_upper (n := mag32 (rung32 y)) (d := 126 - plc32 (rung32 y)) (k := 16777216) (by
      have := Nat.two_pow_pos (126 - plc32 (rung32 y))
      have := Nat.mul_le_mul_left 16777216 this
      omega)
    rw [exN_lo g]
    omega
  · rw [exN_hi g]
    rcases Nat.lt_or_ge (plc32 (rung32 y)) 132 with k | k
    · have : mag32 (rung32 y) * 2 ^ (plc32 (rung32 y) - 126) ≤ 16777215 * 2 ^ 5 := Nat.mul_le_mul (by omega) (Nat.pow_le_pow_right (by decide) (by omega))
      omega
    · have k : plc32 (rung32 y) = 132 := by omega
      rw [k]
      have hr : mag32 (rung32 y) = rung32 y - 132 * 8388608 := by unfold mag32; rw [k]
      omega
theorem sgn0 (s : Bool) (n : Nat) : Ieee.signed s n 0 = if s = true then -(n : Int) else (n : Int) := by
  unfold Ieee.signed; rw [Nat.shiftLeft_zero]
theorem exp_int {y : Nat} (h1 : srung32 y < 1124073472) (h2 : -1123942400 ≤ srung32 y) : rung32 y < 2139095040 ∧ floatToIntVal .f64 (flD .even (shfW (wideN y) 23)) .i64 = some (expI y) ∧ -1065353216 ≤ expI y ∧ expI y < 1073741824 := by
  have hs : srung32 y = if sgn32 y = true then -(rung32 y : Int) else rung32 y := rfl
  have hr : rung32 y < 1124073472 := by cases g : sgn32 y <;> rw [g] at hs <;> simp at hs <;> omega
  obtain ⟨b1, b2⟩ := exN_bd hr
  have hr2 : rung32 y < 2139095040 := by omega
  have hb : -1065353216 ≤ expI y ∧ expI y < 1073741824 := by
    unfold expI; rw [sgn0]
    cases g : sgn32 y <;> rw [g] at hs <;> simp at hs ⊢ <;> omega
  refine ⟨hr2, ?_, hb⟩
  have hfl : flD .even (shfW (wideN y) 23) = Ieee.double.write (.number (sgn32 y) (exN y) 0) := by
    unfold flD; rw [integral_shf hr2]
  obtain ⟨w1, w2, w3, E, w4, w5⟩ := whole_word (s := sgn32 y) (N := exN y) (o := exN y) (k := 0) (by rw [Nat.pow_zero, Nat.mul_one]) (by omega) (by omega)
  have hin := in_whole w2 w4 w5
  have htr := trunc_whole w2 w3 w4 w5
  rw [hfl, whole_bound ?_, htr]
  · rfl
  · rw [hin]
    refine decide_eq_true ?_
    show -9223372036854775808 ≤ expI y ∧ expI y < 9223372036854775808
    omega
theorem shfW_fin {x : Nat} (h : rung64 x < 9218868437227405312) (n : Int) : nan64 (shfW x n) = false := by
  rw [shfW_num (read_fin64 h)]
  exact nan64_word (by have := rungOf_le Ieee.double (mag64 (rung64 x)) (-1074 + (plc64 (rung64 x) : Int) + n); rw [inf64] at this; exact this)
theorem mul_23some {x : Nat} (h : rung64 x < 9218868437227405312) : floatBits .mul .f64 x 4710765210229538816 = some (shfW x 23) := by
  have e := mul_23 x
  unfold opT at e
  rw [bits_op .mul (by simp)]
  unfold opD at e ⊢
  rw [read_fin64 h, read_c23] at e ⊢
  dsimp only at e ⊢
  rw [show (Ieee.Datum.number (sgn64 x) (mag64 (rung64 x)) (-1074 + (plc64 (rung64 x) : Int))).product (.number false 4503599627370496 (-29)) = some (.number (sgn64 x ^^ false) (mag64 (rung64 x) * 4503599627370496) (-1074 + (plc64 (rung64 x) : Int) + -29)) from rfl] at e ⊢
  rw [told64_some rfl] at e
  rw [← e]; rfl
end Go.Proofs.YtkgojnjlfkijiaaGreat
/- Regions that draw their order, whose last operation waits for all others: one walk in the order of the text, and then the last operation. -/
namespace Go.Proofs.YtkgojnjlfkijiaaGreat
open Go.RowKit
set_option linter.unusedVariables false

/-- The last operation waits for all others; each of these waits for earlier ones alone; none is guarded. -/
def lastB (pre : List Oper) (st : Oper) : Bool :=
  ((List.range pre.length).all fun k => match pre[k]? with
    | some o => o.guard.isNone && o.after.toList.all fun e => !(Region.binds .any e) || decide (e.on < k)
    | none => true) &&
  ((st.guard.isNone && st.after.toList.all fun e => !(Region.binds .any e) || decide (e.on < pre.length)) && (List.range pre.length).all fun k => st.after.toList.any fun e => Region.binds .any e && (e.on == k))
theorem lastB_pre {pre : List Oper} {st : Oper} (h : lastB pre st = true) {k : Nat} {o : Oper} (hk : pre[k]? = some o) : o.guard = none ∧ ∀ e ∈ o.after, Region.binds .any e = true → e.on < k := by
  unfold lastB at h
  rw [Bool.and_eq_true] at h
  have hlt : k < pre.length := (List.getElem?_eq_some_iff.1 hk).1
  have h1 := List.all_eq_true.1 h.1 k (List.mem_range.2 hlt)
  rw [hk] at h1
  simp only [Bool.and_eq_true] at h1
  refine ⟨by simpa using h1.1, fun e he hb => ?_⟩
  have h2 := List.all_eq_true.1 h1.2 e (by simpa using he)
  rw [hb] at h2
  simpa using h2
theorem lastB_st {pre : List Oper} {st : Oper} (h : lastB pre st = true) : st.guard = none ∧ (∀ k, k < pre.length → ∃ e ∈ st.after, Region.binds .any e = true ∧ e.on = k) ∧ ∀ e ∈ st.after, Region.binds .any e = true → e.on < pre.length := by
  unfold lastB at h
  simp only [Bool.and_eq_true] at h
  refine ⟨by simpa using h.2.1.1, fun k hk => ?_, fun e he hb => ?_⟩
  rotate_left
  · have h2 := List.all_eq_true.1 h.2.1.2 e (by simpa using he)
    rw [hb] at h2
    simpa using h2
  have h1 := List.all_eq_true.1 h.2.2 k (List.mem_range.2 hk)
  obtain ⟨e, he, h2⟩ := List.any_eq_true.1 h1
  rw [Bool.and_eq_true] at h2
  exact ⟨e, by simpa using he, h2.1, by simpa using h2.2⟩
theorem push_getD_lt (l : Array Bool) (d : Bool) {i : Nat} (h : i < l.size) : (l.push false).getD i d = l.getD i d := by
  rw [Array.getD_eq_getD_getElem?, Array.getD_eq_getD_getElem?, Array.getElem?_push_lt h, Array.getElem?_eq_getElem h]
theorem push_getD_eq (l : Array Bool) (d : Bool) : (l.push false).getD l.size d = false := by
  rw [Array.getD_eq_getD_getElem?, Array.getElem?_push_size]; rfl
theorem ops_lt {pre : List Oper} {st : Oper} {i : Nat} (h : i < pre.length) : (pre ++ [st]).toArray[i]? = pre.toArray[i]? := by
  simp [List.getElem?_append_left h]
theorem ready_lt {pre : List Oper} {st : Oper} (hB : lastB pre st = true) {listed : Array Bool} (hs : listed.size = pre.length) {i : Nat} (hi : i ∈ Region.ready .any (pre ++ [st]).toArray (listed.push false)) :
    (i < pre.length ∧ i ∈ Region.ready .any pre.toArray listed) ∨ (i = pre.length ∧ ∀ k, k < pre.length → listed.getD k false = true) := by
  obtain ⟨h1, o, ho, h2⟩ := mem_ready.1 hi
  rcases Nat.lt_trichotomy i pre.length with h | h | h
  · left
    refine ⟨h, mem_ready.2 ⟨?_, o, ?_, fun e he hb => ?_⟩⟩
    · rw [← push_getD_lt listed true (by omega)]; exact h1
    · rw [← ops_lt (st := st) h]; exact ho
    · have hk : pre[i]? = some o := by rw [ops_lt h] at ho; simpa using ho
      have := (lastB_pre hB hk).2 e he hb
      rw [← push_getD_lt listed false (by omega)]
      exact h2 e he hb
  · right
    refine ⟨h, fun k hk => ?_⟩
    have hst : o = st := by
      rw [h] at ho
      simp at ho
      exact ho.symm
    subst hst
    obtain ⟨e, he, hb, rfl⟩ := (lastB_st hB).2.1 k hk
    rw [← push_getD_lt listed false (by omega)]
    exact h2 e he hb
  · exfalso
    rw [List.getElem?_toArray, List.getElem?_eq_none (by simp; omega)] at ho
    cases ho
theorem ready_back {pre : List Oper} {st : Oper} (hB : lastB pre st = true) {listed : Array Bool} (hs : listed.size = pre.length) {i : Nat} (hi : i ∈ Region.ready .any pre.toArray listed) : i ∈ Region.ready .any (pre ++ [st]).toArray (listed.push false) := by
  obtain ⟨h1, o, ho, h2⟩ := mem_ready.1 hi
  have h : i < pre.length := by
    have := (List.getElem?_eq_some_iff.1 (show pre[i]? = some o by simpa using ho)).1
    exact this
  refine mem_ready.2 ⟨?_, o, ?_, fun e he hb => ?_⟩
  · rw [push_getD_lt listed true (by omega)]; exact h1
  · rw [ops_lt h]; exact ho
  · have hk : pre[i]? = some o := by simpa using ho
    have := (lastB_pre hB hk).2 e he hb
    rw [push_getD_lt listed false (by omega)]
    exact h2 e he hb
theorem ready_nil {pre : List Oper} {st : Oper} (hB : lastB pre st = true) {listed : Array Bool} (hs : listed.size = pre.length) (hr : Region.ready .any pre.toArray listed = []) : ∀ k, k < pre.length → listed.getD k false = true := by
  intro k
  induction k using Nat.strongRecOn with
  | ind k ih =>
    intro hk
    have hk' : k < listed.size := by omega
    cases hl : listed.getD k false with
    | true => rfl
    | false =>
      exfalso
      obtain ⟨o, ho⟩ : ∃ o, pre[k]? = some o := ⟨_, List.getElem?_eq_getElem hk⟩
      have : k ∈ Region.ready .any pre.toArray listed := by
        refine mem_ready.2 ⟨?_, o, by simpa using ho, fun e he hb => ?_⟩
        · rw [Array.getD_eq_getD_getElem?, Array.getElem?_eq_getElem hk'] at hl ⊢; exact hl
        · have := (lastB_pre hB ho).2 e he hb
          exact ih e.on this (by omega)
      rw [hr] at this
      cases this
theorem push_set (l : Array Bool) {i : Nat} (h : i < l.size) : (l.push false).setIfInBounds i true = (l.setIfInBounds i true).push false := by
  apply Array.ext_getElem?
  intro j
  rw [Array.getElem?_setIfInBounds, Array.getElem?_push, Array.getElem?_push, Array.getElem?_setIfInBounds]
  simp only [Array.size_push, Array.size_setIfInBounds]
  by_cases e : i = j
  · subst e
    have h3 : ¬ i = l.size := by omega
    have h4 : i < l.size + 1 := by omega
    simp [h, h3, h4]
  · simp [e]
theorem wpAny_done {P : Program} {ops : Array Oper} {Q' : Exit → Act → World → Prop} {listed : Array Bool} (hr : Region.ready .any ops listed = []) {a : Act} {w : World} (h : Q' .normal a w) : ∀ f, wpAny P .any ops Q' f listed a w
  | 0 => ⟨hr, h⟩
  | f + 1 => ⟨fun _ => h, fun i hi => by rw [hr] at hi; cases hi⟩
theorem wpAny_last {P : Program} {pre : List Oper} {st : Oper} {C : World → Prop} {Q : Act → Prop} {Q' : Exit → Act → World → Prop} (hB : lastB pre st = true)
    (hQ : ∀ a w, C w → Q a → st.wp P a w (fun a' w' => Q' .normal a' w') Q') : ∀ (fuel : Nat) (listed : Array Bool) (a : Act) (w : World), listed.size = pre.length → C w →
    wpAnyQ P .any pre.toArray C Q fuel listed a → wpAny P .any (pre ++ [st]).toArray Q' (fuel + 1) (listed.push false) a w := by
  have done : ∀ (fuel : Nat) (listed : Array Bool) (a : Act) (w : World), listed.size = pre.length → C w → (∀ k, k < pre.length → listed.getD k false = true) → Q a → wpAny P .any (pre ++ [st]).toArray Q' (fuel + 1) (listed.push false) a w := by
    intro fuel listed a w hs hC hall hq
    obtain ⟨g1, g2, g3⟩ := lastB_st hB
    have hrn : pre.length ∈ Region.ready .any (pre ++ [st]).toArray (listed.push false) := by
      refine mem_ready.2 ⟨?_, st, by simp, fun e he hb => ?_⟩
      · rw [← hs]; exact push_getD_eq _ _
      · have := g3 e he hb
        rw [push_getD_lt listed false (by omega)]
        exact hall _ this
    refine ⟨fun hr => (by rw [hr] at hrn; cases hrn), fun i hi => ?_⟩
    have hin : i = pre.length := by
      rcases ready_lt hB hs hi with ⟨h1, h2⟩ | ⟨h1, _⟩
      · exfalso
        obtain ⟨h3, _⟩ := mem_ready.1 h2
        have h4 := hall i h1
        rw [Array.getD_eq_getD_getElem?, Array.getElem?_eq_getElem (by omega)] at h3 h4
        simp at h3 h4
        rw [h4] at h3
        cases h3
      · exact h1
    subst hin
    unfold wpOp
    have hget : (pre ++ [st]).toArray[pre.length]? = some st := by simp
    rw [hget]
    simp only
    rw [if_pos (by unfold Region.wanted; rw [g1])]
    refine Or.inl (Oper.wp_mono (fun a' w' h => ?_) (hQ a w hC hq))
    refine wpAny_done ?_ h fuel
    cases hrr : Region.ready .any (pre ++ [st]).toArray ((listed.push false).setIfInBounds pre.length true) with
    | nil => rfl
    | cons j js =>
      exfalso
      have hj : j ∈ Region.ready .any (pre ++ [st]).toArray ((listed.push false).setIfInBounds pre.length true) := by rw [hrr]; exact List.mem_cons_self
      obtain ⟨h3, o, ho, _⟩ := mem_ready.1 hj
      have hj2 : j < (pre ++ [st]).length := by
        have := (List.getElem?_eq_some_iff.1 (show (pre ++ [st])[j]? = some o by simpa using ho)).1
        exact this
      rw [List.length_append, List.length_singleton] at hj2
      rw [Array.getD_eq_getD_getElem?, Array.getElem?_setIfInBounds] at h3
      by_cases e : pre.length = j
      · rw [if_pos e, if_pos (by rw [Array.size_push]; omega)] at h3
        cases h3
      · rw [if_neg e, Array.getElem?_push_lt (by omega)] at h3
        have h4 := hall j (by omega)
        rw [Array.getD_eq_getD_getElem?, Array.getElem?_eq_getElem (by omega)] at h4
        simp at h3 h4
        rw [h4] at h3
        cases h3
  intro fuel
  induction fuel with
  | zero =>
    intro listed a w hs hC h
    exact done 0 listed a w hs hC (ready_nil hB hs h.1) h.2
  | succ fuel ih =>
    intro listed a w hs hC h
    cases hr : Region.ready .any pre.toArray listed with
    | nil => exact done (fuel + 1) listed a w hs hC (ready_nil hB hs hr) (h.1 hr)
    | cons j js =>
      have hj : j ∈ Region.ready .any pre.toArray listed := by rw [hr]; exact List.mem_cons_self
      refine ⟨fun hn => (by have := ready_back (st := st) hB hs hj; rw [hn] at this; cases this), fun i hi => ?_⟩
      rcases ready_lt hB hs hi with ⟨h1, h2⟩ | ⟨_, h2⟩
      · have hq := h.2 i h2
        obtain ⟨o, ho⟩ : ∃ o, pre[i]? = some o := ⟨_, List.getElem?_eq_getElem h1⟩
        have hg := (lastB_pre hB ho).1
        unfold qOp at hq
        unfold wpOp
        rw [ops_lt h1]
        rw [show pre.toArray[i]? = some o by simpa using ho] at hq ⊢
        simp only at hq ⊢
        have hwt : ∀ y, Region.wanted o y = true := fun y => by unfold Region.wanted; rw [hg]
        rw [if_pos (hwt _)] at hq ⊢
        refine Or.inl (Oper.wp_of_quiet hC (fun a' w' hC' hk => ?_) hq)
        rw [push_set listed (by omega)]
        exact ih (listed.setIfInBounds i true) a' w' (by simpa using hs) hC' hk
      · exfalso
        obtain ⟨h3, o, ho, _⟩ := mem_ready.1 hj
        have hj2 : j < pre.length := (List.getElem?_eq_some_iff.1 (show pre[j]? = some o by simpa using ho)).1
        have h4 := h2 j hj2
        rw [Array.getD_eq_getD_getElem?, Array.getElem?_eq_getElem (by omega)] at h3 h4
        simp at h3 h4
        rw [h4] at h3
        cases h3
/-- The region's wp: the walk of all operations but the last, each quiet in the worlds that differ by new blocks; then the last one. -/
theorem wp_region_last {P : Program} {id : Nat} {R : Exit → Act → World → Prop} {a : Act} {w : World} {l : List Oper} (pre : List Oper) (st : Oper) (hl : l = pre ++ [st]) (hm : P.follows .mixedOrders = true) (hB : Region.lexB .any pre.toArray = true) (hL : lastB pre st = true)
    (h : wpQuiet P pre.toArray (fun w' => ∃ n : QW w, w' = n.x) (fun a' => ∀ (n : QW w) (K : Act → World → Prop), (∀ a'' w'', R .normal a'' w'' → K a'' w'') → st.wp P a' n.x K R) pre a) : (Code.region id l.toArray true).wp P R a w := by
  subst hl
  refine wp_region_any hm ?_
  have hq := wpAnyQ_lex (C := fun w' => ∃ n : QW w, w' = n.x) (md := .any) (by simp only [Region.lexB, Bool.and_eq_true] at hB; exact hB.1) pre 0 (Array.replicate pre.length false) a (by simp) (by simp only [Region.lexB, Bool.and_eq_true] at hB; simpa using hB.2) h
  have := wpAny_last (Q' := R) hL (fun a' w' hC hq => by obtain ⟨n, rfl⟩ := hC; exact hq n _ (fun _ _ h => h)) pre.length (Array.replicate pre.length false) a w.drew (by simp) ⟨⟨w.drew, (Q.refl w).drew⟩, rfl⟩ hq
  have e : (Array.replicate pre.length false).push false = Array.replicate (pre ++ [st]).toArray.size false := by
    rw [show (pre ++ [st]).toArray.size = pre.length + 1 by simp, Array.replicate_succ]
  rw [e] at this
  simpa using this
theorem wp_region_lastn {P : Program} {id : Nat} {R : Exit → Act → World → Prop} {a : Act} {w : World} {l : List Oper} (n : Nat) (hn : l.length = n + 1) (st : Oper) (hst : l[n]? = some st) (hm : P.follows .mixedOrders = true) (hB : Region.lexB .any (l.take n).toArray = true) (hL : lastB (l.take n) st = true)
    (h : wpQuiet P (l.take n).toArray (fun w' => ∃ n : QW w, w' = n.x) (fun a' => ∀ (n : QW w) (K : Act → World → Prop), (∀ a'' w'', R .normal a'' w'' → K a'' w'') → st.wp P a' n.x K R) (l.take n) a) : (Code.region id l.toArray true).wp P R a w := by
  refine wp_region_last (l.take n) st ?_ hm hB hL h
  have h1 : n < l.length := by omega
  have h2 : l[n] = st := by rw [List.getElem?_eq_getElem h1] at hst; injection hst
  rw [← h2, List.take_append_getElem h1, List.take_of_length_le (by omega)]
end Go.Proofs.YtkgojnjlfkijiaaGreat
