/- Plain facts: the reference's sums, products and quotients in binary64, made narrow, are those of samples. -/
import Derived.Test.YtkgojnjlfkijiaaGreatGf48b5115
import Derived.Test.YtkgojnjlfkijiaaGreatG42d4e526
import Derived.Test.YtkgojnjlfkijiaaGreatG14260c10
import Derived.Test.YtkgojnjlfkijiaaGreatG8c940e3f
namespace Go.Proofs.YtkgojnjlfkijiaaGreat
open Go.RowKit

/-- A datum, or none, as a number of the reference; as a word of binary64. -/
def optR : Option Ieee.Datum → RNum
  | none => .nan
  | some d => datumR d
def toldW : Option Ieee.Datum → Nat
  | none => 9221120237041090560
  | some (.nan ..) => 9221120237041090560
  | some d => Ieee.double.write d
theorem roundD_fin' (s : Bool) (n : Nat) (e : Int) : roundD (.fin s n e false) = Ieee.double.nearest s n e := by
  show Ieee.double.word s (rungOf Ieee.double (2 * n + 0) (e - 1)) = _
  rw [nearest_rung, Nat.add_zero]
  have := rung_scale Ieee.double n 1 (e - 1)
  rw [Nat.pow_one, Nat.mul_comm n 2] at this
  rw [this, show e - 1 + ((1 : Nat) : Int) = e by omega]
theorem roundD_opt (o : Option Ieee.Datum) : roundD (optR o) = toldW o := by
  cases o with
  | none => rfl
  | some d =>
    cases d with
    | nan s t => rfl
    | infinity s =>
      show Ieee.double.word s 9218868437227405312 = Ieee.double.word s Ieee.double.infRung
      rw [inf64]
    | number s m p => exact roundD_fin' s m p
theorem plusFin_datum (s t : Bool) (X Y : Nat) (b : Int) :
    plusFin s t X Y b = .fin (if (if s = true then -(X : Int) else X) + (if t = true then -(Y : Int) else Y) = 0 then s && t else decide ((if s = true then -(X : Int) else X) + (if t = true then -(Y : Int) else Y) < 0))
      ((if s = true then -(X : Int) else X) + (if t = true then -(Y : Int) else Y)).natAbs b false := by
  unfold plusFin
  by_cases h : s = t
  · subst h
    rw [if_pos rfl]
    cases s
    · simp only [Bool.false_eq_true, if_false]
      rw [show ((X : Int) + (Y : Int)).natAbs = X + Y by omega]
      by_cases h0 : (X : Int) + (Y : Int) = 0
      · rw [if_pos h0]; rfl
      · rw [if_neg h0, decide_eq_false (by omega)]
    · simp only [if_true]
      rw [show (-(X : Int) + -(Y : Int)).natAbs = X + Y by omega]
      by_cases h0 : -(X : Int) + -(Y : Int) = 0
      · rw [if_pos h0]; rfl
      · rw [if_neg h0, decide_eq_true (by omega)]
  · rw [if_neg h]
    cases s <;> cases t <;> simp only [Bool.false_eq_true, if_false, if_true]
    · exact absurd rfl h
    · by_cases hxy : X = Y
      · rw [if_pos hxy, if_pos (by omega : (X : Int) + -(Y : Int) = 0), show ((X : Int) + -(Y : Int)).natAbs = 0 by omega]; rfl
      · rw [if_neg hxy]
        by_cases hlt : Y < X
        · rw [if_pos hlt, if_neg (by omega : ¬ (X : Int) + -(Y : Int) = 0), decide_eq_false (by omega), show ((X : Int) + -(Y : Int)).natAbs = X - Y by omega]
        · rw [if_neg hlt, if_neg (by omega : ¬ (X : Int) + -(Y : Int) = 0), decide_eq_true (by omega), show ((X : Int) + -(Y : Int)).natAbs = Y - X by omega]
    · by_cases hxy : X = Y
      · rw [if_pos hxy, if_pos (by omega : -(X : Int) + (Y : Int) = 0), show (-(X : Int) + (Y : Int)).natAbs = 0 by omega]; rfl
      · rw [if_neg hxy]
        by_cases hlt : Y < X
        · rw [if_pos hlt, if_neg (by omega : ¬ -(X : Int) + (Y : Int) = 0), decide_eq_true (by omega), show (-(X : Int) + (Y : Int)).natAbs = X - Y by omega]
        · rw [if_neg hlt, if_neg (by omega : ¬ -(X : Int) + (Y : Int) = 0), decide_eq_false (by omega), show (-(X : Int) + (Y : Int)).natAbs = Y - X by omega]
    · exact absurd rfl h
theorem sum_opt (d d' : Ieee.Datum) : plusR (datumR d) (datumR d') = optR (d.sum d') := by
  cases d with
  | nan s t => cases d' <;> rfl
  | infinity s =>
    cases d' with
    | nan t f => rfl
    | infinity t =>
      show (if s = t then RNum.inf s else .nan) = optR (if s = t then some (.infinity s) else none)
      by_cases h : s = t
      · rw [if_pos h, if_pos h]; rfl
      · rw [if_neg h, if_neg h]; rfl
    | number t n j => rfl
  | number s m i =>
    cases d' with
    | nan t f => rfl
    | infinity t => rfl
    | number t n j =>
      show plusFin s t (m * 2 ^ (i - min i j).toNat) (n * 2 ^ (j - min i j).toNat) (min i j) = _
      rw [plusFin_datum, ← signed_eq, ← signed_eq]
      rfl
theorem times_opt (d d' : Ieee.Datum) : timesR (datumR d) (datumR d') = optR (d.product d') := by
  cases d with
  | nan s t => cases d' <;> rfl
  | infinity s =>
    cases d' with
    | nan t f => rfl
    | infinity t =>
      show RNum.inf (s != t) = RNum.inf (s ^^ t)
      rw [bne_xor]
    | number t n j =>
      show (if zeroB (.fin t n j false) = true then RNum.nan else .inf (s != t)) = optR (if n = 0 then none else some (Ieee.Datum.infinity (s ^^ t)))
      rw [zeroB_fin, bne_xor]
      by_cases h : n = 0
      · rw [if_pos h, decide_eq_true h, if_pos rfl]; rfl
      · rw [if_neg h, decide_eq_false h, if_neg (by decide)]; rfl
  | number s m i =>
    cases d' with
    | nan t f => rfl
    | infinity t =>
      show (if zeroB (.fin s m i false) = true then RNum.nan else .inf (s != t)) = optR (if m = 0 then none else some (Ieee.Datum.infinity (t ^^ s)))
      rw [zeroB_fin, bne_xor, Bool.xor_comm]
      by_cases h : m = 0
      · rw [if_pos h, decide_eq_true h, if_pos rfl]; rfl
      · rw [if_neg h, decide_eq_false h, if_neg (by decide)]; rfl
    | number t n j =>
      show RNum.fin (s != t) (m * n) (i + j) false = .fin (s ^^ t) (m * n) (i + j) false
      rw [bne_xor]

/-- What a sample, wide, is read as. -/
theorem wideW_cases (a : Nat) : (nanN a = true ∧ (Ieee.double.read (wideW a)).isNaN = true) ∨ (rung32 a = 2139095040 ∧ Ieee.double.read (wideW a) = .infinity (sgn32 a)) ∨
    (rung32 a < 2139095040 ∧ wideW a = wideN a ∧ ∃ M P, Ieee.double.read (wideW a) = .number (sgn32 a) M P ∧ -1074 ≤ P ∧ Ieee.signed (sgn32 a) M (P + 1074).toNat = sampleZ a) := by
  cases h : nanN a
  · have e : wideW a = wideN a := by unfold wideW; rw [h]; rfl
    have h' := h
    rw [nanN_rung] at h'
    have h' := of_decide_eq_false h'
    rcases Nat.lt_or_ge (rung32 a) 2139095040 with g | g
    · obtain ⟨r, s, v⟩ := wide_fin g
      refine Or.inr (Or.inr ⟨g, e, _, _, by rw [e, read_fin64 r, s], by omega, ?_⟩)
      rw [← s, signed_read, v]
    · exact Or.inr (Or.inl ⟨by omega, by rw [e]; exact wide_read_inf (by omega)⟩)
  · have e : wideW a = 9221120237041090560 := by unfold wideW; rw [h]; rfl
    exact Or.inl ⟨rfl, by rw [e]; decide⟩
theorem made_narrow : toldD (some (Ieee.double.read 9221120237041090560)) = 2143289344 := by decide +kernel
theorem sampleZ_lt {a : Nat} (h : rung32 a < 2139095040) : (sampleZ a).natAbs < 2 ^ capJ := by
  unfold sampleZ; rw [signed_abs]
  have := mag_lt32 (rung32 a)
  have hp : plc32 (rung32 a) ≤ 253 := plc_le32 h
  exact cap_units (e := 24) (by omega) (by omega)
/-- Finite sums. -/
theorem dbl_sum_fin {a b : Nat} {t : Bool} {M N : Nat} {P Q' : Int} (ha : rung32 a < 2139095040) (hb : rung32 b < 2139095040) (hP : -1074 ≤ P) (hQ : -1074 ≤ Q')
    (hX : Ieee.signed (sgn32 a) M (P + 1074).toNat = sampleZ a) (hY : Ieee.signed t N (Q' + 1074).toNat = Ieee.signed t (mag32 (rung32 b)) (plc32 (rung32 b) + 925)) :
    toldD (some (Ieee.double.read (toldW ((Ieee.Datum.number (sgn32 a) M P).sum (.number t N Q'))))) = toldD ((Ieee.Datum.number (sgn32 a) (mag32 (rung32 a)) (-149 + (plc32 (rung32 a) : Int))).sum (.number t (mag32 (rung32 b)) (-149 + (plc32 (rung32 b) : Int)))) := by
  obtain ⟨N1, b1, e1, e2⟩ := sum_units (sgn32 a) t M N P Q' hP hQ
  obtain ⟨N2, b2, f1, f2⟩ := sum_units (sgn32 a) t (mag32 (rung32 a)) (mag32 (rung32 b)) (-149 + (plc32 (rung32 a) : Int)) (-149 + (plc32 (rung32 b) : Int)) (by omega) (by omega)
  rw [hX, hY] at e1 e2
  rw [show (-149 + (plc32 (rung32 a) : Int) + 1074).toNat = plc32 (rung32 a) + 925 by omega, show (-149 + (plc32 (rung32 b) : Int) + 1074).toNat = plc32 (rung32 b) + 925 by omega] at f1 f2
  have hZe : sampleZ a + Ieee.signed t (mag32 (rung32 b)) (plc32 (rung32 b) + 925) = Ieee.signed (sgn32 a) (mag32 (rung32 a)) (plc32 (rung32 a) + 925) + Ieee.signed t (mag32 (rung32 b)) (plc32 (rung32 b) + 925) := rfl
  rw [hZe] at e1 e2
  rw [e1, f1, toldD_num, f2]
  obtain ⟨Z, hZ⟩ : ∃ Z, Z = (Ieee.signed (sgn32 a) (mag32 (rung32 a)) (plc32 (rung32 a) + 925) + Ieee.signed t (mag32 (rung32 b)) (plc32 (rung32 b) + 925)).natAbs := ⟨_, rfl⟩
  show toldD (some (Ieee.double.read (Ieee.double.nearest _ N1 b1))) = _
  rw [nearest_rung, e2, ← hZ]
  have l1 := sampleZ_lt ha
  have l2 : (Ieee.signed t (mag32 (rung32 b)) (plc32 (rung32 b) + 925)).natAbs < 2 ^ capJ := by
    have := sampleZ_lt hb
    unfold sampleZ at this
    rw [signed_abs] at this ⊢
    exact this
  have l1' : (Ieee.signed (sgn32 a) (mag32 (rung32 a)) (plc32 (rung32 a) + 925)).natAbs < 2 ^ capJ := l1
  exact told_twice (cap_log (by rw [hZ]; omega)) (fun hK hm => sum_mid (mag_lt32 _) (mag_lt32 _) (by omega) (by omega) hZ hK hm)
theorem add_dbl (a b : Nat) : toldD (some (Ieee.double.read (toldW ((Ieee.double.read (wideW a)).sum (Ieee.double.read (wideW b)))))) = toldD ((Ieee.single.read a).sum (Ieee.single.read b)) := by
  rcases wideW_cases a with ⟨h, e⟩ | ⟨h, e⟩ | ⟨h, _, M, P, e, hP, hX⟩
  · rw [sum_nan1 e, sum_nan1 (read32_nan h)]; exact made_narrow
  · rcases wideW_cases b with ⟨k, f⟩ | ⟨k, f⟩ | ⟨k, _, N, Q', f, hQ, hY⟩
    · rw [sum_nan2 f, sum_nan2 (read32_nan k)]; exact made_narrow
    · rw [e, f, read_inf32 h, read_inf32 k]
      show toldD (some (Ieee.double.read (toldW (if sgn32 a = sgn32 b then some (Ieee.Datum.infinity (sgn32 a)) else none)))) = toldD (if sgn32 a = sgn32 b then some (Ieee.Datum.infinity (sgn32 a)) else none)
      by_cases c : sgn32 a = sgn32 b
      · rw [if_pos c]
        show toldD (some (Ieee.double.read (Ieee.double.write (.infinity (sgn32 a))))) = _
        rw [write_inf, told_inf]
        show _ = Ieee.single.word (sgn32 a) Ieee.single.infRung
        rw [inf32]
      · rw [if_neg c]; exact made_narrow
    · rw [e, f, read_inf32 h, read_fin32 k]
      show toldD (some (Ieee.double.read (Ieee.double.write (.infinity (sgn32 a))))) = Ieee.single.word (sgn32 a) Ieee.single.infRung
      rw [write_inf, told_inf, inf32]
  · rcases wideW_cases b with ⟨k, f⟩ | ⟨k, f⟩ | ⟨k, _, N, Q', f, hQ, hY⟩
    · rw [sum_nan2 f, sum_nan2 (read32_nan k)]; exact made_narrow
    · rw [e, f, read_fin32 h, read_inf32 k]
      show toldD (some (Ieee.double.read (Ieee.double.write (.infinity (sgn32 b))))) = Ieee.single.word (sgn32 b) Ieee.single.infRung
      rw [write_inf, told_inf, inf32]
    · rw [e, f, read_fin32 h, read_fin32 k]
      exact dbl_sum_fin h k hP hQ hX hY
theorem sub_dbl (a b : Nat) : toldD (some (Ieee.double.read (toldW ((Ieee.double.read (wideW a)).sum (Ieee.double.read (wideW b)).opposite)))) = toldD ((Ieee.single.read a).sum (Ieee.single.read b).opposite) := by
  rcases wideW_cases a with ⟨h, e⟩ | ⟨h, e⟩ | ⟨h, _, M, P, e, hP, hX⟩
  · rw [sum_nan1 e, sum_nan1 (read32_nan h)]; exact made_narrow
  · rcases wideW_cases b with ⟨k, f⟩ | ⟨k, f⟩ | ⟨k, _, N, Q', f, hQ, hY⟩
    · rw [sum_nan2 (opp_nan f), sum_nan2 (opp_nan (read32_nan k))]; exact made_narrow
    · rw [e, f, read_inf32 h, read_inf32 k]
      show toldD (some (Ieee.double.read (toldW (if sgn32 a = !sgn32 b then some (Ieee.Datum.infinity (sgn32 a)) else none)))) = toldD (if sgn32 a = !sgn32 b then some (Ieee.Datum.infinity (sgn32 a)) else none)
      by_cases c : sgn32 a = !sgn32 b
      · rw [if_pos c]
        show toldD (some (Ieee.double.read (Ieee.double.write (.infinity (sgn32 a))))) = _
        rw [write_inf, told_inf]
        show _ = Ieee.single.word (sgn32 a) Ieee.single.infRung
        rw [inf32]
      · rw [if_neg c]; exact made_narrow
    · rw [e, f, read_inf32 h, read_fin32 k]
      show toldD (some (Ieee.double.read (Ieee.double.write (.infinity (sgn32 a))))) = Ieee.single.word (sgn32 a) Ieee.single.infRung
      rw [write_inf, told_inf, inf32]
  · rcases wideW_cases b with ⟨k, f⟩ | ⟨k, f⟩ | ⟨k, _, N, Q', f, hQ, hY⟩
    · rw [sum_nan2 (opp_nan f), sum_nan2 (opp_nan (read32_nan k))]; exact made_narrow
    · rw [e, f, read_fin32 h, read_inf32 k]
      show toldD (some (Ieee.double.read (Ieee.double.write (.infinity (!sgn32 b))))) = Ieee.single.word (!sgn32 b) Ieee.single.infRung
      rw [write_inf, told_inf, inf32]
    · rw [e, f, read_fin32 h, read_fin32 k]
      refine dbl_sum_fin h k hP hQ hX ?_
      rw [signed_neg, signed_neg, hY]; rfl
theorem mul_dbl (a b : Nat) : toldD (some (Ieee.double.read (toldW ((Ieee.double.read (wideW a)).product (Ieee.double.read (wideW b)))))) = toldD ((Ieee.single.read a).product (Ieee.single.read b)) := by
  rcases wideW_cases a with ⟨h, e⟩ | ⟨h, e⟩ | ⟨h, ea, M, P, e, hP, hX⟩
  · rw [product_nan1 e, product_nan1 (read32_nan h)]; exact made_narrow
  · rcases wideW_cases b with ⟨k, f⟩ | ⟨k, f⟩ | ⟨k, eb, N, Q', f, hQ, hY⟩
    · rw [product_nan2 f, product_nan2 (read32_nan k)]; exact made_narrow
    · rw [e, f, read_inf32 h, read_inf32 k]
      show toldD (some (Ieee.double.read (Ieee.double.write (.infinity (sgn32 a ^^ sgn32 b))))) = Ieee.single.word (sgn32 a ^^ sgn32 b) Ieee.single.infRung
      rw [write_inf, told_inf, inf32]
    · rw [e, eb, read_fin64 (wide_fin k).1, (wide_fin k).2.1, read_inf32 h, read_fin32 k]
      show toldD (some (Ieee.double.read (toldW (if mag64 (rung64 (wideN b)) = 0 then none else some (Ieee.Datum.infinity (sgn32 a ^^ sgn32 b)))))) = toldD (if mag32 (rung32 b) = 0 then none else some (Ieee.Datum.infinity (sgn32 a ^^ sgn32 b)))
      by_cases z : mag32 (rung32 b) = 0
      · rw [if_pos z, if_pos ((wide_mag_zero k).2 z)]; exact made_narrow
      · rw [if_neg z, if_neg (fun c => z ((wide_mag_zero k).1 c))]
        show toldD (some (Ieee.double.read (Ieee.double.write (.infinity (sgn32 a ^^ sgn32 b))))) = Ieee.single.word (sgn32 a ^^ sgn32 b) Ieee.single.infRung
        rw [write_inf, told_inf, inf32]
  · rcases wideW_cases b with ⟨k, f⟩ | ⟨k, f⟩ | ⟨k, eb, N, Q', f, hQ, hY⟩
    · rw [product_nan2 f, product_nan2 (read32_nan k)]; exact made_narrow
    · rw [f, ea, read_fin64 (wide_fin h).1, (wide_fin h).2.1, read_fin32 h, read_inf32 k]
      show toldD (some (Ieee.double.read (toldW (if mag64 (rung64 (wideN a)) = 0 then none else some (Ieee.Datum.infinity (sgn32 b ^^ sgn32 a)))))) = toldD (if mag32 (rung32 a) = 0 then none else some (Ieee.Datum.infinity (sgn32 b ^^ sgn32 a)))
      by_cases z : mag32 (rung32 a) = 0
      · rw [if_pos z, if_pos ((wide_mag_zero h).2 z)]; exact made_narrow
      · rw [if_neg z, if_neg (fun c => z ((wide_mag_zero h).1 c))]
        show toldD (some (Ieee.double.read (Ieee.double.write (.infinity (sgn32 b ^^ sgn32 a))))) = Ieee.single.word (sgn32 b ^^ sgn32 a) Ieee.single.infRung
        rw [write_inf, told_inf, inf32]
    · have hp := prod_units h k
      have hp' : ((Ieee.double.read (wideN a)).product (Ieee.double.read (wideN b))).map Ieee.double.write = some (wordOf (sgn32 a ^^ sgn32 b) (prodZ a b)) := hp
      rw [ea, eb]
      have pa := plc_le32 h
      have pb := plc_le32 k
      have hlt := prod_lt a b
      obtain ⟨u1, u2, u3⟩ := units_word (s := sgn32 a ^^ sgn32 b) (m := mag32 (rung32 a) * mag32 (rung32 b)) (k := plc32 (rung32 a) + plc32 (rung32 b) + 776) (by omega) (by omega)
      have u1 : rung64 (wordOf (sgn32 a ^^ sgn32 b) (prodZ a b)) < 9218868437227405312 := u1
      have u2 : sgn64 (wordOf (sgn32 a ^^ sgn32 b) (prodZ a b)) = (sgn32 a ^^ sgn32 b) := u2
      have u3 : sval64 (wordOf (sgn32 a ^^ sgn32 b) (prodZ a b)) = prodZ a b := u3
      cases hd : (Ieee.double.read (wideN a)).product (Ieee.double.read (wideN b)) with
      | none => rw [hd] at hp'; cases hp'
      | some d =>
        rw [hd] at hp'
        have hw : toldW (some d) = wordOf (sgn32 a ^^ sgn32 b) (prodZ a b) := by
          have : Ieee.double.write d = wordOf (sgn32 a ^^ sgn32 b) (prodZ a b) := by injection hp'
          rw [← this]
          have hn := product_num hd
          cases d with
          | nan s t => exact absurd hn (by simp [Ieee.Datum.isNaN])
          | infinity s => rfl
          | number s m p => rfl
        have hv := val_abs (wordOf (sgn32 a ^^ sgn32 b) (prodZ a b))
        have hpz : (prodZ a b).natAbs = mag32 (rung32 a) * mag32 (rung32 b) * 2 ^ (plc32 (rung32 a) + plc32 (rung32 b) + 776) := by unfold prodZ; rw [signed_abs]
        rw [u3, hpz] at hv
        rw [hw, read_fin64 u1, u2, toldD_num, rung_word64, ← hv, rung_scale, read_fin32 h, read_fin32 k]
        show _ = toldD (some (.number (sgn32 a ^^ sgn32 b) (mag32 (rung32 a) * mag32 (rung32 b)) (-149 + (plc32 (rung32 a) : Int) + (-149 + (plc32 (rung32 b) : Int)))))
        rw [toldD_num]
        refine congrArg (Ieee.single.word _) (congrArg (rungOf Ieee.single _) ?_)
        omega
end Go.Proofs.YtkgojnjlfkijiaaGreat
/- Plain facts: samples made whole by way of binary64; whole numbers as samples. -/
namespace Go.Proofs.YtkgojnjlfkijiaaGreat
open Go.RowKit

theorem frac32 : Ieee.single.fractionBits = 23 := rfl
/-- How many digits a number in least units loses. -/
def lostK32 (M : Nat) : Nat := M.log2 - 23
theorem kept_bd32 {M : Nat} : rne M (lostK32 M) ≤ 16777216 ∧ (0 < lostK32 M → 8388608 ≤ rne M (lostK32 M)) := by
  have e1 : lastOf Ieee.single M (-149) = -149 + (lostK32 M : Int) := by unfold lastOf lostK32; rw [least32, frac32]; omega
  have e3 : (-149 : Int) - (-149 + (lostK32 M : Int)) = -(lostK32 M : Int) := by omega
  have hk := kept_le Ieee.single M (-149)
  rw [e1, e3, rz_neg, binade32] at hk
  refine ⟨hk, fun h => ?_⟩
  have hM : M ≠ 0 := by intro h0; subst h0; exact absurd h (by decide)
  have := le_kept Ieee.single hM (-149) (by rw [e1, frac32]; unfold lostK32 at *; omega)
  rw [e1, e3, rz_neg, binade32] at this
  exact this
theorem rung32_eq {M : Nat} (hM : M.log2 ≤ 270) : rungOf Ieee.single M (-149) = lostK32 M * 8388608 + rne M (lostK32 M) := by
  by_cases h : M = 0
  · subst h
    rw [rungOf_zero, show lostK32 0 = 0 from by decide, rne_zero]
  · unfold rungOf
    rw [if_neg h]
    have e1 : lastOf Ieee.single M (-149) = -149 + (lostK32 M : Int) := by unfold lastOf lostK32; rw [least32, frac32]; omega
    have e2 : (-149 + (lostK32 M : Int) - -149).toNat = lostK32 M := by omega
    have e3 : (-149 : Int) - (-149 + (lostK32 M : Int)) = -(lostK32 M : Int) := by omega
    rw [e1, least32, binade32, inf32, e2, e3, rz_neg]
    have hk := (kept_bd32 (M := M)).1
    have hl : lostK32 M ≤ 247 := by unfold lostK32; omega
    rw [Nat.min_eq_left (by omega)]
theorem val_of32 {K c : Nat} (h : c ≤ 16777216) (h' : 0 < K → 8388608 ≤ c) : val32 (K * 8388608 + c) = c * 2 ^ K := by
  unfold val32 mag32
  rcases Nat.lt_or_ge c 16777216 with g | g
  · rcases Nat.lt_or_ge c 8388608 with k | k
    · have hK : K = 0 := by omega
      subst hK
      have e : plc32 (0 * 8388608 + c) = 0 := by unfold plc32; omega
      rw [e]; congr 1; omega
    · have e : plc32 (K * 8388608 + c) = K := by unfold plc32; omega
      rw [e]; congr 1; omega
  · have e : plc32 (K * 8388608 + c) = K + 1 := by unfold plc32; omega
    rw [e, Nat.pow_succ]
    have e2 : K * 8388608 + c - (K + 1) * 8388608 = 8388608 := by omega
    have e3 : c = 8388608 * 2 := by omega
    rw [e2, e3, Nat.mul_assoc, Nat.mul_comm (2 ^ K) 2]
theorem vN_eq32 {M : Nat} (hM : M.log2 ≤ 270) : val32 (rungOf Ieee.single M (-149)) = rne M (lostK32 M) * 2 ^ lostK32 M := by
  rw [rung32_eq hM, val_of32 kept_bd32.1 kept_bd32.2]
theorem vN_div32 {M : Nat} (hM : M.log2 ≤ 270) (h : 2 ^ lostK32 M ∣ M) : val32 (rungOf Ieee.single M (-149)) = M := by
  rw [vN_eq32 hM]
  obtain ⟨o, ho⟩ := h
  have : rne M (lostK32 M) = o := by
    have e := rne_exact o (lostK32 M)
    rw [Nat.mul_comm, ← ho] at e
    exact e
  rw [this, Nat.mul_comm, ← ho]
theorem vN_exact32 {M g : Nat} (hM : M.log2 ≤ 270) (hd : 2 ^ g ∣ M) (hb : M < 2 ^ (24 + g)) : val32 (rungOf Ieee.single M (-149)) = M := by
  by_cases h0 : M = 0
  · subst h0; rw [rungOf_zero]; exact val_zero32
  · refine vN_div32 hM ?_
    have hl := (Nat.log2_lt h0).2 hb
    exact Nat.dvd_trans (Nat.pow_dvd_pow 2 (by unfold lostK32; omega)) hd

theorem cut_down (neg : Bool) (n d : Nat) : Ieee.Toward.down.cut neg n d = n / 2 ^ d + (neg && decide (n % 2 ^ d ≠ 0)).toNat := by
  unfold Ieee.Toward.cut
  have h1 : n < 2 ^ (n.log2 + 1) := Nat.lt_log2_self
  show n / (1 <<< min d (n.log2 + 2)) + (neg && (n % (1 <<< min d (n.log2 + 2)) != 0)).toNat = _
  rw [Nat.shiftLeft_eq, Nat.one_mul]
  have hb : ∀ x : Nat, (x != 0) = decide (x ≠ 0) := by intro x; cases x <;> rfl
  rw [hb]
  rcases Nat.le_total d (n.log2 + 2) with h | h
  · rw [Nat.min_eq_left h]
  · rw [Nat.min_eq_right h]
    have h2 : 2 ^ (n.log2 + 1) ≤ 2 ^ (n.log2 + 2) := Nat.pow_le_pow_right (by decide) (by omega)
    have h3 : 2 ^ (n.log2 + 2) ≤ 2 ^ d := Nat.pow_le_pow_right (by decide) h
    rw [Nat.div_eq_of_lt (by omega), Nat.div_eq_of_lt (by omega), Nat.mod_eq_of_lt (by omega), Nat.mod_eq_of_lt (by omega)]
/-- Down or to the nearest: the value decides. -/
theorem cut_scale {way : Ieee.Toward} (hw : way = .down ∨ way = .even) (neg : Bool) (n d k : Nat) : way.cut neg (n * 2 ^ k) (d + k) = way.cut neg n d := by
  rcases hw with rfl | rfl
  · rw [cut_down, cut_down]
    have hk := Nat.two_pow_pos k
    have e1 : n * 2 ^ k / 2 ^ (d + k) = n / 2 ^ d := by rw [Nat.pow_add, Nat.mul_div_mul_right _ _ hk]
    have e2 : n * 2 ^ k % 2 ^ (d + k) = n % 2 ^ d * 2 ^ k := by rw [Nat.pow_add, Nat.mul_mod_mul_right]
    rw [e1, e2]
    congr 2
    congr 1
    rw [decide_eq_decide]
    constructor
    · intro h h0; rw [h0, Nat.zero_mul] at h; exact h rfl
    · intro h h0
      rcases Nat.mul_eq_zero.1 h0 with g | g
      · exact h g
      · omega
  · rw [cut_rne, cut_rne, rne_scale]
theorem cut_0 {way : Ieee.Toward} (hw : way = .down ∨ way = .even) (neg : Bool) (n : Nat) : way.cut neg n 0 = n := by
  rcases hw with rfl | rfl
  · rw [cut_down, Nat.pow_zero, Nat.div_one, Nat.mod_one]
    cases neg <;> rfl
  · rw [cut_rne, rne_zero]
theorem cut_le {way : Ieee.Toward} (hw : way = .down ∨ way = .even) (neg : Bool) (n d : Nat) : way.cut neg n d ≤ n / 2 ^ d + 1 := by
  rcases hw with rfl | rfl
  · rw [cut_down]
    have := Bool.toNat_lt (neg && decide (n % 2 ^ d ≠ 0))
    omega
  · rw [cut_rne]; unfold rne; split <;> omega

/-- A number made whole. -/
def wholeN (way : Ieee.Toward) (s : Bool) (m : Nat) (p : Int) : Nat := way.cut s (m <<< p.toNat) (-p).toNat
theorem wholeN_scale {way : Ieee.Toward} (hw : way = .down ∨ way = .even) (s : Bool) (m j : Nat) (p : Int) : wholeN way s (m * 2 ^ j) (p - j) = wholeN way s m p := by
  unfold wholeN
  rw [Nat.shiftLeft_eq, Nat.shiftLeft_eq]
  rcases Int.lt_or_le (p - j) 0 with h | h
  · rw [show (p - (j : Int)).toNat = 0 by omega, Nat.pow_zero, Nat.mul_one]
    rcases Int.lt_or_le p 0 with g | g
    · rw [show p.toNat = 0 by omega, Nat.pow_zero, Nat.mul_one, show (-(p - (j : Int))).toNat = (-p).toNat + j by omega, cut_scale hw]
    · obtain ⟨q, rfl⟩ := Int.eq_ofNat_of_zero_le g
      have e : m * 2 ^ j = m * 2 ^ q * 2 ^ (j - q) := by rw [Nat.mul_assoc, ← Nat.pow_add, show q + (j - q) = j by omega]
      rw [e, show (-((q : Int) - (j : Int))).toNat = 0 + (j - q) by omega, cut_scale hw, show ((q : Int)).toNat = q by omega, show (-(q : Int)).toNat = 0 by omega]
  · rw [show (-(p - (j : Int))).toNat = 0 by omega, show (-p).toNat = 0 by omega, cut_0 hw, cut_0 hw, Nat.mul_assoc, ← Nat.pow_add, show j + (p - (j : Int)).toNat = p.toNat by omega]
theorem wholeN_zero {way : Ieee.Toward} (hw : way = .down ∨ way = .even) (s : Bool) (p : Int) : wholeN way s 0 p = 0 := by
  unfold wholeN
  rw [Nat.shiftLeft_eq, Nat.zero_mul]
  rcases hw with rfl | rfl
  · rw [cut_down, Nat.zero_div, Nat.zero_mod]; cases s <;> rfl
  · rw [cut_rne]
    have := rne_exact 0 (-p).toNat
    rw [Nat.zero_mul] at this; exact this
/-- A finite sample, wide, made whole. -/
theorem integral_wide {way : Ieee.Toward} (hw : way = .down ∨ way = .even) {a : Nat} (h : rung32 a < 2139095040) :
    (Ieee.double.read (wideN a)).integral way = .number (sgn32 a) (wholeN way (sgn32 a) (mag32 (rung32 a)) (-149 + (plc32 (rung32 a) : Int))) 0 := by
  by_cases z : rung32 a = 0
  · rw [wide_zero z, read_word64, z, show mag32 0 = 0 from by decide, wholeN_zero hw]
    show Ieee.Datum.number (sgn32 a) (wholeN way (sgn32 a) 0 (-1074)) 0 = _
    rw [wholeN_zero hw]
  · obtain ⟨L, hL, m0, m1, e, hp⟩ := wide_wd z h
    have b0 : 4503599627370496 ≤ mag32 (rung32 a) * 2 ^ (52 - L) := by
      have := Nat.mul_le_mul_right (2 ^ (52 - L)) m0
      rw [← Nat.pow_add, show L + (52 - L) = 52 by omega] at this
      exact this
    have b1 : mag32 (rung32 a) * 2 ^ (52 - L) < 9007199254740992 := by
      have := Nat.mul_lt_mul_of_pos_right m1 (Nat.two_pow_pos (52 - L))
      rw [← Nat.pow_add, show L + 1 + (52 - L) = 53 by omega] at this
      exact this
    rw [e, read_wd b0 b1 (by omega) (by omega)]
    show Ieee.Datum.number (sgn32 a) (wholeN way (sgn32 a) (mag32 (rung32 a) * 2 ^ (52 - L)) (-149 + (plc32 (rung32 a) : Int) + L - 52)) 0 = _
    have := wholeN_scale hw (sgn32 a) (mag32 (rung32 a)) (52 - L) (-149 + (plc32 (rung32 a) : Int))
    rw [show -149 + (plc32 (rung32 a) : Int) - ((52 - L : Nat) : Int) = -149 + (plc32 (rung32 a) : Int) + L - 52 by omega] at this
    rw [this]
/-- What a whole number is as a word, and that word as a whole number. -/
theorem whole_word {s : Bool} {N o k : Nat} (hN : N = o * 2 ^ k) (ho : o < 2 ^ 53) (hk : k ≤ 200) :
    Ieee.double.write (.number s N 0) = wordOf s (Ieee.signed s o (k + 1074)) ∧ rung64 (Ieee.double.write (.number s N 0)) < 9218868437227405312 ∧ sgn64 (Ieee.double.write (.number s N 0)) = s ∧
      ∃ E : Nat, E = 1074 ∧ sval64 (Ieee.double.write (.number s N 0)) = Ieee.signed s N E := by
  obtain ⟨E, hE⟩ : ∃ E : Nat, E = 1074 := ⟨_, rfl⟩
  have e1 : Ieee.double.write (.number s N 0) = wordOf s (Ieee.signed s o (k + 1074)) := by
    show Ieee.double.nearest s N 0 = _
    rw [nearest_rung]
    unfold wordOf
    rw [signed_abs, ← hE, Nat.pow_add, ← Nat.mul_assoc, ← hN, rung_scale, show (-1074 : Int) + (E : Int) = 0 by omega]
  obtain ⟨a, b, c⟩ := units_word (s := s) (m := o) (k := k + 1074) ho (by omega)
  rw [e1]
  refine ⟨rfl, a, b, E, hE, ?_⟩
  rw [c, ← hE]
  unfold Ieee.signed
  rw [Nat.shiftLeft_eq, Nat.shiftLeft_eq, hN, Nat.pow_add, ← Nat.mul_assoc]
theorem trunc_whole {x N E : Nat} {s : Bool} (hx : rung64 x < 9218868437227405312) (hs : sgn64 x = s) (hE : E = 1074) (hv : sval64 x = Ieee.signed s N E) : truncV x = Ieee.signed s N 0 := by
  rw [(trunc_fin hx).2, hs]
  have hval : mag64 (rung64 x) * 2 ^ plc64 (rung64 x) = N * 2 ^ E := by
    have := val_abs x
    rw [hv, signed_abs] at this
    exact this.symm
  have key : mag64 (rung64 x) * 2 ^ (-1074 + (plc64 (rung64 x) : Int)).toNat / 2 ^ (-(-1074 + (plc64 (rung64 x) : Int))).toNat = N := by
    rcases Nat.le_total E (plc64 (rung64 x)) with g | g
    · rw [show (-1074 + (plc64 (rung64 x) : Int)).toNat = plc64 (rung64 x) - E by omega, show (-(-1074 + (plc64 (rung64 x) : Int))).toNat = 0 by omega, Nat.pow_zero, Nat.div_one]
      have : mag64 (rung64 x) * 2 ^ (plc64 (rung64 x) - E) * 2 ^ E = N * 2 ^ E := by
        rw [Nat.mul_assoc, ← Nat.pow_add, show plc64 (rung64 x) - E + E = plc64 (rung64 x) by omega]; exact hval
      exact Nat.eq_of_mul_eq_mul_right (Nat.two_pow_pos E) this
    · rw [show (-1074 + (plc64 (rung64 x) : Int)).toNat = 0 by omega, Nat.pow_zero, Nat.mul_one, show (-(-1074 + (plc64 (rung64 x) : Int))).toNat = E - plc64 (rung64 x) by omega]
      have : mag64 (rung64 x) * 2 ^ plc64 (rung64 x) = N * 2 ^ (E - plc64 (rung64 x)) * 2 ^ plc64 (rung64 x) := by
        rw [Nat.mul_assoc N, ← Nat.pow_add, show E - plc64 (rung64 x) + plc64 (rung64 x) = E by omega]; exact hval
      have := Nat.eq_of_mul_eq_mul_right (Nat.two_pow_pos _) this
      rw [this, Nat.mul_div_cancel _ (Nat.two_pow_pos _)]
  rw [key]
theorem in_whole {x N E : Nat} {s : Bool} (hx : rung64 x < 9218868437227405312) (hE : E = 1074) (hv : sval64 x = Ieee.signed s N E) :
    inWhole x = decide (-9223372036854775808 ≤ Ieee.signed s N 0 ∧ Ieee.signed s N 0 < 9223372036854775808) := by
  have hn : nan64 x = false := by rw [nan64_rung]; exact decide_eq_false (by omega)
  have hp : (0 : Int) < 2 ^ E := Int.pow_pos (by decide)
  have e0 : sval64 x = Ieee.signed s N 0 * 2 ^ E := by
    rw [hv, signed_shift]
    unfold Ieee.signed
    rw [Nat.shiftLeft_eq, Nat.shiftLeft_zero, Nat.zero_add]
  have c1 : sval64 4890909195324358656 = 9223372036854775808 * 2 ^ E := by
    unfold sval64 val64
    rw [show sgn64 4890909195324358656 = false from by decide, show rung64 4890909195324358656 = 4890909195324358656 from by decide, show mag64 4890909195324358656 = 4503599627370496 from by decide, show plc64 4890909195324358656 = 11 + E from by rw [hE]; decide, Nat.pow_add]
    simp only [Bool.false_eq_true, if_false]
    rw [← Nat.mul_assoc, show (4503599627370496 * 2 ^ 11 : Nat) = 9223372036854775808 from rfl, Int.natCast_mul, Int.natCast_pow]
    rfl
  have c2 : sval64 14114281232179134464 = -9223372036854775808 * 2 ^ E := by
    unfold sval64 val64
    rw [show sgn64 14114281232179134464 = true from by decide, show rung64 14114281232179134464 = 4890909195324358656 from by decide, show mag64 4890909195324358656 = 4503599627370496 from by decide, show plc64 4890909195324358656 = 11 + E from by rw [hE]; decide, Nat.pow_add]
    simp only [if_true]
    rw [← Nat.mul_assoc, Int.neg_mul, show (4503599627370496 * 2 ^ 11 : Nat) = 9223372036854775808 from rfl, Int.natCast_mul, Int.natCast_pow]
    rfl
  have k1 := sval_srung64 x 4890909195324358656
  have k2 := sval_srung64 x 14114281232179134464
  rw [whole_hi, c1, e0, cmp_scale hp] at k1
  rw [whole_lo, c2, e0, cmp_scale hp] at k2
  have l1 : srung64 x < 4890909195324358656 ↔ Ieee.signed s N 0 < 9223372036854775808 := by rw [← Int.compare_eq_lt, ← Int.compare_eq_lt, k1]
  have l2 : srung64 x < -4890909195324358656 ↔ Ieee.signed s N 0 < -9223372036854775808 := by rw [← Int.compare_eq_lt, ← Int.compare_eq_lt, k2]
  unfold inWhole
  rw [hn, Bool.not_false, Bool.true_and, ← Bool.decide_and, decide_eq_decide]
  omega
/-- What Floor and Nearest tell of a finite sample. -/
theorem flo_fin {way : Ieee.Toward} (hw : way = .down ∨ way = .even) {a : Nat} (h : rung32 a < 2139095040) :
    ∃ V, V = Ieee.signed (sgn32 a) (wholeN way (sgn32 a) (mag32 (rung32 a)) (-149 + (plc32 (rung32 a) : Int))) 0 ∧
      floI way a = (if -9223372036854775808 ≤ V ∧ V < 9223372036854775808 then V else 0) ∧ floE way a = (if -9223372036854775808 ≤ V ∧ V < 9223372036854775808 then 0 else 20) := by
  obtain ⟨N, hN⟩ : ∃ N, N = wholeN way (sgn32 a) (mag32 (rung32 a)) (-149 + (plc32 (rung32 a) : Int)) := ⟨_, rfl⟩
  have hm := mag_lt32 (rung32 a)
  have hp := plc_le32 h
  have hf : ∃ o k, N = o * 2 ^ k ∧ o < 2 ^ 53 ∧ k ≤ 200 := by
    rcases Int.lt_or_le (-149 + (plc32 (rung32 a) : Int)) 0 with g | g
    · refine ⟨N, 0, by rw [Nat.pow_zero, Nat.mul_one], ?_, by omega⟩
      rw [hN]
      unfold wholeN
      have := cut_le hw (sgn32 a) (mag32 (rung32 a) <<< (-149 + (plc32 (rung32 a) : Int)).toNat) (-(-149 + (plc32 (rung32 a) : Int))).toNat
      have k1 : mag32 (rung32 a) <<< (-149 + (plc32 (rung32 a) : Int)).toNat = mag32 (rung32 a) := by
        rw [show (-149 + (plc32 (rung32 a) : Int)).toNat = 0 by omega, Nat.shiftLeft_zero]
      rw [k1] at this ⊢
      have k2 := Nat.div_le_self (mag32 (rung32 a)) (2 ^ (-(-149 + (plc32 (rung32 a) : Int))).toNat)
      omega
    · refine ⟨mag32 (rung32 a), (-149 + (plc32 (rung32 a) : Int)).toNat, ?_, by omega, by omega⟩
      rw [hN]
      unfold wholeN
      rw [show (-(-149 + (plc32 (rung32 a) : Int))).toNat = 0 by omega, cut_0 hw, Nat.shiftLeft_eq]
  obtain ⟨o, k, e1, e2, e3⟩ := hf
  obtain ⟨w1, w2, w3, E, w4, w5⟩ := whole_word (s := sgn32 a) e1 e2 e3
  have hfl : flD way (wideN a) = Ieee.double.write (.number (sgn32 a) N 0) := by
    unfold flD; rw [integral_wide hw h, hN]
  have hnn := fin_num h
  refine ⟨_, rfl, ?_, ?_⟩
  · unfold floI wholeI
    rw [hnn, if_neg (by decide), hfl, in_whole w2 w4 w5, trunc_whole w2 w3 w4 w5, ← hN]
    simp only [decide_eq_true_eq]
  · unfold floE wholeE
    rw [hnn, if_neg (by decide), hfl, in_whole w2 w4 w5, ← hN]
    simp only [decide_eq_true_eq]
theorem flo_inf {way : Ieee.Toward} {a : Nat} (h : rung32 a = 2139095040) : floI way a = 0 ∧ floE way a = 20 := by
  have e : flD way (wideN a) = Ieee.double.word (sgn32 a) 9218868437227405312 := by
    unfold flD
    rw [wide_read_inf h]
    show Ieee.double.write (.infinity (sgn32 a)) = _
    rw [write_inf]
  have hi : inWhole (Ieee.double.word (sgn32 a) 9218868437227405312) = false := by
    cases sgn32 a <;> decide
  unfold floI floE wholeI wholeE
  rw [inf_num h, e, hi]
  exact ⟨rfl, rfl⟩
theorem flo_nan {way : Ieee.Toward} {a : Nat} (h : nanN a = true) : floI way a = 0 ∧ floE way a = 20 := by
  unfold floI floE; rw [h]; exact ⟨rfl, rfl⟩
end Go.Proofs.YtkgojnjlfkijiaaGreat
/- What the reference's Wide and Narrow return. -/
namespace Go.Proofs.YtkgojnjlfkijiaaGreat
open Go.RowKit

theorem numOf_fitsD (a : Nat) : fitsD (numOf Ieee.single a) := by
  rw [numOf_datum]
  cases h : nanN a
  · rcases cases32 h with g | g
    · rw [read_fin32 g]
      have := mag_lt32 (rung32 a)
      have hp := plc_le32 g
      exact ⟨by have := blen_le (n := mag32 (rung32 a)) (k := 24) this; omega, by omega, by omega, fun h => by cases h⟩
    · rw [read_inf32 g]; exact trivial
  · obtain ⟨s, t, e⟩ := isNaN_cases (read32_nan h)
    rw [e]; exact trivial
theorem roundD_fin (s : Bool) (n : Nat) (e : Int) : roundD (.fin s n e false) = Ieee.double.nearest s n e := by
  show Ieee.double.word s (rungOf Ieee.double (2 * n + 0) (e - 1)) = _
  rw [nearest_rung, Nat.add_zero]
  have := rung_scale Ieee.double n 1 (e - 1)
  rw [Nat.pow_one, Nat.mul_comm n 2] at this
  rw [this, show e - 1 + ((1 : Nat) : Int) = e by omega]
theorem wide_told (a : Nat) : roundD (numOf Ieee.single a) = wideW a := by
  rw [numOf_datum]
  unfold wideW wideN
  cases h : nanN a
  · rw [if_neg (by decide)]
    rcases cases32 h with g | g
    · rw [read_fin32 g]; exact roundD_fin _ _ _
    · rw [read_inf32 g]
      show Ieee.double.word _ 9218868437227405312 = Ieee.double.word _ Ieee.double.infRung
      rw [inf64]
  · obtain ⟨s, t, e⟩ := isNaN_cases (read32_nan h)
    rw [e, if_pos rfl]; rfl
theorem numOf_fits64 (x : Nat) : fits (numOf Ieee.double x) := by
  rw [numOf_datum]
  cases h : nan64 x
  · rw [nan64_rung] at h
    have h := of_decide_eq_false h
    rcases Nat.lt_or_ge (rung64 x) 9218868437227405312 with g | g
    · rw [read_fin64 g]
      have := mag_lt64 (rung64 x)
      have hp : plc64 (rung64 x) ≤ 2046 := by unfold plc64; omega
      exact ⟨by have := blen_le (n := mag64 (rung64 x)) (k := 53) this; omega, by omega, by omega, fun h => by cases h⟩
    · rw [read_inf64 (by omega)]; exact trivial
  · obtain ⟨s, t, e⟩ := isNaN_cases (read64_nan h)
    rw [e]; exact trivial
theorem narrow_told (x : Nat) : roundR (numOf Ieee.double x) = toldD (some (Ieee.double.read x)) := by
  rw [numOf_datum]
  cases h : Ieee.double.read x with
  | nan s t => rfl
  | infinity s =>
    show Ieee.single.word s 2139095040 = Ieee.single.word s Ieee.single.infRung
    rw [inf32]
  | number s m p => exact roundR_fin s m p

set_option maxHeartbeats 2000000 in
theorem rnarrow_any (x : Nat) (hx : x < 18446744073709551616) (w : World) : Calls Tryz.prog 62 #[.int .u64 x] w fun e w' => e = .returned (.int .u32 (toldD (some (Ieee.double.read x)) : Nat)) ∧ Q w w' := by
  rw [← narrow_told]
  have HF : Hid _ := numOf_fits64 x
  go_enter Tryz.func62, Tryz.ntmps62
  go_wp2_with fail
  refine (f64_any _).mono ?_
  rintro e w1 ⟨rfl, q1⟩
  go_wp2_with fail
  refine (of64_any x _ hx).mono ?_
  rintro e w2 ⟨v2, rfl, hv2, q2⟩
  have HV : Hid _ := hv2
  clear hv2
  go_wp2_with fail
  refine (rbits_any v2 _ _ HV.out HF.out).mono ?_
  rintro e w3 ⟨rfl, q3⟩
  go_wp2_with fail
  go_ret
  exact ⟨rfl, (q1.trans q2).trans q3⟩
end Go.Proofs.YtkgojnjlfkijiaaGreat
/- Words of binary64 as numbers of the document: sums. -/
namespace Go.Proofs.YtkgojnjlfkijiaaGreat
open Go.RowKit
set_option linter.unusedVariables false

theorem told64_eq (o : Option Ieee.Datum) : told64 o = toldW o := by
  cases o with
  | none => rfl
  | some d => cases d <;> rfl
/-- Numbers of binary64. -/
def dblR : RNum → Prop
  | ⟨some (.inr (_, n, e, m))⟩ => n < 9007199254740992 ∧ -1074 ≤ e ∧ e ≤ 1000 ∧ m = false
  | _ => True
theorem dblR_of (a : Nat) : dblR (numOf Ieee.double a) := by
  rw [numOf_datum]
  rcases Nat.lt_trichotomy (rung64 a) 9218868437227405312 with h | h | h
  · rw [read_fin64 h]
    have hp : plc64 (rung64 a) ≤ 2045 := by unfold plc64; omega
    exact ⟨mag_lt64 _, by omega, by omega, rfl⟩
  · rw [read_inf64 h]; exact trivial
  · rw [read_nan64 h]; exact trivial
theorem dblR_small {x : RNum} (h : dblR x) : small x := by
  cases x using RNum.rec3 with
  | nan => exact trivial
  | inf s => exact trivial
  | fin s n e m =>
    obtain ⟨h1, h2, h3, h4⟩ := h
    exact ⟨Nat.le_trans (blen_le (k := 53) h1) (by decide), by omega, by omega⟩
theorem dbl_fits {x y : RNum} (hx : dblR x) (hy : dblR y) : fitsD (plusR x y) := by
  cases x using RNum.rec3 with
  | nan => exact trivial
  | inf s =>
    cases y using RNum.rec3 with
    | nan => exact trivial
    | inf t => show fitsD (if s = t then .inf s else .nan); split <;> exact trivial
    | fin t k f g => exact trivial
  | fin s n e m =>
    cases y using RNum.rec3 with
    | nan => exact trivial
    | inf t => exact trivial
    | fin t k f g =>
      obtain ⟨a1, a2, a3, rfl⟩ := hx
      obtain ⟨b1, b2, b3, rfl⟩ := hy
      have hX : n * 2 ^ (e - min e f).toNat < 2 ^ 2500 := shifted_lt (k := 2500) n _ (by have := blen_le (k := 53) a1; omega)
      have hY : k * 2 ^ (f - min e f).toNat < 2 ^ 2500 := shifted_lt (k := 2500) k _ (by have := blen_le (k := 53) b1; omega)
      show fitsD (plusFin s t (n * 2 ^ (e - min e f).toNat) (k * 2 ^ (f - min e f).toNat) (min e f))
      obtain ⟨j, hj⟩ : ∃ j : Nat, j = 2500 := ⟨_, rfl⟩
      rw [← hj] at hX hY
      generalize n * 2 ^ (e - min e f).toNat = X at hX
      generalize k * 2 ^ (f - min e f).toNat = Y at hY
      have key : ∀ (σ : Bool) (Z : Nat), Z < 2 ^ (j + 1) → fitsD (.fin σ Z (min e f) false) := fun σ Z hZ => ⟨Nat.le_trans (blen_le hZ) (by omega), by omega, by omega, fun h => by cases h⟩
      have e2 : 2 ^ (j + 1) = 2 * 2 ^ j := by rw [Nat.pow_succ, Nat.mul_comm]
      unfold plusFin
      rw [e2] at key
      generalize 2 ^ j = G at *
      split
      · exact key _ _ (by omega)
      · split
        · exact key _ _ (by omega)
        · split
          · exact key _ _ (by omega)
          · exact key _ _ (by omega)
theorem add64_told (a b : Nat) : roundD (plusR (numOf Ieee.double a) (numOf Ieee.double b)) = add64V a b := by
  rw [numOf_datum, numOf_datum, sum_opt, roundD_opt]
  exact (told64_eq _).symm
theorem add64V_lt (a b : Nat) : add64V a b < 18446744073709551616 := by
  unfold add64V
  cases h : (Ieee.double.read a).sum (Ieee.double.read b) with
  | none => decide
  | some d =>
    cases d with
    | nan s t => show 9221120237041090560 < _; decide
    | infinity s => rw [told64_some rfl]; exact write64_lt _
    | number s m p => rw [told64_some rfl]; exact write64_lt _
end Go.Proofs.YtkgojnjlfkijiaaGreat
