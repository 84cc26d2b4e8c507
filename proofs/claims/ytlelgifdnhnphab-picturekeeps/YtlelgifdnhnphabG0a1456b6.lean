/- Plain facts: the reference's sums, products and quotients in binary64, made narrow, are those of samples. -/
import Derived.Test.YtlelgifdnhnphabG08fa02bb
namespace Go.Proofs.Ytlelgifdnhnphab
open Go.RowKit

/-- A datum, or none, as a number of the reference; as a word of binary64. -/
def optR : Option Ieee.Datum → RNum
  | none => .nan
  | some d => datumR d
def toldW : Option Ieee.Datum → Nat
  | none => 9221120237041090560
  | some (.nan ..) => 9221120237041090560
  | some d => Ieee.double.write d
theorem roundD_fin' (s : Bool) (n : Nat) (e : Int) : roundD (.fin s n e false) = Ieee.double.nearest s n e := by
  show Ieee.double.word s (rungOf Ieee.double (2 * n + 0) (e - 1)) = _
  rw [nearest_rung, Nat.add_zero]
  have := rung_scale Ieee.double n 1 (e - 1)
  rw [Nat.pow_one, Nat.mul_comm n 2] at this
  rw [this, show e - 1 + ((1 : Nat) : Int) = e by omega]
theorem roundD_opt (o : Option Ieee.Datum) : roundD (optR o) = toldW o := by
  cases o with
  | none => rfl
  | some d =>
    cases d with
    | nan s t => rfl
    | infinity s =>
      show Ieee.double.word s 9218868437227405312 = Ieee.double.word s Ieee.double.infRung
      rw [inf64]
    | number s m p => exact roundD_fin' s m p
theorem plusFin_datum (s t : Bool) (X Y : Nat) (b : Int) :
    plusFin s t X Y b = .fin (if (if s = true then -(X : Int) else X) + (if t = true then -(Y : Int) else Y) = 0 then s && t else decide ((if s = true then -(X : Int) else X) + (if t = true then -(Y : Int) else Y) < 0))
      ((if s = true then -(X : Int) else X) + (if t = true then -(Y : Int) else Y)).natAbs b false := by
  unfold plusFin
  by_cases h : s = t
  · subst h
    rw [if_pos rfl]
    cases s
    · simp only [Bool.false_eq_true, if_false]
      rw [show ((X : Int) + (Y : Int)).natAbs = X + Y by omega]
      by_cases h0 : (X : Int) + (Y : Int) = 0
      · rw [if_pos h0]; rfl
      · rw [if_neg h0, decide_eq_false (by omega)]
    · simp only [if_true]
      rw [show (-(X : Int) + -(Y : Int)).natAbs = X + Y by omega]
      by_cases h0 : -(X : Int) + -(Y : Int) = 0
      · rw [if_pos h0]; rfl
      · rw [if_neg h0, decide_eq_true (by omega)]
  · rw [if_neg h]
    cases s <;> cases t <;> simp only [Bool.false_eq_true, if_false, if_true]
    · exact absurd rfl h
    · by_cases hxy : X = Y
      · rw [if_pos hxy, if_pos (by omega : (X : Int) + -(Y : Int) = 0), show ((X : Int) + -(Y : Int)).natAbs = 0 by omega]; rfl
      · rw [if_neg hxy]
        by_cases hlt : Y < X
        · rw [if_pos hlt, if_neg (by omega : ¬ (X : Int) + -(Y : Int) = 0), decide_eq_false (by omega), show ((X : Int) + -(Y : Int)).natAbs = X - Y by omega]
        · rw [if_neg hlt, if_neg (by omega : ¬ (X : Int) + -(Y : Int) = 0), decide_eq_true (by omega), show ((X : Int) + -(Y : Int)).natAbs = Y - X by omega]
    · by_cases hxy : X = Y
      · rw [if_pos hxy, if_pos (by omega : -(X : Int) + (Y : Int) = 0), show (-(X : Int) + (Y : Int)).natAbs = 0 by omega]; rfl
      · rw [if_neg hxy]
        by_cases hlt : Y < X
        · rw [if_pos hlt, if_neg (by omega : ¬ -(X : Int) + (Y : Int) = 0), decide_eq_true (by omega), show (-(X : Int) + (Y : Int)).natAbs = X - Y by omega]
        · rw [if_neg hlt, if_neg (by omega : ¬ -(X : Int) + (Y : Int) = 0), decide_eq_false (by omega), show (-(X : Int) + (Y : Int)).natAbs = Y - X by omega]
    · exact absurd rfl h
theorem sum_opt (d d' : Ieee.Datum) : plusR (datumR d) (datumR d') = optR (d.sum d') := by
  cases d with
  | nan s t => cases d' <;> rfl
  | infinity s =>
    cases d' with
    | nan t f => rfl
    | infinity t =>
      show (if s = t then RNum.inf s else .nan) = optR (if s = t then some (.infinity s) else none)
      by_cases h : s = t
      · rw [if_pos h, if_pos h]; rfl
      · rw [if_neg h, if_neg h]; rfl
    | number t n j => rfl
  | number s m i =>
    cases d' with
    | nan t f => rfl
    | infinity t => rfl
    | number t n j =>
      show plusFin s t (m * 2 ^ (i - min i j).toNat) (n * 2 ^ (j - min i j).toNat) (min i j) = _
      rw [plusFin_datum, ← signed_eq, ← signed_eq]
      rfl
theorem times_opt (d d' : Ieee.Datum) : timesR (datumR d) (datumR d') = optR (d.product d') := by
  cases d with
  | nan s t => cases d' <;> rfl
  | infinity s =>
    cases d' with
    | nan t f => rfl
    | infinity t =>
      show RNum.inf (s != t) = RNum.inf (s ^^ t)
      rw [bne_xor]
    | number t n j =>
      show (if zeroB (.fin t n j false) = true then RNum.nan else .inf (s != t)) = optR (if n = 0 then none else some (Ieee.Datum.infinity (s ^^ t)))
      rw [zeroB_fin, bne_xor]
      by_cases h : n = 0
      · rw [if_pos h, decide_eq_true h, if_pos rfl]; rfl
      · rw [if_neg h, decide_eq_false h, if_neg (by decide)]; rfl
  | number s m i =>
    cases d' with
    | nan t f => rfl
    | infinity t =>
      show (if zeroB (.fin s m i false) = true then RNum.nan else .inf (s != t)) = optR (if m = 0 then none else some (Ieee.Datum.infinity (t ^^ s)))
      rw [zeroB_fin, bne_xor, Bool.xor_comm]
      by_cases h : m = 0
      · rw [if_pos h, decide_eq_true h, if_pos rfl]; rfl
      · rw [if_neg h, decide_eq_false h, if_neg (by decide)]; rfl
    | number t n j =>
      show RNum.fin (s != t) (m * n) (i + j) false = .fin (s ^^ t) (m * n) (i + j) false
      rw [bne_xor]

/-- What a sample, wide, is read as. -/
theorem wideW_cases (a : Nat) : (nanN a = true ∧ (Ieee.double.read (wideW a)).isNaN = true) ∨ (rung32 a = 2139095040 ∧ Ieee.double.read (wideW a) = .infinity (sgn32 a)) ∨
    (rung32 a < 2139095040 ∧ wideW a = wideN a ∧ ∃ M P, Ieee.double.read (wideW a) = .number (sgn32 a) M P ∧ -1074 ≤ P ∧ Ieee.signed (sgn32 a) M (P + 1074).toNat = sampleZ a) := by
  cases h : nanN a
  · have e : wideW a = wideN a := by unfold wideW; rw [h]; rfl
    have h' := h
    rw [nanN_rung] at h'
    have h' := of_decide_eq_false h'
    rcases Nat.lt_or_ge (rung32 a) 2139095040 with g | g
    · obtain ⟨r, s, v⟩ := wide_fin g
      refine Or.inr (Or.inr ⟨g, e, _, _, by rw [e, read_fin64 r, s], by omega, ?_⟩)
      rw [← s, signed_read, v]
    · exact Or.inr (Or.inl ⟨by omega, by rw [e]; exact wide_read_inf (by omega)⟩)
  · have e : wideW a = 9221120237041090560 := by unfold wideW; rw [h]; rfl
    exact Or.inl ⟨rfl, by rw [e]; decide⟩
theorem made_narrow : toldD (some (Ieee.double.read 9221120237041090560)) = 2143289344 := by decide +kernel
theorem sampleZ_lt {a : Nat} (h : rung32 a < 2139095040) : (sampleZ a).natAbs < 2 ^ capJ := by
  unfold sampleZ; rw [signed_abs]
  have := mag_lt32 (rung32 a)
  have hp : plc32 (rung32 a) ≤ 253 := plc_le32 h
  exact cap_units (e := 24) (by omega) (by omega)
/-- Finite sums. -/
theorem dbl_sum_fin {a b : Nat} {t : Bool} {M N : Nat} {P Q' : Int} (ha : rung32 a < 2139095040) (hb : rung32 b < 2139095040) (hP : -1074 ≤ P) (hQ : -1074 ≤ Q')
    (hX : Ieee.signed (sgn32 a) M (P + 1074).toNat = sampleZ a) (hY : Ieee.signed t N (Q' + 1074).toNat = Ieee.signed t (mag32 (rung32 b)) (plc32 (rung32 b) + 925)) :
    toldD (some (Ieee.double.read (toldW ((Ieee.Datum.number (sgn32 a) M P).sum (.number t N Q'))))) = toldD ((Ieee.Datum.number (sgn32 a) (mag32 (rung32 a)) (-149 + (plc32 (rung32 a) : Int))).sum (.number t (mag32 (rung32 b)) (-149 + (plc32 (rung32 b) : Int)))) := by
  obtain ⟨N1, b1, e1, e2⟩ := sum_units (sgn32 a) t M N P Q' hP hQ
  obtain ⟨N2, b2, f1, f2⟩ := sum_units (sgn32 a) t (mag32 (rung32 a)) (mag32 (rung32 b)) (-149 + (plc32 (rung32 a) : Int)) (-149 + (plc32 (rung32 b) : Int)) (by omega) (by omega)
  rw [hX, hY] at e1 e2
  rw [show (-149 + (plc32 (rung32 a) : Int) + 1074).toNat = plc32 (rung32 a) + 925 by omega, show (-149 + (plc32 (rung32 b) : Int) + 1074).toNat = plc32 (rung32 b) + 925 by omega] at f1 f2
  have hZe : sampleZ a + Ieee.signed t (mag32 (rung32 b)) (plc32 (rung32 b) + 925) = Ieee.signed (sgn32 a) (mag32 (rung32 a)) (plc32 (rung32 a) + 925) + Ieee.signed t (mag32 (rung32 b)) (plc32 (rung32 b) + 925) := rfl
  rw [hZe] at e1 e2
  rw [e1, f1, toldD_num, f2]
  obtain ⟨Z, hZ⟩ : ∃ Z, Z = (Ieee.signed (sgn32 a) (mag32 (rung32 a)) (plc32 (rung32 a) + 925) + Ieee.signed t (mag32 (rung32 b)) (plc32 (rung32 b) + 925)).natAbs := ⟨_, rfl⟩
  show toldD (some (Ieee.double.read (Ieee.double.nearest _ N1 b1))) = _
  rw [nearest_rung, e2, ← hZ]
  have l1 := sampleZ_lt ha
  have l2 : (Ieee.signed t (mag32 (rung32 b)) (plc32 (rung32 b) + 925)).natAbs < 2 ^ capJ := by
    have := sampleZ_lt hb
    unfold sampleZ at this
    rw [signed_abs] at this ⊢
    exact this
  have l1' : (Ieee.signed (sgn32 a) (mag32 (rung32 a)) (plc32 (rung32 a) + 925)).natAbs < 2 ^ capJ := l1
  exact told_twice (cap_log (by rw [hZ]; omega)) (fun hK hm => sum_mid (mag_lt32 _) (mag_lt32 _) (by omega) (by omega) hZ hK hm)
theorem add_dbl (a b : Nat) : toldD (some (Ieee.double.read (toldW ((Ieee.double.read (wideW a)).sum (Ieee.double.read (wideW b)))))) = toldD ((Ieee.single.read a).sum (Ieee.single.read b)) := by
  rcases wideW_cases a with ⟨h, e⟩ | ⟨h, e⟩ | ⟨h, _, M, P, e, hP, hX⟩
  · rw [sum_nan1 e, sum_nan1 (read32_nan h)]; exact made_narrow
  · rcases wideW_cases b with ⟨k, f⟩ | ⟨k, f⟩ | ⟨k, _, N, Q', f, hQ, hY⟩
    · rw [sum_nan2 f, sum_nan2 (read32_nan k)]; exact made_narrow
    · rw [e, f, read_inf32 h, read_inf32 k]
      show toldD (some (Ieee.double.read (toldW (if sgn32 a = sgn32 b then some (Ieee.Datum.infinity (sgn32 a)) else none)))) = toldD (if sgn32 a = sgn32 b then some (Ieee.Datum.infinity (sgn32 a)) else none)
      by_cases c : sgn32 a = sgn32 b
      · rw [if_pos c]
        show toldD (some (Ieee.double.read (Ieee.double.write (.infinity (sgn32 a))))) = _
        rw [write_inf, told_inf]
        show _ = Ieee.single.word (sgn32 a) Ieee.single.infRung
        rw [inf32]
      · rw [if_neg c]; exact made_narrow
    · rw [e, f, read_inf32 h, read_fin32 k]
      show toldD (some (Ieee.double.read (Ieee.double.write (.infinity (sgn32 a))))) = Ieee.single.word (sgn32 a) Ieee.single.infRung
      rw [write_inf, told_inf, inf32]
  · rcases wideW_cases b with ⟨k, f⟩ | ⟨k, f⟩ | ⟨k, _, N, Q', f, hQ, hY⟩
    · rw [sum_nan2 f, sum_nan2 (read32_nan k)]; exact made_narrow
    · rw [e, f, read_fin32 h, read_inf32 k]
      show toldD (some (Ieee.double.read (Ieee.double.write (.infinity (sgn32 b))))) = Ieee.single.word (sgn32 b) Ieee.single.infRung
      rw [write_inf, told_inf, inf32]
    · rw [e, f, read_fin32 h, read_fin32 k]
      exact dbl_sum_fin h k hP hQ hX hY
theorem sub_dbl (a b : Nat) : toldD (some (Ieee.double.read (toldW ((Ieee.double.read (wideW a)).sum (Ieee.double.read (wideW b)).opposite)))) = toldD ((Ieee.single.read a).sum (Ieee.single.read b).opposite) := by
  rcases wideW_cases a with ⟨h, e⟩ | ⟨h, e⟩ | ⟨h, _, M, P, e, hP, hX⟩
  · rw [sum_nan1 e, sum_nan1 (read32_nan h)]; exact made_narrow
  · rcases wideW_cases b with ⟨k, f⟩ | ⟨k, f⟩ | ⟨k, _, N, Q', f, hQ, hY⟩
    · rw [sum_nan2 (opp_nan f), sum_nan2 (opp_nan (read32_nan k))]; exact made_narrow
    · rw [e, f, read_inf32 h, read_inf32 k]
      show toldD (some (Ieee.double.read (toldW (if sgn32 a = !sgn32 b then some (Ieee.Datum.infinity (sgn32 a)) else none)))) = toldD (if sgn32 a = !sgn32 b then some (Ieee.Datum.infinity (sgn32 a)) else none)
      by_cases c : sgn32 a = !sgn32 b
      · rw [if_pos c]
        show toldD (some (Ieee.double.read (Ieee.double.write (.infinity (sgn32 a))))) = _
        rw [write_inf, told_inf]
        show _ = Ieee.single.word (sgn32 a) Ieee.single.infRung
        rw [inf32]
      · rw [if_neg c]; exact made_narrow
    · rw [e, f, read_inf32 h, read_fin32 k]
      show toldD (some (Ieee.double.read (Ieee.double.write (.infinity (sgn32 a))))) = Ieee.single.word (sgn32 a) Ieee.single.infRung
      rw [write_inf, told_inf, inf32]
  · rcases wideW_cases b with ⟨k, f⟩ | ⟨k, f⟩ | ⟨k, _, N, Q', f, hQ, hY⟩
    · rw [sum_nan2 (opp_nan f), sum_nan2 (opp_nan (read32_nan k))]; exact made_narrow
    · rw [e, f, read_fin32 h, read_inf32 k]
      show toldD (some (Ieee.double.read (Ieee.double.write (.infinity (!sgn32 b))))) = Ieee.single.word (!sgn32 b) Ieee.single.infRung
      rw [write_inf, told_inf, inf32]
    · rw [e, f, read_fin32 h, read_fin32 k]
      refine dbl_sum_fin h k hP hQ hX ?_
      rw [signed_neg, signed_neg, hY]; rfl
theorem mul_dbl (a b : Nat) : toldD (some (Ieee.double.read (toldW ((Ieee.double.read (wideW a)).product (Ieee.double.read (wideW b)))))) = toldD ((Ieee.single.read a).product (Ieee.single.read b)) := by
  rcases wideW_cases a with ⟨h, e⟩ | ⟨h, e⟩ | ⟨h, ea, M, P, e, hP, hX⟩
  · rw [product_nan1 e, product_nan1 (read32_nan h)]; exact made_narrow
  · rcases wideW_cases b with ⟨k, f⟩ | ⟨k, f⟩ | ⟨k, eb, N, Q', f, hQ, hY⟩
    · rw [product_nan2 f, product_nan2 (read32_nan k)]; exact made_narrow
    · rw [e, f, read_inf32 h, read_inf32 k]
      show toldD (some (Ieee.double.read (Ieee.double.write (.infinity (sgn32 a ^^ sgn32 b))))) = Ieee.single.word (sgn32 a ^^ sgn32 b) Ieee.single.infRung
      rw [write_inf, told_inf, inf32]
    · rw [e, eb, read_fin64 (wide_fin k).1, (wide_fin k).2.1, read_inf32 h, read_fin32 k]
      show toldD (some (Ieee.double.read (toldW (if mag64 (rung64 (wideN b)) = 0 then none else some (Ieee.Datum.infinity (sgn32 a ^^ sgn32 b)))))) = toldD (if mag32 (rung32 b) = 0 then none else some (Ieee.Datum.infinity (sgn32 a ^^ sgn32 b)))
      by_cases z : mag32 (rung32 b) = 0
      · rw [if_pos z, if_pos ((wide_mag_zero k).2 z)]; exact made_narrow
      · rw [if_neg z, if_neg (fun c => z ((wide_mag_zero k).1 c))]
        show toldD (some (Ieee.double.read (Ieee.double.write (.infinity (sgn32 a ^^ sgn32 b))))) = Ieee.single.word (sgn32 a ^^ sgn32 b) Ieee.single.infRung
        rw [write_inf, told_inf, inf32]
  · rcases wideW_cases b with ⟨k, f⟩ | ⟨k, f⟩ | ⟨k, eb, N, Q', f, hQ, hY⟩
    · rw [product_nan2 f, product_nan2 (read32_nan k)]; exact made_narrow
    · rw [f, ea, read_fin64 (wide_fin h).1, (wide_fin h).2.1, read_fin32 h, read_inf32 k]
      show toldD (some (Ieee.double.read (toldW (if mag64 (rung64 (wideN a)) = 0 then none else some (Ieee.Datum.infinity (sgn32 b ^^ sgn32 a)))))) = toldD (if mag32 (rung32 a) = 0 then none else some (Ieee.Datum.infinity (sgn32 b ^^ sgn32 a)))
      by_cases z : mag32 (rung32 a) = 0
      · rw [if_pos z, if_pos ((wide_mag_zero h).2 z)]; exact made_narrow
      · rw [if_neg z, if_neg (fun c => z ((wide_mag_zero h).1 c))]
        show toldD (some (Ieee.double.read (Ieee.double.write (.infinity (sgn32 b ^^ sgn32 a))))) = Ieee.single.word (sgn32 b ^^ sgn32 a) Ieee.single.infRung
        rw [write_inf, told_inf, inf32]
    · have hp := prod_units h k
      have hp' : ((Ieee.double.read (wideN a)).product (Ieee.double.read (wideN b))).map Ieee.double.write = some (wordOf (sgn32 a ^^ sgn32 b) (prodZ a b)) := hp
      rw [ea, eb]
      have pa := plc_le32 h
      have pb := plc_le32 k
      have hlt := prod_lt a b
      obtain ⟨u1, u2, u3⟩ := units_word (s := sgn32 a ^^ sgn32 b) (m := mag32 (rung32 a) * mag32 (rung32 b)) (k := plc32 (rung32 a) + plc32 (rung32 b) + 776) (by omega) (by omega)
      have u1 : rung64 (wordOf (sgn32 a ^^ sgn32 b) (prodZ a b)) < 9218868437227405312 := u1
      have u2 : sgn64 (wordOf (sgn32 a ^^ sgn32 b) (prodZ a b)) = (sgn32 a ^^ sgn32 b) := u2
      have u3 : sval64 (wordOf (sgn32 a ^^ sgn32 b) (prodZ a b)) = prodZ a b := u3
      cases hd : (Ieee.double.read (wideN a)).product (Ieee.double.read (wideN b)) with
      | none => rw [hd] at hp'; cases hp'
      | some d =>
        rw [hd] at hp'
        have hw : toldW (some d) = wordOf (sgn32 a ^^ sgn32 b) (prodZ a b) := by
          have : Ieee.double.write d = wordOf (sgn32 a ^^ sgn32 b) (prodZ a b) := by injection hp'
          rw [← this]
          have hn := product_num hd
          cases d with
          | nan s t => exact absurd hn (by simp [Ieee.Datum.isNaN])
          | infinity s => rfl
          | number s m p => rfl
        have hv := val_abs (wordOf (sgn32 a ^^ sgn32 b) (prodZ a b))
        have hpz : (prodZ a b).natAbs = mag32 (rung32 a) * mag32 (rung32 b) * 2 ^ (plc32 (rung32 a) + plc32 (rung32 b) + 776) := by unfold prodZ; rw [signed_abs]
        rw [u3, hpz] at hv
        rw [hw, read_fin64 u1, u2, toldD_num, rung_word64, ← hv, rung_scale, read_fin32 h, read_fin32 k]
        show _ = toldD (some (.number (sgn32 a ^^ sgn32 b) (mag32 (rung32 a) * mag32 (rung32 b)) (-149 + (plc32 (rung32 a) : Int) + (-149 + (plc32 (rung32 b) : Int)))))
        rw [toldD_num]
        refine congrArg (Ieee.single.word _) (congrArg (rungOf Ieee.single _) ?_)
        omega
end Go.Proofs.Ytlelgifdnhnphab
