/- Plain facts: the reference's sums, products and quotients in binary64, made narrow, are those of samples. -/
import Derived.Test.YtkgojnjlfkijiaaG1e0cd50b
import Derived.Test.YtkgojnjlfkijiaaG75909c20
import Derived.Test.YtkgojnjlfkijiaaG051b097e
import Derived.Test.YtkgojnjlfkijiaaG7d2f8dfe
import Derived.Test.YtkgojnjlfkijiaaG08a7e663
import Derived.Test.YtkgojnjlfkijiaaG7631de83
import Derived.Test.YtkgojnjlfkijiaaGddcc606e
namespace Go.Proofs.Ytkgojnjlfkijiaa
open Go.RowKit

/-- A datum, or none, as a number of the reference; as a word of binary64. -/
def optR : Option Ieee.Datum → RNum
  | none => .nan
  | some d => datumR d
def toldW : Option Ieee.Datum → Nat
  | none => 9221120237041090560
  | some (.nan ..) => 9221120237041090560
  | some d => Ieee.double.write d
theorem roundD_fin' (s : Bool) (n : Nat) (e : Int) : roundD (.fin s n e false) = Ieee.double.nearest s n e := by
  show Ieee.double.word s (rungOf Ieee.double (2 * n + 0) (e - 1)) = _
  rw [nearest_rung, Nat.add_zero]
  have := rung_scale Ieee.double n 1 (e - 1)
  rw [Nat.pow_one, Nat.mul_comm n 2] at this
  rw [this, show e - 1 + ((1 : Nat) : Int) = e by omega]
theorem roundD_opt (o : Option Ieee.Datum) : roundD (optR o) = toldW o := by
  cases o with
  | none => rfl
  | some d =>
    cases d with
    | nan s t => rfl
    | infinity s =>
      show Ieee.double.word s 9218868437227405312 = Ieee.double.word s Ieee.double.infRung
      rw [inf64]
    | number s m p => exact roundD_fin' s m p
theorem plusFin_datum (s t : Bool) (X Y : Nat) (b : Int) :
    plusFin s t X Y b = .fin (if (if s = true then -(X : Int) else X) + (if t = true then -(Y : Int) else Y) = 0 then s && t else decide ((if s = true then -(X : Int) else X) + (if t = true then -(Y : Int) else Y) < 0))
      ((if s = true then -(X : Int) else X) + (if t = true then -(Y : Int) else Y)).natAbs b false := by
  unfold plusFin
  by_cases h : s = t
  · subst h
    rw [if_pos rfl]
    cases s
    · simp only [Bool.false_eq_true, if_false]
      rw [show ((X : Int) + (Y : Int)).natAbs = X + Y by omega]
      by_cases h0 : (X : Int) + (Y : Int) = 0
      · rw [if_pos h0]; rfl
      · rw [if_neg h0, decide_eq_false (by omega)]
    · simp only [if_true]
      rw [show (-(X : Int) + -(Y : Int)).natAbs = X + Y by omega]
      by_cases h0 : -(X : Int) + -(Y : Int) = 0
      · rw [if_pos h0]; rfl
      · rw [if_neg h0, decide_eq_true (by omega)]
  · rw [if_neg h]
    cases s <;> cases t <;> simp only [Bool.false_eq_true, if_false, if_true]
    · exact absurd rfl h
    · by_cases hxy : X = Y
      · rw [if_pos hxy, if_pos (by omega : (X : Int) + -(Y : Int) = 0), show ((X : Int) + -(Y : Int)).natAbs = 0 by omega]; rfl
      · rw [if_neg hxy]
        by_cases hlt : Y < X
        · rw [if_pos hlt, if_neg (by omega : ¬ (X : Int) + -(Y : Int) = 0), decide_eq_false (by omega), show ((X : Int) + -(Y : Int)).natAbs = X - Y by omega]
        · rw [if_neg hlt, if_neg (by omega : ¬ (X : Int) + -(Y : Int) = 0), decide_eq_true (by omega), show ((X : Int) + -(Y : Int)).natAbs = Y - X by omega]
    · by_cases hxy : X = Y
      · rw [if_pos hxy, if_pos (by omega : -(X : Int) + (Y : Int) = 0), show (-(X : Int) + (Y : Int)).natAbs = 0 by omega]; rfl
      · rw [if_neg hxy]
        by_cases hlt : Y < X
        · rw [if_pos hlt, if_neg (by omega : ¬ -(X : Int) + (Y : Int) = 0), decide_eq_true (by omega), show (-(X : Int) + (Y : Int)).natAbs = X - Y by omega]
        · rw [if_neg hlt, if_neg (by omega : ¬ -(X : Int) + (Y : Int) = 0), decide_eq_false (by omega), show (-(X : Int) + (Y : Int)).natAbs = Y - X by omega]
    · exact absurd rfl h
theorem sum_opt (d d' : Ieee.Datum) : plusR (datumR d) (datumR d') = optR (d.sum d') := by
  cases d with
  | nan s t => cases d' <;> rfl
  | infinity s =>
    cases d' with
    | nan t f => rfl
    | infinity t =>
      show (if s = t then RNum.inf s else .nan) = optR (if s = t then some (.infinity s) else none)
      by_cases h : s = t
      · rw [if_pos h, if_pos h]; rfl
      · rw [if_neg h, if_neg h]; rfl
    | number t n j => rfl
  | number s m i =>
    cases d' with
    | nan t f => rfl
    | infinity t => rfl
    | number t n j =>
      show plusFin s t (m * 2 ^ (i - min i j).toNat) (n * 2 ^ (j - min i j).toNat) (min i j) = _
      rw [plusFin_datum, ← signed_eq, ← signed_eq]
      rfl
theorem times_opt (d d' : Ieee.Datum) : timesR (datumR d) (datumR d') = optR (d.product d') := by
  cases d with
  | nan s t => cases d' <;> rfl
  | infinity s =>
    cases d' with
    | nan t f => rfl
    | infinity t =>
      show RNum.inf (s != t) = RNum.inf (s ^^ t)
      rw [bne_xor]
    | number t n j =>
      show (if zeroB (.fin t n j false) = true then RNum.nan else .inf (s != t)) = optR (if n = 0 then none else some (Ieee.Datum.infinity (s ^^ t)))
      rw [zeroB_fin, bne_xor]
      by_cases h : n = 0
      · rw [if_pos h, decide_eq_true h, if_pos rfl]; rfl
      · rw [if_neg h, decide_eq_false h, if_neg (by decide)]; rfl
  | number s m i =>
    cases d' with
    | nan t f => rfl
    | infinity t =>
      show (if zeroB (.fin s m i false) = true then RNum.nan else .inf (s != t)) = optR (if m = 0 then none else some (Ieee.Datum.infinity (t ^^ s)))
      rw [zeroB_fin, bne_xor, Bool.xor_comm]
      by_cases h : m = 0
      · rw [if_pos h, decide_eq_true h, if_pos rfl]; rfl
      · rw [if_neg h, decide_eq_false h, if_neg (by decide)]; rfl
    | number t n j =>
      show RNum.fin (s != t) (m * n) (i + j) false = .fin (s ^^ t) (m * n) (i + j) false
      rw [bne_xor]

/-- What a sample, wide, is read as. -/
theorem wideW_cases (a : Nat) : (nanN a = true ∧ (Ieee.double.read (wideW a)).isNaN = true) ∨ (rung32 a = 2139095040 ∧ Ieee.double.read (wideW a) = .infinity (sgn32 a)) ∨
    (rung32 a < 2139095040 ∧ wideW a = wideN a ∧ ∃ M P, Ieee.double.read (wideW a) = .number (sgn32 a) M P ∧ -1074 ≤ P ∧ Ieee.signed (sgn32 a) M (P + 1074).toNat = sampleZ a) := by
  cases h : nanN a
  · have e : wideW a = wideN a := by unfold wideW; rw [h]; rfl
    have h' := h
    rw [nanN_rung] at h'
    have h' := of_decide_eq_false h'
    rcases Nat.lt_or_ge (rung32 a) 2139095040 with g | g
    · obtain ⟨r, s, v⟩ := wide_fin g
      refine Or.inr (Or.inr ⟨g, e, _, _, by rw [e, read_fin64 r, s], by omega, ?_⟩)
      rw [← s, signed_read, v]
    · exact Or.inr (Or.inl ⟨by omega, by rw [e]; exact wide_read_inf (by omega)⟩)
  · have e : wideW a = 9221120237041090560 := by unfold wideW; rw [h]; rfl
    exact Or.inl ⟨rfl, by rw [e]; decide⟩
theorem made_narrow : toldD (some (Ieee.double.read 9221120237041090560)) = 2143289344 := by decide +kernel
theorem sampleZ_lt {a : Nat} (h : rung32 a < 2139095040) : (sampleZ a).natAbs < 2 ^ capJ := by
  unfold sampleZ; rw [signed_abs]
  have := mag_lt32 (rung32 a)
  have hp : plc32 (rung32 a) ≤ 253 := plc_le32 h
  exact cap_units (e := 24) (by omega) (by omega)
/-- Finite sums. -/
theorem dbl_sum_fin {a b : Nat} {t : Bool} {M N : Nat} {P Q' : Int} (ha : rung32 a < 2139095040) (hb : rung32 b < 2139095040) (hP : -1074 ≤ P) (hQ : -1074 ≤ Q')
    (hX : Ieee.signed (sgn32 a) M (P + 1074).toNat = sampleZ a) (hY : Ieee.signed t N (Q' + 1074).toNat = Ieee.signed t (mag32 (rung32 b)) (plc32 (rung32 b) + 925)) :
    toldD (some (Ieee.double.read (toldW ((Ieee.Datum.number (sgn32 a) M P).sum (.number t N Q'))))) = toldD ((Ieee.Datum.number (sgn32 a) (mag32 (rung32 a)) (-149 + (plc32 (rung32 a) : Int))).sum (.number t (mag32 (rung32 b)) (-149 + (plc32 (rung32 b) : Int)))) := by
  obtain ⟨N1, b1, e1, e2⟩ := sum_units (sgn32 a) t M N P Q' hP hQ
  obtain ⟨N2, b2, f1, f2⟩ := sum_units (sgn32 a) t (mag32 (rung32 a)) (mag32 (rung32 b)) (-149 + (plc32 (rung32 a) : Int)) (-149 + (plc32 (rung32 b) : Int)) (by omega) (by omega)
  rw [hX, hY] at e1 e2
  rw [show (-149 + (plc32 (rung32 a) : Int) + 1074).toNat = plc32 (rung32 a) + 925 by omega, show (-149 + (plc32 (rung32 b) : Int) + 1074).toNat = plc32 (rung32 b) + 925 by omega] at f1 f2
  have hZe : sampleZ a + Ieee.signed t (mag32 (rung32 b)) (plc32 (rung32 b) + 925) = Ieee.signed (sgn32 a) (mag32 (rung32 a)) (plc32 (rung32 a) + 925) + Ieee.signed t (mag32 (rung32 b)) (plc32 (rung32 b) + 925) := rfl
  rw [hZe] at e1 e2
  rw [e1, f1, toldD_num, f2]
  obtain ⟨Z, hZ⟩ : ∃ Z, Z = (Ieee.signed (sgn32 a) (mag32 (rung32 a)) (plc32 (rung32 a) + 925) + Ieee.signed t (mag32 (rung32 b)) (plc32 (rung32 b) + 925)).natAbs := ⟨_, rfl⟩
  show toldD (some (Ieee.double.read (Ieee.double.nearest _ N1 b1))) = _
  rw [nearest_rung, e2, ← hZ]
  have l1 := sampleZ_lt ha
  have l2 : (Ieee.signed t (mag32 (rung32 b)) (plc32 (rung32 b) + 925)).natAbs < 2 ^ capJ := by
    have := sampleZ_lt hb
    unfold sampleZ at this
    rw [signed_abs] at this ⊢
    exact this
  have l1' : (Ieee.signed (sgn32 a) (mag32 (rung32 a)) (plc32 (rung32 a) + 925)).natAbs < 2 ^ capJ := l1
  exact told_twice (cap_log (by rw [hZ]; omega)) (fun hK hm => sum_mid (mag_lt32 _) (mag_lt32 _) (by omega) (by omega) hZ hK hm)
theorem add_dbl (a b : Nat) : toldD (some (Ieee.double.read (toldW ((Ieee.double.read (wideW a)).sum (Ieee.double.read (wideW b)))))) = toldD ((Ieee.single.read a).sum (Ieee.single.read b)) := by
  rcases wideW_cases a with ⟨h, e⟩ | ⟨h, e⟩ | ⟨h, _, M, P, e, hP, hX⟩
  · rw [sum_nan1 e, sum_nan1 (read32_nan h)]; exact made_narrow
  · rcases wideW_cases b with ⟨k, f⟩ | ⟨k, f⟩ | ⟨k, _, N, Q', f, hQ, hY⟩
    · rw [sum_nan2 f, sum_nan2 (read32_nan k)]; exact made_narrow
    · rw [e, f, read_inf32 h, read_inf32 k]
      show toldD (some (Ieee.double.read (toldW (if sgn32 a = sgn32 b then some (Ieee.Datum.infinity (sgn32 a)) else none)))) = toldD (if sgn32 a = sgn32 b then some (Ieee.Datum.infinity (sgn32 a)) else none)
      by_cases c : sgn32 a = sgn32 b
      · rw [if_pos c]
        show toldD (some (Ieee.double.read (Ieee.double.write (.infinity (sgn32 a))))) = _
        rw [write_inf, told_inf]
        show _ = Ieee.single.word (sgn32 a) Ieee.single.infRung
        rw [inf32]
      · rw [if_neg c]; exact made_narrow
    · rw [e, f, read_inf32 h, read_fin32 k]
      show toldD (some (Ieee.double.read (Ieee.double.write (.infinity (sgn32 a))))) = Ieee.single.word (sgn32 a) Ieee.single.infRung
      rw [write_inf, told_inf, inf32]
  · rcases wideW_cases b with ⟨k, f⟩ | ⟨k, f⟩ | ⟨k, _, N, Q', f, hQ, hY⟩
    · rw [sum_nan2 f, sum_nan2 (read32_nan k)]; exact made_narrow
    · rw [e, f, read_fin32 h, read_inf32 k]
      show toldD (some (Ieee.double.read (Ieee.double.write (.infinity (sgn32 b))))) = Ieee.single.word (sgn32 b) Ieee.single.infRung
      rw [write_inf, told_inf, inf32]
    · rw [e, f, read_fin32 h, read_fin32 k]
      exact dbl_sum_fin h k hP hQ hX hY
theorem sub_dbl (a b : Nat) : toldD (some (Ieee.double.read (toldW ((Ieee.double.read (wideW a)).sum (Ieee.double.read (wideW b)).opposite)))) = toldD ((Ieee.single.read a).sum (Ieee.single.read b).opposite) := by
  rcases wideW_cases a with ⟨h, e⟩ | ⟨h, e⟩ | ⟨h, _, M, P, e, hP, hX⟩
  · rw [sum_nan1 e, sum_nan1 (read32_nan h)]; exact made_narrow
  · rcases wideW_cases b with ⟨k, f⟩ | ⟨k, f⟩ | ⟨k, _, N, Q', f, hQ, hY⟩
    · rw [sum_nan2 (opp_nan f), sum_nan2 (opp_nan (read32_nan k))]; exact made_narrow
    · rw [e, f, read_inf32 h, read_inf32 k]
      show toldD (some (Ieee.double.read (toldW (if sgn32 a = !sgn32 b then some (Ieee.Datum.infinity (sgn32 a)) else none)))) = toldD (if sgn32 a = !sgn32 b then some (Ieee.Datum.infinity (sgn32 a)) else none)
      by_cases c : sgn32 a = !sgn32 b
      · rw [if_pos c]
        show toldD (some (Ieee.double.read (Ieee.double.write (.infinity (sgn32 a))))) = _
        rw [write_inf, told_inf]
        show _ = Ieee.single.word (sgn32 a) Ieee.single.infRung
        rw [inf32]
      · rw [if_neg c]; exact made_narrow
    · rw [e, f, read_inf32 h, read_fin32 k]
      show toldD (some (Ieee.double.read (Ieee.double.write (.infinity (sgn32 a))))) = Ieee.single.word (sgn32 a) Ieee.single.infRung
      rw [write_inf, told_inf, inf32]
  · rcases wideW_cases b with ⟨k, f⟩ | ⟨k, f⟩ | ⟨k, _, N, Q', f, hQ, hY⟩
    · rw [sum_nan2 (opp_nan f), sum_nan2 (opp_nan (read32_nan k))]; exact made_narrow
    · rw [e, f, read_fin32 h, read_inf32 k]
      show toldD (some (Ieee.double.read (Ieee.double.write (.infinity (!sgn32 b))))) = Ieee.single.word (!sgn32 b) Ieee.single.infRung
      rw [write_inf, told_inf, inf32]
    · rw [e, f, read_fin32 h, read_fin32 k]
      refine dbl_sum_fin h k hP hQ hX ?_
      rw [signed_neg, signed_neg, hY]; rfl
theorem mul_dbl (a b : Nat) : toldD (some (Ieee.double.read (toldW ((Ieee.double.read (wideW a)).product (Ieee.double.read (wideW b)))))) = toldD ((Ieee.single.read a).product (Ieee.single.read b)) := by
  rcases wideW_cases a with ⟨h, e⟩ | ⟨h, e⟩ | ⟨h, ea, M, P, e, hP, hX⟩
  · rw [product_nan1 e, product_nan1 (read32_nan h)]; exact made_narrow
  · rcases wideW_cases b with ⟨k, f⟩ | ⟨k, f⟩ | ⟨k, eb, N, Q', f, hQ, hY⟩
    · rw [product_nan2 f, product_nan2 (read32_nan k)]; exact made_narrow
    · rw [e, f, read_inf32 h, read_inf32 k]
      show toldD (some (Ieee.double.read (Ieee.double.write (.infinity (sgn32 a ^^ sgn32 b))))) = Ieee.single.word (sgn32 a ^^ sgn32 b) Ieee.single.infRung
      rw [write_inf, told_inf, inf32]
    · rw [e, eb, read_fin64 (wide_fin k).1, (wide_fin k).2.1, read_inf32 h, read_fin32 k]
      show toldD (some (Ieee.double.read (toldW (if mag64 (rung64 (wideN b)) = 0 then none else some (Ieee.Datum.infinity (sgn32 a ^^ sgn32 b)))))) = toldD (if mag32 (rung32 b) = 0 then none else some (Ieee.Datum.infinity (sgn32 a ^^ sgn32 b)))
      by_cases z : mag32 (rung32 b) = 0
      · rw [if_pos z, if_pos ((wide_mag_zero k).2 z)]; exact made_narrow
      · rw [if_neg z, if_neg (fun c => z ((wide_mag_zero k).1 c))]
        show toldD (some (Ieee.double.read (Ieee.double.write (.infinity (sgn32 a ^^ sgn32 b))))) = Ieee.single.word (sgn32 a ^^ sgn32 b) Ieee.single.infRung
        rw [write_inf, told_inf, inf32]
  · rcases wideW_cases b with ⟨k, f⟩ | ⟨k, f⟩ | ⟨k, eb, N, Q', f, hQ, hY⟩
    · rw [product_nan2 f, product_nan2 (read32_nan k)]; exact made_narrow
    · rw [f, ea, read_fin64 (wide_fin h).1, (wide_fin h).2.1, read_fin32 h, read_inf32 k]
      show toldD (some (Ieee.double.read (toldW (if mag64 (rung64 (wideN a)) = 0 then none else some (Ieee.Datum.infinity (sgn32 b ^^ sgn32 a)))))) = toldD (if mag32 (rung32 a) = 0 then none else some (Ieee.Datum.infinity (sgn32 b ^^ sgn32 a)))
      by_cases z : mag32 (rung32 a) = 0
      · rw [if_pos z, if_pos ((wide_mag_zero h).2 z)]; exact made_narrow
      · rw [if_neg z, if_neg (fun c => z ((wide_mag_zero h).1 c))]
        show toldD (some (Ieee.double.read (Ieee.double.write (.infinity (sgn32 b ^^ sgn32 a))))) = Ieee.single.word (sgn32 b ^^ sgn32 a) Ieee.single.infRung
        rw [write_inf, told_inf, inf32]
    · have hp := prod_units h k
      have hp' : ((Ieee.double.read (wideN a)).product (Ieee.double.read (wideN b))).map Ieee.double.write = some (wordOf (sgn32 a ^^ sgn32 b) (prodZ a b)) := hp
      rw [ea, eb]
      have pa := plc_le32 h
      have pb := plc_le32 k
      have hlt := prod_lt a b
      obtain ⟨u1, u2, u3⟩ := units_word (s := sgn32 a ^^ sgn32 b) (m := mag32 (rung32 a) * mag32 (rung32 b)) (k := plc32 (rung32 a) + plc32 (rung32 b) + 776) (by omega) (by omega)
      have u1 : rung64 (wordOf (sgn32 a ^^ sgn32 b) (prodZ a b)) < 9218868437227405312 := u1
      have u2 : sgn64 (wordOf (sgn32 a ^^ sgn32 b) (prodZ a b)) = (sgn32 a ^^ sgn32 b) := u2
      have u3 : sval64 (wordOf (sgn32 a ^^ sgn32 b) (prodZ a b)) = prodZ a b := u3
      cases hd : (Ieee.double.read (wideN a)).product (Ieee.double.read (wideN b)) with
      | none => rw [hd] at hp'; cases hp'
      | some d =>
        rw [hd] at hp'
        have hw : toldW (some d) = wordOf (sgn32 a ^^ sgn32 b) (prodZ a b) := by
          have : Ieee.double.write d = wordOf (sgn32 a ^^ sgn32 b) (prodZ a b) := by injection hp'
          rw [← this]
          have hn := product_num hd
          cases d with
          | nan s t => exact absurd hn (by simp [Ieee.Datum.isNaN])
          | infinity s => rfl
          | number s m p => rfl
        have hv := val_abs (wordOf (sgn32 a ^^ sgn32 b) (prodZ a b))
        have hpz : (prodZ a b).natAbs = mag32 (rung32 a) * mag32 (rung32 b) * 2 ^ (plc32 (rung32 a) + plc32 (rung32 b) + 776) := by unfold prodZ; rw [signed_abs]
        rw [u3, hpz] at hv
        rw [hw, read_fin64 u1, u2, toldD_num, rung_word64, ← hv, rung_scale, read_fin32 h, read_fin32 k]
        show _ = toldD (some (.number (sgn32 a ^^ sgn32 b) (mag32 (rung32 a) * mag32 (rung32 b)) (-149 + (plc32 (rung32 a) : Int) + (-149 + (plc32 (rung32 b) : Int)))))
        rw [toldD_num]
        refine congrArg (Ieee.single.word _) (congrArg (rungOf Ieee.single _) ?_)
        omega
end Go.Proofs.Ytkgojnjlfkijiaa
/- What the reference's Wide and Narrow return. -/
namespace Go.Proofs.Ytkgojnjlfkijiaa
open Go.RowKit

theorem numOf_fitsD (a : Nat) : fitsD (numOf Ieee.single a) := by
  rw [numOf_datum]
  cases h : nanN a
  · rcases cases32 h with g | g
    · rw [read_fin32 g]
      have := mag_lt32 (rung32 a)
      have hp := plc_le32 g
      exact ⟨by have := blen_le (n := mag32 (rung32 a)) (k := 24) this; omega, by omega, by omega, fun h => by cases h⟩
    · rw [read_inf32 g]; exact trivial
  · obtain ⟨s, t, e⟩ := isNaN_cases (read32_nan h)
    rw [e]; exact trivial
theorem roundD_fin (s : Bool) (n : Nat) (e : Int) : roundD (.fin s n e false) = Ieee.double.nearest s n e := by
  show Ieee.double.word s (rungOf Ieee.double (2 * n + 0) (e - 1)) = _
  rw [nearest_rung, Nat.add_zero]
  have := rung_scale Ieee.double n 1 (e - 1)
  rw [Nat.pow_one, Nat.mul_comm n 2] at this
  rw [this, show e - 1 + ((1 : Nat) : Int) = e by omega]
theorem wide_told (a : Nat) : roundD (numOf Ieee.single a) = wideW a := by
  rw [numOf_datum]
  unfold wideW wideN
  cases h : nanN a
  · rw [if_neg (by decide)]
    rcases cases32 h with g | g
    · rw [read_fin32 g]; exact roundD_fin _ _ _
    · rw [read_inf32 g]
      show Ieee.double.word _ 9218868437227405312 = Ieee.double.word _ Ieee.double.infRung
      rw [inf64]
  · obtain ⟨s, t, e⟩ := isNaN_cases (read32_nan h)
    rw [e, if_pos rfl]; rfl
theorem numOf_fits64 (x : Nat) : fits (numOf Ieee.double x) := by
  rw [numOf_datum]
  cases h : nan64 x
  · rw [nan64_rung] at h
    have h := of_decide_eq_false h
    rcases Nat.lt_or_ge (rung64 x) 9218868437227405312 with g | g
    · rw [read_fin64 g]
      have := mag_lt64 (rung64 x)
      have hp : plc64 (rung64 x) ≤ 2046 := by unfold plc64; omega
      exact ⟨by have := blen_le (n := mag64 (rung64 x)) (k := 53) this; omega, by omega, by omega, fun h => by cases h⟩
    · rw [read_inf64 (by omega)]; exact trivial
  · obtain ⟨s, t, e⟩ := isNaN_cases (read64_nan h)
    rw [e]; exact trivial
theorem narrow_told (x : Nat) : roundR (numOf Ieee.double x) = toldD (some (Ieee.double.read x)) := by
  rw [numOf_datum]
  cases h : Ieee.double.read x with
  | nan s t => rfl
  | infinity s =>
    show Ieee.single.word s 2139095040 = Ieee.single.word s Ieee.single.infRung
    rw [inf32]
  | number s m p => exact roundR_fin s m p

end Go.Proofs.Ytkgojnjlfkijiaa
/- Words of binary64 as numbers of the document: sums. -/
namespace Go.Proofs.Ytkgojnjlfkijiaa
open Go.RowKit
set_option linter.unusedVariables false

theorem told64_eq (o : Option Ieee.Datum) : told64 o = toldW o := by
  cases o with
  | none => rfl
  | some d => cases d <;> rfl
/-- Numbers of binary64. -/
def dblR : RNum → Prop
  | ⟨some (.inr (_, n, e, m))⟩ => n < 9007199254740992 ∧ -1074 ≤ e ∧ e ≤ 1000 ∧ m = false
  | _ => True
theorem dblR_of (a : Nat) : dblR (numOf Ieee.double a) := by
  rw [numOf_datum]
  rcases Nat.lt_trichotomy (rung64 a) 9218868437227405312 with h | h | h
  · rw [read_fin64 h]
    have hp : plc64 (rung64 a) ≤ 2045 := by unfold plc64; omega
    exact ⟨mag_lt64 _, by omega, by omega, rfl⟩
  · rw [read_inf64 h]; exact trivial
  · rw [read_nan64 h]; exact trivial
theorem dblR_small {x : RNum} (h : dblR x) : small x := by
  cases x using RNum.rec3 with
  | nan => exact trivial
  | inf s => exact trivial
  | fin s n e m =>
    obtain ⟨h1, h2, h3, h4⟩ := h
    exact ⟨Nat.le_trans (blen_le (k := 53) h1) (by decide), by omega, by omega⟩
theorem dbl_fits {x y : RNum} (hx : dblR x) (hy : dblR y) : fitsD (plusR x y) := by
  cases x using RNum.rec3 with
  | nan => exact trivial
  | inf s =>
    cases y using RNum.rec3 with
    | nan => exact trivial
    | inf t => show fitsD (if s = t then .inf s else .nan); split <;> exact trivial
    | fin t k f g => exact trivial
  | fin s n e m =>
    cases y using RNum.rec3 with
    | nan => exact trivial
    | inf t => exact trivial
    | fin t k f g =>
      obtain ⟨a1, a2, a3, rfl⟩ := hx
      obtain ⟨b1, b2, b3, rfl⟩ := hy
      have hX : n * 2 ^ (e - min e f).toNat < 2 ^ 2500 := shifted_lt (k := 2500) n _ (by have := blen_le (k := 53) a1; omega)
      have hY : k * 2 ^ (f - min e f).toNat < 2 ^ 2500 := shifted_lt (k := 2500) k _ (by have := blen_le (k := 53) b1; omega)
      show fitsD (plusFin s t (n * 2 ^ (e - min e f).toNat) (k * 2 ^ (f - min e f).toNat) (min e f))
      obtain ⟨j, hj⟩ : ∃ j : Nat, j = 2500 := ⟨_, rfl⟩
      rw [← hj] at hX hY
      generalize n * 2 ^ (e - min e f).toNat = X at hX
      generalize k * 2 ^ (f - min e f).toNat = Y at hY
      have key : ∀ (σ : Bool) (Z : Nat), Z < 2 ^ (j + 1) → fitsD (.fin σ Z (min e f) false) := fun σ Z hZ => ⟨Nat.le_trans (blen_le hZ) (by omega), by omega, by omega, fun h => by cases h⟩
      have e2 : 2 ^ (j + 1) = 2 * 2 ^ j := by rw [Nat.pow_succ, Nat.mul_comm]
      unfold plusFin
      rw [e2] at key
      generalize 2 ^ j = G at *
      split
      · exact key _ _ (by omega)
      · split
        · exact key _ _ (by omega)
        · split
          · exact key _ _ (by omega)
          · exact key _ _ (by omega)
theorem add64_told (a b : Nat) : roundD (plusR (numOf Ieee.double a) (numOf Ieee.double b)) = add64V a b := by
  rw [numOf_datum, numOf_datum, sum_opt, roundD_opt]
  exact (told64_eq _).symm
theorem add64V_lt (a b : Nat) : add64V a b < 18446744073709551616 := by
  unfold add64V
  cases h : (Ieee.double.read a).sum (Ieee.double.read b) with
  | none => decide
  | some d =>
    cases d with
    | nan s t => show 9221120237041090560 < _; decide
    | infinity s => rw [told64_some rfl]; exact write64_lt _
    | number s m p => rw [told64_some rfl]; exact write64_lt _
end Go.Proofs.Ytkgojnjlfkijiaa
/- By powers of two, in binary64. -/
namespace Go.Proofs.Ytkgojnjlfkijiaa
open Go.RowKit
set_option linter.unusedVariables false

theorem told64_num (s : Bool) (m : Nat) (p : Int) : told64 (some (.number s m p)) = Ieee.double.word s (rungOf Ieee.double m p) := by
  rw [told64_some rfl]; show Ieee.double.nearest s m p = _; rw [nearest_rung]
theorem told64_inf (s : Bool) : told64 (some (.infinity s)) = Ieee.double.word s 9218868437227405312 := by
  rw [told64_some rfl]; show Ieee.double.word s Ieee.double.infRung = _; rw [inf64]
theorem mul_power64 (s : Bool) (m : Nat) (p q : Int) : told64 ((Ieee.Datum.number s m p).product (.number false 4503599627370496 q)) = Ieee.double.word s (rungOf Ieee.double m (p + q + 52)) := by
  show told64 (some (.number (s ^^ false) (m * 2 ^ 52) (p + q))) = _
  rw [xor_f, told64_num, rung_scale]; rfl
theorem quo_power64 (s : Bool) {m : Nat} (hm : m < 9007199254740992) (p q : Int) : told64 ((Ieee.Datum.number s m p).quotient 54 (.number false 4503599627370496 q)) = Ieee.double.word s (rungOf Ieee.double m (p - q - 52)) := by
  have hl2 : (4503599627370496 : Nat).log2 = 52 := by decide
  have hl : m.log2 ≤ 52 := by
    by_cases h0 : m = 0
    · subst h0; decide
    · have := (Nat.log2_lt h0).2 (show m < 2 ^ 53 from hm); omega
  obtain ⟨B, hB⟩ : ∃ B, B = 54 + (4503599627370496 : Nat).log2 - m.log2 := ⟨_, rfl⟩
  have hB1 : 54 ≤ B := by omega
  have em : (Ieee.Datum.number s m p).quotient 54 (.number false 4503599627370496 q) = some (.number (s ^^ false) (2 * ((m <<< B) / 4503599627370496) + ((m <<< B) % 4503599627370496 != 0).toNat) (p - q - (B : Int) - 1)) := by
    rw [hB]; simp [Ieee.Datum.quotient]
  have e1 : m <<< B = m * 2 ^ (B - 52) * 4503599627370496 := by
    rw [Nat.shiftLeft_eq, Nat.mul_assoc, show (4503599627370496 : Nat) = 2 ^ 52 from rfl, ← Nat.pow_add, show B - 52 + 52 = B by omega]
  rw [em, e1, Nat.mul_div_cancel _ (by decide), Nat.mul_mod_left, xor_f, told64_num]
  refine congrArg (Ieee.double.word s) ?_
  show rungOf Ieee.double (2 * (m * 2 ^ (B - 52)) + 0) _ = _
  have e2 : 2 * (m * 2 ^ (B - 52)) + 0 = m * 2 ^ (B - 51) := by
    rw [show B - 51 = (B - 52) + 1 by omega, Nat.pow_succ, Nat.add_zero, Nat.mul_comm 2, Nat.mul_assoc]
  rw [e2, rung_scale]
  congr 1; omega
/-- A word times 2^n, rounded. -/
def shfR (n : Int) : RNum → RNum
  | ⟨some (.inr (s, m, e, g))⟩ => .fin s m (e + n) g
  | x => x
def shfW (x : Nat) (n : Int) : Nat := roundD (shfR n (numOf Ieee.double x))
theorem shfW_nan {x : Nat} (h : (Ieee.double.read x).isNaN = true) (n : Int) : shfW x n = 9221120237041090560 := by
  obtain ⟨s, t, e⟩ := isNaN_cases h
  unfold shfW; rw [numOf_datum, e]; rfl
theorem shfW_inf {x : Nat} {s : Bool} (h : Ieee.double.read x = .infinity s) (n : Int) : shfW x n = Ieee.double.word s 9218868437227405312 := by
  unfold shfW; rw [numOf_datum, h]; rfl
theorem shfW_num {x : Nat} {s : Bool} {m : Nat} {p : Int} (h : Ieee.double.read x = .number s m p) (n : Int) : shfW x n = Ieee.double.word s (rungOf Ieee.double m (p + n)) := by
  unfold shfW; rw [numOf_datum, h]
  show roundD (.fin s m (p + n) false) = _
  rw [roundD_fin', nearest_rung]
theorem read_mag {x : Nat} {s : Bool} {m : Nat} {p : Int} (h : Ieee.double.read x = .number s m p) : m < 9007199254740992 := by
  rcases Nat.lt_trichotomy (rung64 x) 9218868437227405312 with g | g | g
  · rw [read_fin64 g] at h
    injection h with _ h _
    rw [← h]; exact mag_lt64 _
  · rw [read_inf64 g] at h; cases h
  · rw [read_nan64 g] at h; cases h
theorem quo_shf (x c : Nat) (q n : Int) (hc : Ieee.double.read c = .number false 4503599627370496 q) (hn : n = -q - 52) : opT .quo x c = shfW x n := by
  unfold opT opD
  rw [hc]
  dsimp only
  cases h : Ieee.double.read x with
  | nan s t => rw [shfW_nan (by rw [h]; rfl)]; rfl
  | infinity s =>
    rw [shfW_inf h, show (Ieee.Datum.infinity s).quotient 54 (.number false 4503599627370496 q) = some (.infinity (s ^^ false)) from rfl, told64_inf, xor_f]
  | number s m p =>
    rw [shfW_num h, quo_power64 s (read_mag h)]
    congr 2; omega
theorem mul_shf (x c : Nat) (q n : Int) (hc : Ieee.double.read c = .number false 4503599627370496 q) (hn : n = q + 52) : opT .mul x c = shfW x n := by
  unfold opT opD
  rw [hc]
  dsimp only
  cases h : Ieee.double.read x with
  | nan s t => rw [shfW_nan (by rw [h]; rfl)]; rfl
  | infinity s =>
    rw [shfW_inf h, show (Ieee.Datum.infinity s).product (.number false 4503599627370496 q) = some (.infinity (s ^^ false)) from rfl, told64_inf, xor_f]
  | number s m p =>
    rw [shfW_num h, mul_power64 s]
    congr 2; omega
theorem opT_comm (x y : Nat) : opT .mul x y = opT .mul y x := by
  unfold opT opD; dsimp only; rw [product_comm]
theorem read_c2 : Ieee.double.read 4611686018427387904 = .number false 4503599627370496 (-51) := by decide
theorem read_c4 : Ieee.double.read 4616189618054758400 = .number false 4503599627370496 (-50) := by decide
theorem read_c23 : Ieee.double.read 4710765210229538816 = .number false 4503599627370496 (-29) := by decide
theorem quo_4 (x : Nat) : opT .quo x 4616189618054758400 = shfW x (-2) := quo_shf x _ _ _ read_c4 (by omega)
theorem quo_2 (x : Nat) : opT .quo x 4611686018427387904 = shfW x (-1) := quo_shf x _ _ _ read_c2 (by omega)
theorem mul_2 (x : Nat) : opT .mul 4611686018427387904 x = shfW x 1 := by rw [opT_comm]; exact mul_shf x _ _ _ read_c2 (by omega)
theorem quo_23 (x : Nat) : opT .quo x 4710765210229538816 = shfW x (-23) := quo_shf x _ _ _ read_c23 (by omega)
theorem mul_23 (x : Nat) : opT .mul x 4710765210229538816 = shfW x 23 := mul_shf x _ _ _ read_c23 (by omega)
theorem opT_add (x y : Nat) : opT .add x y = add64V x y := rfl
end Go.Proofs.Ytkgojnjlfkijiaa
/- Log and Exp: what the program returns. -/
namespace Go.Proofs.Ytkgojnjlfkijiaa
open Go.RowKit
set_option linter.unusedVariables false

theorem wide_srung_inf {a : Nat} (h : rung32 a = 2139095040) : srung64 (wideN a) = if sgn32 a = true then -9218868437227405312 else 9218868437227405312 := by
  rw [wide_inf h]
  obtain ⟨h1, h2⟩ := sgn_word64 (sgn32 a) (r := 9218868437227405312) (by decide)
  unfold srung64; rw [h1, h2]; rfl
theorem ord_wide {a b : Nat} (ha : nanN a = false) (hb : nanN b = false) : Ieee.double.order (wideN a) (wideN b) = some (compare (srung32 a) (srung32 b)) := by
  have key : ∀ {a : Nat}, nanN a = false → (rung32 a < 2139095040 ∧ rung64 (wideN a) < 9218868437227405312) ∨ (rung32 a = 2139095040 ∧ rung64 (wideN a) = 9218868437227405312) := by
    intro a h
    rcases cases32 h with g | g
    · exact Or.inl ⟨g, (wide_fin g).1⟩
    · refine Or.inr ⟨g, ?_⟩
      rw [wide_inf g]; exact (sgn_word64 _ (by decide)).2
  rcases key ha with ⟨g1, g2⟩ | ⟨g1, g2⟩
  · rcases key hb with ⟨k1, k2⟩ | ⟨k1, k2⟩
    · rw [order_fin64 g2 k2, ← sval_srung64, (wide_fin g1).2.2, (wide_fin k1).2.2, samp_eq a rfl, samp_eq b rfl, cmp_scale (by exact Int.pow_pos (by decide)), sval_srung32]
    · rw [order_num64 (by omega) (by omega)]
      have e1 := wide_srung_inf k1
      have e2 := fin_srung g1
      have e3 : -9218868437227405312 < srung64 (wideN a) ∧ srung64 (wideN a) < 9218868437227405312 := by unfold srung64; split <;> omega
      rcases inf_sign k1 with ⟨s1, s2⟩ | ⟨s1, s2⟩
      · rw [s1, if_pos rfl] at e1
        exact congrArg some (cmp_alike (by omega) (by omega) (by omega))
      · rw [s1, if_neg (by decide)] at e1
        exact congrArg some (cmp_alike (by omega) (by omega) (by omega))
  · rw [order_num64 (by omega) (by rcases key hb with ⟨k1, k2⟩ | ⟨k1, k2⟩ <;> omega)]
    have e1 := wide_srung_inf g1
    rcases key hb with ⟨k1, k2⟩ | ⟨k1, k2⟩
    · have e2 := fin_srung k1
      have e3 : -9218868437227405312 < srung64 (wideN b) ∧ srung64 (wideN b) < 9218868437227405312 := by unfold srung64; split <;> omega
      rcases inf_sign g1 with ⟨s1, s2⟩ | ⟨s1, s2⟩
      · rw [s1, if_pos rfl] at e1
        exact congrArg some (cmp_alike (by omega) (by omega) (by omega))
      · rw [s1, if_neg (by decide)] at e1
        exact congrArg some (cmp_alike (by omega) (by omega) (by omega))
    · have e4 := wide_srung_inf k1
      rcases inf_sign g1 with ⟨s1, s2⟩ | ⟨s1, s2⟩ <;> rcases inf_sign k1 with ⟨t1, t2⟩ | ⟨t1, t2⟩ <;> rw [s1] at e1 <;> rw [t1] at e4
      · rw [if_pos rfl] at e1 e4
        exact congrArg some (cmp_alike (by omega) (by omega) (by omega))
      · rw [if_pos rfl] at e1
        rw [if_neg (by decide)] at e4
        exact congrArg some (cmp_alike (by omega) (by omega) (by omega))
      · rw [if_neg (by decide)] at e1
        rw [if_pos rfl] at e4
        exact congrArg some (cmp_alike (by omega) (by omega) (by omega))
      · rw [if_neg (by decide)] at e1 e4
        exact congrArg some (cmp_alike (by omega) (by omega) (by omega))
theorem wide_n0 : wideN 0 = 0 := by decide +kernel
theorem wide_128 : wideN 1124073472 = 4638707616191610880 := by decide +kernel
theorem wide_127 : wideN 3271426048 = 13862009284302209024 := by decide +kernel
/-- Log of a sample above 0. -/
def logP (x : Nat) : Nat := narW (shfW (floatOfInt .f64 ((x : Int) - 1065353216)) (-23))
def logV (x : Nat) : Nat := if nanN x = true ∨ srung32 x < 0 then 2143289344 else if srung32 x = 0 then 4286578688 else if x = 2139095040 then 2139095040 else logP x
theorem opT_lt {op : BinOp} (x y : Nat) : opT op x y < 18446744073709551616 := by
  unfold opT
  cases h : opD op (Ieee.double.read x) (Ieee.double.read y) with
  | none => show 9221120237041090560 < 18446744073709551616; omega
  | some d => rw [told64_some (opD_num h)]; exact write64_lt d
theorem can_int (n : Int) : canW (floatOfInt .f64 n) = floatOfInt .f64 n := by
  have e : floatOfInt .f64 n = Ieee.double.write (.number (decide (n < 0)) n.natAbs 0) := rfl
  have h : nan64 (floatOfInt .f64 n) = false := by rw [e]; exact nan64_write rfl
  unfold canW; rw [h, if_neg (by decide)]
theorem can_23 : canW 4710765210229538816 = 4710765210229538816 := by decide +kernel
/-- Exp of a number between -127 and 128. -/
def exN (y : Nat) : Nat := wholeN .even (sgn32 y) (mag32 (rung32 y)) (-126 + (plc32 (rung32 y) : Int))
def expI (y : Nat) : Int := Ieee.signed (sgn32 y) (exN y) 0
def expP (y : Nat) : Nat := (expI y + 1065353216).toNat
def expW (y : Nat) : Nat := if nanN y = true then 2143289344 else if 1124073472 ≤ srung32 y then 2139095040 else if srung32 y < -1123942400 then 0 else expP y
theorem integral_shf {y : Nat} (h : rung32 y < 2139095040) : (Ieee.double.read (shfW (wideN y) 23)).integral .even = .number (sgn32 y) (exN y) 0 := by
  unfold exN
  by_cases z : rung32 y = 0
  · rw [wide_zero z, shfW_num (read_word64 _), rungOf_zero, read_word64, z, show mag32 0 = 0 from by decide, wholeN_zero (Or.inr rfl)]
    show Ieee.Datum.number (sgn32 y) (wholeN .even (sgn32 y) 0 (-1074)) 0 = _
    rw [wholeN_zero (Or.inr rfl)]
  · obtain ⟨L, hL, m0, m1, e, hp⟩ := wide_wd z h
    have b0 : 4503599627370496 ≤ mag32 (rung32 y) * 2 ^ (52 - L) := by
      have := Nat.mul_le_mul_right (2 ^ (52 - L)) m0
      rw [← Nat.pow_add, show L + (52 - L) = 52 by omega] at this
      exact this
    have b1 : mag32 (rung32 y) * 2 ^ (52 - L) < 9007199254740992 := by
      have := Nat.mul_lt_mul_of_pos_right m1 (Nat.two_pow_pos (52 - L))
      rw [← Nat.pow_add, show L + 1 + (52 - L) = 53 by omega] at this
      exact this
    have e2 : shfW (wideN y) 23 = wd (sgn32 y) (mag32 (rung32 y) * 2 ^ (52 - L)) (-126 + (plc32 (rung32 y) : Int) + L - 52) := by
      have hr : Ieee.double.read (wideN y) = .number (sgn32 y) (mag32 (rung32 y) * 2 ^ (52 - L)) (-149 + (plc32 (rung32 y) : Int) + L - 52) := by rw [e, read_wd b0 b1 (by omega) (by omega)]
      rw [shfW_num hr, ← nearest_rung]
      have := nearest_exact (neg := sgn32 y) (o := mag32 (rung32 y) * 2 ^ (52 - L)) (L := 52) (k := 0) (p := -149 + (plc32 (rung32 y) : Int) + L - 52 + 23) b0 b1 (by omega) (by omega) (by omega)
      rw [Nat.pow_zero, Nat.mul_one] at this
      rw [this]
      congr 1; omega
    rw [e2, read_wd b0 b1 (by omega) (by omega)]
    show Ieee.Datum.number (sgn32 y) (wholeN .even (sgn32 y) (mag32 (rung32 y) * 2 ^ (52 - L)) (-126 + (plc32 (rung32 y) : Int) + L - 52)) 0 = _
    have := wholeN_scale (Or.inr rfl) (sgn32 y) (mag32 (rung32 y)) (52 - L) (-126 + (plc32 (rung32 y) : Int))
    rw [show -126 + (plc32 (rung32 y) : Int) - ((52 - L : Nat) : Int) = -126 + (plc32 (rung32 y) : Int) + L - 52 by omega] at this
    rw [this]
theorem exN_lo {y : Nat} (h : plc32 (rung32 y) ≤ 126) : exN y = rne (mag32 (rung32 y)) (126 - plc32 (rung32 y)) := by
  unfold exN wholeN
  rw [cut_rne, show (-126 + (plc32 (rung32 y) : Int)).toNat = 0 by omega, Nat.shiftLeft_zero, show (-(-126 + (plc32 (rung32 y) : Int))).toNat = 126 - plc32 (rung32 y) by omega]
theorem exN_hi {y : Nat} (h : 126 ≤ plc32 (rung32 y)) : exN y = mag32 (rung32 y) * 2 ^ (plc32 (rung32 y) - 126) := by
  unfold exN wholeN
  rw [cut_rne, show (-(-126 + (plc32 (rung32 y) : Int))).toNat = 0 by omega, rne_zero, Nat.shiftLeft_eq, show (-126 + (plc32 (rung32 y) : Int)).toNat = plc32 (rung32 y) - 126 by omega]
theorem exN_bd {y : Nat} (h : rung32 y < 1124073472) : exN y < 1073741824 ∧ (rung32 y ≤ 1123942400 → exN y ≤ 1065353216) := by
  have hm := mag_lt32 (rung32 y)
  have hp : plc32 (rung32 y) ≤ 132 := by unfold plc32; omega
  rcases Nat.le_total (plc32 (rung32 y)) 126 with g | g
  · have e := rne_upper (n := mag32 (rung32 y)) (d := 126 - plc32 (rung32 y)) (k := 16777216) (by
      have := Nat.two_pow_pos (126 - plc32 (rung32 y))
      have := Nat.mul_le_mul_left 16777216 this
      omega)
    rw [exN_lo g]
    omega
  · rw [exN_hi g]
    rcases Nat.lt_or_ge (plc32 (rung32 y)) 132 with k | k
    · have : mag32 (rung32 y) * 2 ^ (plc32 (rung32 y) - 126) ≤ 16777215 * 2 ^ 5 := Nat.mul_le_mul (by omega) (Nat.pow_le_pow_right (by decide) (by omega))
      omega
    · have k : plc32 (rung32 y) = 132 := by omega
      rw [k]
      have hr : mag32 (rung32 y) = rung32 y - 132 * 8388608 := by unfold mag32; rw [k]
      omega
theorem sgn0 (s : Bool) (n : Nat) : Ieee.signed s n 0 = if s = true then -(n : Int) else (n : Int) := by
  unfold Ieee.signed; rw [Nat.shiftLeft_zero]
theorem exp_int {y : Nat} (h1 : srung32 y < 1124073472) (h2 : -1123942400 ≤ srung32 y) : rung32 y < 2139095040 ∧ floatToIntVal .f64 (flD .even (shfW (wideN y) 23)) .i64 = some (expI y) ∧ -1065353216 ≤ expI y ∧ expI y < 1073741824 := by
  have hs : srung32 y = if sgn32 y = true then -(rung32 y : Int) else rung32 y := rfl
  have hr : rung32 y < 1124073472 := by cases g : sgn32 y <;> rw [g] at hs <;> simp at hs <;> omega
  obtain ⟨b1, b2⟩ := exN_bd hr
  have hr2 : rung32 y < 2139095040 := by omega
  have hb : -1065353216 ≤ expI y ∧ expI y < 1073741824 := by
    unfold expI; rw [sgn0]
    cases g : sgn32 y <;> rw [g] at hs <;> simp at hs ⊢ <;> omega
  refine ⟨hr2, ?_, hb⟩
  have hfl : flD .even (shfW (wideN y) 23) = Ieee.double.write (.number (sgn32 y) (exN y) 0) := by
    unfold flD; rw [integral_shf hr2]
  obtain ⟨w1, w2, w3, E, w4, w5⟩ := whole_word (s := sgn32 y) (N := exN y) (o := exN y) (k := 0) (by rw [Nat.pow_zero, Nat.mul_one]) (by omega) (by omega)
  have hin := in_whole w2 w4 w5
  have htr := trunc_whole w2 w3 w4 w5
  rw [hfl, whole_bound ?_, htr]
  · rfl
  · rw [hin]
    refine decide_eq_true ?_
    show -9223372036854775808 ≤ expI y ∧ expI y < 9223372036854775808
    omega
theorem shfW_fin {x : Nat} (h : rung64 x < 9218868437227405312) (n : Int) : nan64 (shfW x n) = false := by
  rw [shfW_num (read_fin64 h)]
  exact nan64_word (by have := rungOf_le Ieee.double (mag64 (rung64 x)) (-1074 + (plc64 (rung64 x) : Int) + n); rw [inf64] at this; exact this)
theorem mul_23some {x : Nat} (h : rung64 x < 9218868437227405312) : floatBits .mul .f64 x 4710765210229538816 = some (shfW x 23) := by
  have e := mul_23 x
  unfold opT at e
  rw [bits_op .mul (by simp)]
  unfold opD at e ⊢
  rw [read_fin64 h, read_c23] at e ⊢
  dsimp only at e ⊢
  rw [show (Ieee.Datum.number (sgn64 x) (mag64 (rung64 x)) (-1074 + (plc64 (rung64 x) : Int))).product (.number false 4503599627370496 (-29)) = some (.number (sgn64 x ^^ false) (mag64 (rung64 x) * 4503599627370496) (-1074 + (plc64 (rung64 x) : Int) + -29)) from rfl] at e ⊢
  rw [told64_some rfl] at e
  rw [← e]; rfl
end Go.Proofs.Ytkgojnjlfkijiaa
/- What operations tell, as a list of properties that last. -/
namespace Go.Proofs.Ytkgojnjlfkijiaa
open Go.RowKit
set_option linter.unusedVariables false
set_option linter.unusedSimpArgs false

structure Spec where
  p : Value → World → Prop
  st : ∀ {v : Value} {x x' : World}, p v x → Q x x' → p v x'
def spV (u : Value) : Spec := ⟨fun v _ => v = u, fun h _ => h⟩
def specAt (l : List Spec) (i : Nat) (v : Value) (x : World) : Prop := match l[i]? with
  | some s => s.p v x
  | none => False
theorem specAt.next {l : List Spec} (i : Nat) (v : Value) (x x' : World) (h : specAt l i v x) (q : Q x x') : specAt l i v x' := by
  unfold specAt at h ⊢
  cases g : l[i]? with
  | none => rw [g] at h; exact h
  | some s => rw [g] at h; exact s.st h q
section
variable {P : Program} {ρ : Operand → Value} {x : World} {d : Option Tmp} {ty : TypeId} {ps : String} {af : Array Edge} {g : Option (Nat × Bool)}
theorem run_sub64 {j k : Nat} {m n r : Int} (h : ρ (.tmp j) = .int .i64 m) (h' : ρ (.tmp k) = .int .i64 n) (hr : IntKind.i64.wrap (m - n) = r) : (execOp ρ { dst := d, op := .binOp .sub 3 (.tmp j) (.tmp k) 3, type := ty, pos := ps, after := af, guard := g }).run Try.prog x = .ok (.value (.int .i64 r)) x := by
  simp [execOp, h, h', go_sem, hr]
theorem run_leq64 {j : Nat} {m n : Int} (h : ρ (.tmp j) = .int .i64 m) (hk : ρ (.const (.int .i64 n)) = .int .i64 n) : (execOp ρ { dst := d, op := .binOp .leq 3 (.tmp j) (.const (.int .i64 n)) 3, type := ty, pos := ps, after := af, guard := g }).run Try.prog x = .ok (.value (.bool (decide (m ≤ n)))) x := by
  simp [execOp, h, hk, go_sem]
end
end Go.Proofs.Ytkgojnjlfkijiaa
/- Regions that draw their order, whose last operation waits for all others: one walk in the order of the text, and then the last operation. -/
namespace Go.Proofs.Ytkgojnjlfkijiaa
open Go.RowKit
set_option linter.unusedVariables false

/-- The last operation waits for all others; each of these waits for earlier ones alone; none is guarded. -/
def lastB (pre : List Oper) (st : Oper) : Bool :=
  ((List.range pre.length).all fun k => match pre[k]? with
    | some o => o.guard.isNone && o.after.toList.all fun e => !(Region.binds .any e) || decide (e.on < k)
    | none => true) &&
  ((st.guard.isNone && st.after.toList.all fun e => !(Region.binds .any e) || decide (e.on < pre.length)) && (List.range pre.length).all fun k => st.after.toList.any fun e => Region.binds .any e && (e.on == k))
theorem lastB_pre {pre : List Oper} {st : Oper} (h : lastB pre st = true) {k : Nat} {o : Oper} (hk : pre[k]? = some o) : o.guard = none ∧ ∀ e ∈ o.after, Region.binds .any e = true → e.on < k := by
  unfold lastB at h
  rw [Bool.and_eq_true] at h
  have hlt : k < pre.length := (List.getElem?_eq_some_iff.1 hk).1
  have h1 := List.all_eq_true.1 h.1 k (List.mem_range.2 hlt)
  rw [hk] at h1
  simp only [Bool.and_eq_true] at h1
  refine ⟨by simpa using h1.1, fun e he hb => ?_⟩
  have h2 := List.all_eq_true.1 h1.2 e (by simpa using he)
  rw [hb] at h2
  simpa using h2
theorem lastB_st {pre : List Oper} {st : Oper} (h : lastB pre st = true) : st.guard = none ∧ (∀ k, k < pre.length → ∃ e ∈ st.after, Region.binds .any e = true ∧ e.on = k) ∧ ∀ e ∈ st.after, Region.binds .any e = true → e.on < pre.length := by
  unfold lastB at h
  simp only [Bool.and_eq_true] at h
  refine ⟨by simpa using h.2.1.1, fun k hk => ?_, fun e he hb => ?_⟩
  rotate_left
  · have h2 := List.all_eq_true.1 h.2.1.2 e (by simpa using he)
    rw [hb] at h2
    simpa using h2
  have h1 := List.all_eq_true.1 h.2.2 k (List.mem_range.2 hk)
  obtain ⟨e, he, h2⟩ := List.any_eq_true.1 h1
  rw [Bool.and_eq_true] at h2
  exact ⟨e, by simpa using he, h2.1, by simpa using h2.2⟩
theorem push_getD_lt (l : Array Bool) (d : Bool) {i : Nat} (h : i < l.size) : (l.push false).getD i d = l.getD i d := by
  rw [Array.getD_eq_getD_getElem?, Array.getD_eq_getD_getElem?, Array.getElem?_push_lt h, Array.getElem?_eq_getElem h]
theorem push_getD_eq (l : Array Bool) (d : Bool) : (l.push false).getD l.size d = false := by
  rw [Array.getD_eq_getD_getElem?, Array.getElem?_push_size]; rfl
theorem ops_lt {pre : List Oper} {st : Oper} {i : Nat} (h : i < pre.length) : (pre ++ [st]).toArray[i]? = pre.toArray[i]? := by
  simp [List.getElem?_append_left h]
theorem ready_lt {pre : List Oper} {st : Oper} (hB : lastB pre st = true) {listed : Array Bool} (hs : listed.size = pre.length) {i : Nat} (hi : i ∈ Region.ready .any (pre ++ [st]).toArray (listed.push false)) :
    (i < pre.length ∧ i ∈ Region.ready .any pre.toArray listed) ∨ (i = pre.length ∧ ∀ k, k < pre.length → listed.getD k false = true) := by
  obtain ⟨h1, o, ho, h2⟩ := mem_ready.1 hi
  rcases Nat.lt_trichotomy i pre.length with h | h | h
  · left
    refine ⟨h, mem_ready.2 ⟨?_, o, ?_, fun e he hb => ?_⟩⟩
    · rw [← push_getD_lt listed true (by omega)]; exact h1
    · rw [← ops_lt (st := st) h]; exact ho
    · have hk : pre[i]? = some o := by rw [ops_lt h] at ho; simpa using ho
      have := (lastB_pre hB hk).2 e he hb
      rw [← push_getD_lt listed false (by omega)]
      exact h2 e he hb
  · right
    refine ⟨h, fun k hk => ?_⟩
    have hst : o = st := by
      rw [h] at ho
      simp at ho
      exact ho.symm
    subst hst
    obtain ⟨e, he, hb, rfl⟩ := (lastB_st hB).2.1 k hk
    rw [← push_getD_lt listed false (by omega)]
    exact h2 e he hb
  · exfalso
    rw [List.getElem?_toArray, List.getElem?_eq_none (by simp; omega)] at ho
    cases ho
theorem ready_back {pre : List Oper} {st : Oper} (hB : lastB pre st = true) {listed : Array Bool} (hs : listed.size = pre.length) {i : Nat} (hi : i ∈ Region.ready .any pre.toArray listed) : i ∈ Region.ready .any (pre ++ [st]).toArray (listed.push false) := by
  obtain ⟨h1, o, ho, h2⟩ := mem_ready.1 hi
  have h : i < pre.length := by
    have := (List.getElem?_eq_some_iff.1 (show pre[i]? = some o by simpa using ho)).1
    exact this
  refine mem_ready.2 ⟨?_, o, ?_, fun e he hb => ?_⟩
  · rw [push_getD_lt listed true (by omega)]; exact h1
  · rw [ops_lt h]; exact ho
  · have hk : pre[i]? = some o := by simpa using ho
    have := (lastB_pre hB hk).2 e he hb
    rw [push_getD_lt listed false (by omega)]
    exact h2 e he hb
theorem ready_nil {pre : List Oper} {st : Oper} (hB : lastB pre st = true) {listed : Array Bool} (hs : listed.size = pre.length) (hr : Region.ready .any pre.toArray listed = []) : ∀ k, k < pre.length → listed.getD k false = true := by
  intro k
  induction k using Nat.strongRecOn with
  | ind k ih =>
    intro hk
    have hk' : k < listed.size := by omega
    cases hl : listed.getD k false with
    | true => rfl
    | false =>
      exfalso
      obtain ⟨o, ho⟩ : ∃ o, pre[k]? = some o := ⟨_, List.getElem?_eq_getElem hk⟩
      have : k ∈ Region.ready .any pre.toArray listed := by
        refine mem_ready.2 ⟨?_, o, by simpa using ho, fun e he hb => ?_⟩
        · rw [Array.getD_eq_getD_getElem?, Array.getElem?_eq_getElem hk'] at hl ⊢; exact hl
        · have := (lastB_pre hB ho).2 e he hb
          exact ih e.on this (by omega)
      rw [hr] at this
      cases this
theorem push_set (l : Array Bool) {i : Nat} (h : i < l.size) : (l.push false).setIfInBounds i true = (l.setIfInBounds i true).push false := by
  apply Array.ext_getElem?
  intro j
  rw [Array.getElem?_setIfInBounds, Array.getElem?_push, Array.getElem?_push, Array.getElem?_setIfInBounds]
  simp only [Array.size_push, Array.size_setIfInBounds]
  by_cases e : i = j
  · subst e
    have h3 : ¬ i = l.size := by omega
    have h4 : i < l.size + 1 := by omega
    simp [h, h3, h4]
  · simp [e]
theorem wpAny_done {P : Program} {ops : Array Oper} {Q' : Exit → Act → World → Prop} {listed : Array Bool} (hr : Region.ready .any ops listed = []) {a : Act} {w : World} (h : Q' .normal a w) : ∀ f, wpAny P .any ops Q' f listed a w
  | 0 => ⟨hr, h⟩
  | f + 1 => ⟨fun _ => h, fun i hi => by rw [hr] at hi; cases hi⟩
theorem wpAny_last {P : Program} {pre : List Oper} {st : Oper} {C : World → Prop} {Q : Act → Prop} {Q' : Exit → Act → World → Prop} (hB : lastB pre st = true)
    (hQ : ∀ a w, C w → Q a → st.wp P a w (fun a' w' => Q' .normal a' w') Q') : ∀ (fuel : Nat) (listed : Array Bool) (a : Act) (w : World), listed.size = pre.length → C w →
    wpAnyQ P .any pre.toArray C Q fuel listed a → wpAny P .any (pre ++ [st]).toArray Q' (fuel + 1) (listed.push false) a w := by
  have done : ∀ (fuel : Nat) (listed : Array Bool) (a : Act) (w : World), listed.size = pre.length → C w → (∀ k, k < pre.length → listed.getD k false = true) → Q a → wpAny P .any (pre ++ [st]).toArray Q' (fuel + 1) (listed.push false) a w := by
    intro fuel listed a w hs hC hall hq
    obtain ⟨g1, g2, g3⟩ := lastB_st hB
    have hrn : pre.length ∈ Region.ready .any (pre ++ [st]).toArray (listed.push false) := by
      refine mem_ready.2 ⟨?_, st, by simp, fun e he hb => ?_⟩
      · rw [← hs]; exact push_getD_eq _ _
      · have := g3 e he hb
        rw [push_getD_lt listed false (by omega)]
        exact hall _ this
    refine ⟨fun hr => (by rw [hr] at hrn; cases hrn), fun i hi => ?_⟩
    have hin : i = pre.length := by
      rcases ready_lt hB hs hi with ⟨h1, h2⟩ | ⟨h1, _⟩
      · exfalso
        obtain ⟨h3, _⟩ := mem_ready.1 h2
        have h4 := hall i h1
        rw [Array.getD_eq_getD_getElem?, Array.getElem?_eq_getElem (by omega)] at h3 h4
        simp at h3 h4
        rw [h4] at h3
        cases h3
      · exact h1
    subst hin
    unfold wpOp
    have hget : (pre ++ [st]).toArray[pre.length]? = some st := by simp
    rw [hget]
    simp only
    rw [if_pos (by unfold Region.wanted; rw [g1])]
    refine Or.inl (Oper.wp_mono (fun a' w' h => ?_) (hQ a w hC hq))
    refine wpAny_done ?_ h fuel
    cases hrr : Region.ready .any (pre ++ [st]).toArray ((listed.push false).setIfInBounds pre.length true) with
    | nil => rfl
    | cons j js =>
      exfalso
      have hj : j ∈ Region.ready .any (pre ++ [st]).toArray ((listed.push false).setIfInBounds pre.length true) := by rw [hrr]; exact List.mem_cons_self
      obtain ⟨h3, o, ho, _⟩ := mem_ready.1 hj
      have hj2 : j < (pre ++ [st]).length := by
        have := (List.getElem?_eq_some_iff.1 (show (pre ++ [st])[j]? = some o by simpa using ho)).1
        exact this
      rw [List.length_append, List.length_singleton] at hj2
      rw [Array.getD_eq_getD_getElem?, Array.getElem?_setIfInBounds] at h3
      by_cases e : pre.length = j
      · rw [if_pos e, if_pos (by rw [Array.size_push]; omega)] at h3
        cases h3
      · rw [if_neg e, Array.getElem?_push_lt (by omega)] at h3
        have h4 := hall j (by omega)
        rw [Array.getD_eq_getD_getElem?, Array.getElem?_eq_getElem (by omega)] at h4
        simp at h3 h4
        rw [h4] at h3
        cases h3
  intro fuel
  induction fuel with
  | zero =>
    intro listed a w hs hC h
    exact done 0 listed a w hs hC (ready_nil hB hs h.1) h.2
  | succ fuel ih =>
    intro listed a w hs hC h
    cases hr : Region.ready .any pre.toArray listed with
    | nil => exact done (fuel + 1) listed a w hs hC (ready_nil hB hs hr) (h.1 hr)
    | cons j js =>
      have hj : j ∈ Region.ready .any pre.toArray listed := by rw [hr]; exact List.mem_cons_self
      refine ⟨fun hn => (by have := ready_back (st := st) hB hs hj; rw [hn] at this; cases this), fun i hi => ?_⟩
      rcases ready_lt hB hs hi with ⟨h1, h2⟩ | ⟨_, h2⟩
      · have hq := h.2 i h2
        obtain ⟨o, ho⟩ : ∃ o, pre[i]? = some o := ⟨_, List.getElem?_eq_getElem h1⟩
        have hg := (lastB_pre hB ho).1
        unfold qOp at hq
        unfold wpOp
        rw [ops_lt h1]
        rw [show pre.toArray[i]? = some o by simpa using ho] at hq ⊢
        simp only at hq ⊢
        have hwt : ∀ y, Region.wanted o y = true := fun y => by unfold Region.wanted; rw [hg]
        rw [if_pos (hwt _)] at hq ⊢
        refine Or.inl (Oper.wp_of_quiet hC (fun a' w' hC' hk => ?_) hq)
        rw [push_set listed (by omega)]
        exact ih (listed.setIfInBounds i true) a' w' (by simpa using hs) hC' hk
      · exfalso
        obtain ⟨h3, o, ho, _⟩ := mem_ready.1 hj
        have hj2 : j < pre.length := (List.getElem?_eq_some_iff.1 (show pre[j]? = some o by simpa using ho)).1
        have h4 := h2 j hj2
        rw [Array.getD_eq_getD_getElem?, Array.getElem?_eq_getElem (by omega)] at h3 h4
        simp at h3 h4
        rw [h4] at h3
        cases h3
/-- The region's wp: the walk of all operations but the last, each quiet in the worlds that differ by new blocks; then the last one. -/
theorem wp_region_last {P : Program} {id : Nat} {R : Exit → Act → World → Prop} {a : Act} {w : World} {l : List Oper} (pre : List Oper) (st : Oper) (hl : l = pre ++ [st]) (hm : P.follows .mixedOrders = true) (hB : Region.lexB .any pre.toArray = true) (hL : lastB pre st = true)
    (h : wpQuiet P pre.toArray (fun w' => ∃ n : QW w, w' = n.x) (fun a' => ∀ (n : QW w) (K : Act → World → Prop), (∀ a'' w'', R .normal a'' w'' → K a'' w'') → st.wp P a' n.x K R) pre a) : (Code.region id l.toArray true).wp P R a w := by
  subst hl
  refine wp_region_any hm ?_
  have hq := wpAnyQ_lex (C := fun w' => ∃ n : QW w, w' = n.x) (md := .any) (by simp only [Region.lexB, Bool.and_eq_true] at hB; exact hB.1) pre 0 (Array.replicate pre.length false) a (by simp) (by simp only [Region.lexB, Bool.and_eq_true] at hB; simpa using hB.2) h
  have := wpAny_last (Q' := R) hL (fun a' w' hC hq => by obtain ⟨n, rfl⟩ := hC; exact hq n _ (fun _ _ h => h)) pre.length (Array.replicate pre.length false) a w.drew (by simp) ⟨⟨w.drew, (Q.refl w).drew⟩, rfl⟩ hq
  have e : (Array.replicate pre.length false).push false = Array.replicate (pre ++ [st]).toArray.size false := by
    rw [show (pre ++ [st]).toArray.size = pre.length + 1 by simp, Array.replicate_succ]
  rw [e] at this
  simpa using this
theorem wp_region_lastn {P : Program} {id : Nat} {R : Exit → Act → World → Prop} {a : Act} {w : World} {l : List Oper} (n : Nat) (hn : l.length = n + 1) (st : Oper) (hst : l[n]? = some st) (hm : P.follows .mixedOrders = true) (hB : Region.lexB .any (l.take n).toArray = true) (hL : lastB (l.take n) st = true)
    (h : wpQuiet P (l.take n).toArray (fun w' => ∃ n : QW w, w' = n.x) (fun a' => ∀ (n : QW w) (K : Act → World → Prop), (∀ a'' w'', R .normal a'' w'' → K a'' w'') → st.wp P a' n.x K R) (l.take n) a) : (Code.region id l.toArray true).wp P R a w := by
  refine wp_region_last (l.take n) st ?_ hm hB hL h
  have h1 : n < l.length := by omega
  have h2 : l[n] = st := by rw [List.getElem?_eq_getElem h1] at hst; injection hst
  rw [← h2, List.take_append_getElem h1, List.take_of_length_le (by omega)]
end Go.Proofs.Ytkgojnjlfkijiaa
