/- Plain facts: a sample's number and power are its value, and the way back. -/
import Derived.Test.YtemfgmnindikfaaClass
import Derived.Test.YtemfgmnindikfaaFrom
import Derived.Test.YtemfgmnindikfaaLdexp
namespace Go.Proofs.Ytemfgmnindikfaa
open Go.RowKit

/-- What fits is the same number in another form. -/
theorem fit_spec {m e m' e' : Int} (h0 : 0 < m) (h1 : m < 2 ^ 64) (h : fitV m e = some (m', e')) : ∃ (o : Int) (k j : Nat), m = o * 2 ^ k ∧ m' = o * 2 ^ j ∧ e + k = e' + j ∧ 0 < o := by
  obtain ⟨o, k, e1, e2, e3, e4⟩ := halve_spec 64 m e h0 h1
  unfold fitV at h
  rw [e1] at h
  simp only at h
  by_cases c : 16777216 ≤ o ∨ e + ↑k < -149 ∨ 127 < e + ↑k
  · rw [if_pos c] at h; cases h
  rw [if_neg c] at h
  obtain ⟨x, j, f1, f2, f3, f4, f5, f6⟩ := up_spec 24 o (e + k) e4 (by omega) (by omega) (pow_24 o e4)
  rw [f1] at h
  simp only at h
  by_cases d : 104 < e + ↑k - ↑j
  · rw [if_pos d] at h; cases h
  rw [if_neg d] at h
  have h' := Option.some.inj h
  have g1 : x = m' := congrArg Prod.fst h'
  have g2 : e + ↑k - ↑j = e' := congrArg Prod.snd h'
  exact ⟨o, k, j, e2, by rw [← g1]; exact f2, by omega, e4⟩

/-- A form that a sample holds fits as it is. -/
theorem fit_self {m e : Int} (h0 : 0 < m) (h1 : m < 16777216) (e0 : -149 ≤ e) (e1 : e ≤ 104) (h : 8388608 ≤ m ∨ e = -149) : fitV m e = some (m, e) := by
  have hu : up 24 m e = (m, e) := up_stop 24 m e (by omega)
  rw [fit_halved (g := 64) rfl h0 (by omega) h1 e0, hu, if_neg (by show ¬ (104 < e); omega)]

/-- How the sample of a form is read. -/
theorem sample_read {neg : Bool} {m e : Int} (h0 : 0 < m) (h1 : m < 16777216) (e0 : -149 ≤ e) (e1 : e ≤ 104) (h : 8388608 ≤ m ∨ e = -149) :
    0 ≤ sampleV neg m e ∧ sampleV neg m e ≤ 4294967295 ∧ Ieee.single.read (sampleV neg m e).toNat = .number neg m.toNat e := by
  have key : (sampleV neg m e).toNat = neg.toNat * 2147483648 + ((e + 149).toNat * 8388608 + m.toNat) ∧ 0 ≤ sampleV neg m e := by
    unfold sampleV
    by_cases c : m < 8388608
    · rw [if_pos c]; have : e = -149 := by omega
      subst this
      cases neg <;> simp <;> omega
    · rw [if_neg c]; cases neg <;> simp <;> omega
  obtain ⟨k1, k2⟩ := key
  have hb := Bool.toNat_lt neg
  have hr : rung (sampleV neg m e).toNat = (e + 149).toNat * 8388608 + m.toNat := by unfold rung; rw [k1]; omega
  have hs : sgn (sampleV neg m e).toNat = neg := by
    unfold sgn; rw [k1]
    cases neg
    · rw [beq_eq_false_iff_ne]; simp; omega
    · rw [beq_iff_eq]; simp; omega
  have hp : plc (rung (sampleV neg m e).toNat) = (e + 149).toNat := by rw [hr]; unfold plc; omega
  have hm : mag (rung (sampleV neg m e).toNat) = m.toNat := by unfold mag; rw [hp, hr]; omega
  refine ⟨k2, by omega, ?_⟩
  rw [read_fin (by rw [hr]; omega), hs, hp, hm]
  congr 1; omega

theorem int_nat {o : Int} {k : Nat} (h : 0 < o) : (o * 2 ^ k).toNat = o.toNat * 2 ^ k := by
  obtain ⟨O, rfl⟩ := Int.eq_ofNat_of_zero_le (Int.le_of_lt h)
  have : ((O : Int) * 2 ^ k) = ((O * 2 ^ k : Nat) : Int) := by simp
  rw [this, Int.toNat_natCast, Int.toNat_natCast]

/-- The number and its sample, both widened. -/
theorem widened {n e m x : Int} (hn : n ≠ 0) (n0 : -9007199254740992 ≤ n) (n1 : n ≤ 9007199254740992) (h : fitV n.natAbs e = some (m, x)) :
    ∃ (M : Nat) (P : Int), 4503599627370496 ≤ M ∧ M < 9007199254740992 ∧ -52 ≤ P ∧ P ≤ 1 ∧ -300 ≤ e ∧ e ≤ 300 ∧ -1074 ≤ P + e ∧ P + e ≤ 971 ∧
      floatOfInt .f64 n = wd (decide (n < 0)) M P ∧ floatToFloatBits .f32 (sampleV (decide (n < 0)) m x).toNat .f64 = some (wd (decide (n < 0)) M (P + e)) := by
  obtain ⟨m0, m1, x0, x1, hx⟩ := fitV_bd (by omega) (by omega) h
  obtain ⟨o, k, j, e1, e2, e3, e4⟩ := fit_spec (by omega) (by omega) h
  obtain ⟨O, rfl⟩ := Int.eq_ofNat_of_zero_le (Int.le_of_lt e4)
  obtain ⟨L, hL⟩ : ∃ L, L = O.log2 := ⟨_, rfl⟩
  have hO : O ≠ 0 := by omega
  have l0 : 2 ^ L ≤ O := by rw [hL]; exact Nat.log2_self_le hO
  have l1 : O < 2 ^ (L + 1) := by rw [hL]; exact Nat.lt_log2_self
  have hnat : n.natAbs = O * 2 ^ k := by
    have : ((O : Int) * 2 ^ k) = ((O * 2 ^ k : Nat) : Int) := by simp
    omega
  have hmat : m.toNat = O * 2 ^ j := by rw [e2, int_nat e4, Int.toNat_natCast]
  have lk : L + k ≤ 53 := by
    have h2 := log2_shift (k := k) l0 l1
    have h3 : (O * 2 ^ k).log2 < 54 := (Nat.log2_lt (by rw [← hnat]; omega)).2 (by rw [← hnat]; omega)
    omega
  have lj : L + j ≤ 23 := by
    have h2 := log2_shift (k := j) l0 l1
    have h3 : (O * 2 ^ j).log2 < 24 := (Nat.log2_lt (by rw [← hmat]; omega)).2 (by rw [← hmat]; omega)
    omega
  have b0 : 4503599627370496 ≤ O * 2 ^ (52 - L) := by
    have h2 : 2 ^ L * 2 ^ (52 - L) ≤ O * 2 ^ (52 - L) := Nat.mul_le_mul_right _ l0
    rw [← Nat.pow_add, show L + (52 - L) = 52 by omega] at h2
    exact h2
  have b1 : O * 2 ^ (52 - L) < 9007199254740992 := by
    have h2 : O * 2 ^ (52 - L) < 2 ^ (L + 1) * 2 ^ (52 - L) := Nat.mul_lt_mul_of_pos_right l1 (Nat.two_pow_pos _)
    rw [← Nat.pow_add, show L + 1 + (52 - L) = 53 by omega] at h2
    exact h2
  refine ⟨O * 2 ^ (52 - L), (0 : Int) + k + L - 52, b0, b1, by omega, by omega, by omega, by omega, by omega, by omega, ?_, ?_⟩
  · show Ieee.double.nearest (decide (n < 0)) n.natAbs 0 = _
    rw [hnat]
    exact nearest_exact l0 l1 (by omega) (by omega) (by omega)
  · obtain ⟨_, _, hr⟩ := sample_read (neg := decide (n < 0)) m0 m1 x0 x1 hx
    have hw : Ieee.double.nearest (decide (n < 0)) m.toNat x = wd (decide (n < 0)) (O * 2 ^ (52 - L)) ((0 : Int) + k + L - 52 + e) := by
      rw [hmat, nearest_exact l0 l1 (by omega) (by omega) (by omega)]
      congr 1; omega
    unfold floatToFloatBits
    rw [if_neg (by decide)]
    have hd : FloatKind.f32.decode (sampleV (decide (n < 0)) m x).toNat = .number (decide (n < 0)) m.toNat x := hr
    rw [hd]
    have he : FloatKind.f64.encode (.number (decide (n < 0)) m.toNat x) = wd (decide (n < 0)) (O * 2 ^ (52 - L)) ((0 : Int) + k + L - 52 + e) := hw
    simp only [he]
    have hi : FloatKind.f64.decode (wd (decide (n < 0)) (O * 2 ^ (52 - L)) ((0 : Int) + k + L - 52 + e)) = .number (decide (n < 0)) (O * 2 ^ (52 - L)) ((0 : Int) + k + L - 52 + e) := read_wd b0 b1 (by omega) (by omega)
    rw [hi]
    rfl

/-- A finite sample that is not nought, out of its parts. -/
theorem parts_back {s : Int} (h0 : 0 ≤ s) (h1 : s ≤ 4294967295) (hf : ¬ expV s = 255) (hn : pN s ≠ 0) :
    fitV (pN s).natAbs (pE s) = some (pAbs s, pE s) ∧ sampleV (decide (pN s < 0)) (pAbs s) (pE s) = s ∧ -16777216 < pN s ∧ pN s < 16777216 := by
  have b1 := expV_bd s
  have b2 := fracV_bd s
  have hm := made_of h0 h1
  have hp0 : 0 ≤ pAbs s := by unfold pAbs; split <;> omega
  have hp1 : pAbs s < 16777216 := by unfold pAbs; split <;> omega
  have hpn : pN s = if negB s = true then -pAbs s else pAbs s := by unfold pN; rw [if_neg hf]
  have hab : ((pN s).natAbs : Int) = pAbs s := by rw [hpn]; split <;> omega
  have hpos : 0 < pAbs s := by omega
  have he : pE s = if expV s = 0 then -149 else expV s - 150 := by unfold pE; rw [if_neg hf]
  have hform : 8388608 ≤ pAbs s ∨ pE s = -149 := by
    rw [he]; unfold pAbs; split <;> omega
  have hsg : decide (pN s < 0) = negB s := by
    rw [hpn]
    cases negB s
    · simp; omega
    · simp; omega
  refine ⟨?_, ?_, by rw [hpn]; split <;> omega, by rw [hpn]; split <;> omega⟩
  · rw [hab]
    refine fit_self hpos hp1 ?_ ?_ hform
    · rw [he]; split <;> omega
    · rw [he]; split <;> omega
  · rw [hsg]
    unfold sampleV negB
    rw [he]
    unfold pAbs
    simp only [decide_eq_true_eq]
    by_cases d : 2147483648 ≤ s
    · simp only [if_pos d] at hm ⊢
      by_cases c : expV s = 0
      · simp only [if_pos c]; rw [if_pos (by omega)]; omega
      · simp only [if_neg c]; rw [if_neg (by omega)]; omega
    · simp only [if_neg d] at hm ⊢
      by_cases c : expV s = 0
      · simp only [if_pos c]; rw [if_pos (by omega)]; omega
      · simp only [if_neg c]; rw [if_neg (by omega)]; omega

theorem nought {s : Int} (h0 : 0 ≤ s) (h1 : s ≤ 4294967295) (hf : ¬ expV s = 255) (hn : pN s = 0) : s = 0 ∨ s = 2147483648 := by
  have b1 := expV_bd s
  have b2 := fracV_bd s
  have hm := made_of h0 h1
  have hab : pAbs s = 0 := by
    unfold pN at hn; rw [if_neg hf] at hn; split at hn <;> omega
  unfold pAbs at hab
  split at hab <;> split at hm <;> omega

/-- Rung, class and sign of a sample, by its parts. -/
theorem rung_parts {s : Int} (h0 : 0 ≤ s) (h1 : s ≤ 4294967295) : (rung s.toNat : Int) = expV s * 8388608 + fracV s := by
  unfold rung expV fracV; omega
theorem order_self {s : Int} (h0 : 0 ≤ s) (h1 : s ≤ 4294967295) (h : ¬ expV s = 255 ∨ fracV s = 0) : Ieee.single.order s.toNat s.toNat = some .eq := by
  have b1 := expV_bd s
  have b2 := fracV_bd s
  have hr := rung_parts h0 h1
  have : rung s.toNat ≤ 2139095040 := by rcases h with h | h <;> omega
  rw [order_num this this, Int.compare_eq_eq.2 rfl]
theorem order_self_nan {s : Int} (h0 : 0 ≤ s) (h1 : s ≤ 4294967295) (h : expV s = 255) (g : ¬ fracV s = 0) : Ieee.single.order s.toNat s.toNat = none := by
  have b2 := fracV_bd s
  have hr := rung_parts h0 h1
  exact order_nan_left (by omega)

theorem sub_self_fin {s : Int} (h0 : 0 ≤ s) (h1 : s ≤ 4294967295) (h : ¬ expV s = 255) : floatBits .sub .f32 s.toNat s.toNat = some 0 := by
  have b1 := expV_bd s
  have b2 := fracV_bd s
  have hr := rung_parts h0 h1
  show (Ieee.Datum.sum (Ieee.single.read s.toNat) (Ieee.single.read s.toNat).opposite).map Ieee.single.write = some 0
  rw [read_fin (by omega)]
  generalize sgn s.toNat = b
  generalize mag (rung s.toNat) = m
  generalize (-149 + (plc (rung s.toNat) : Int)) = p
  have key : Ieee.Datum.sum (.number b m p) (Ieee.Datum.opposite (.number b m p)) = some (.number false 0 (min p p)) := by
    show some (Ieee.Datum.number (if Ieee.signed b m (p - min p p).toNat + Ieee.signed (!b) m (p - min p p).toNat = 0 then b && !b else _) (Ieee.signed b m (p - min p p).toNat + Ieee.signed (!b) m (p - min p p).toNat).natAbs (min p p)) = _
    have e : Ieee.signed b m (p - min p p).toNat + Ieee.signed (!b) m (p - min p p).toNat = 0 := by
      unfold Ieee.signed; cases b <;> simp <;> omega
    rw [e, if_pos rfl]
    cases b <;> rfl
  rw [key]
  rfl

theorem sub_self_inf {s : Int} (h0 : 0 ≤ s) (h1 : s ≤ 4294967295) (h : expV s = 255) (g : fracV s = 0) : Ieee.single.sub s.toNat s.toNat = none := by
  have hr := rung_parts h0 h1
  show (Ieee.Datum.sum (Ieee.single.read s.toNat) (Ieee.single.read s.toNat).opposite).map Ieee.single.write = none
  rw [read_inf (by omega)]
  generalize sgn s.toNat = b
  cases b <;> rfl

/-- The NaN that a difference of infinities is. -/
def nanw (w : World) (x : Nat) : Nat := (Question.nanBits .f32 x x).cut (w.tape w.drawn (.nanBits .f32 x x))
theorem nanw_rung (w : World) (x : Nat) : 2139095040 < rung (nanw w x) := by
  unfold nanw
  generalize w.tape w.drawn (.nanBits .f32 x x) = t
  show 2139095040 < rung ((t % 2) * 2 ^ 31 + 0x7f800000 + 1 + (t / 2) % (2 ^ 23 - 1))
  have hz : (t / 2) % (2 ^ 23 - 1) < 8388607 := Nat.mod_lt _ (by decide)
  generalize (t / 2) % (2 ^ 23 - 1) = z at hz
  generalize t % 2 = a
  unfold rung; omega
theorem run_sub_inf {s : Int} (h0 : 0 ≤ s) (h1 : s ≤ 4294967295) (h : expV s = 255) (g : fracV s = 0) (P : Program) (t : TypeId) (w : World) : (binOp .sub t (.float .f32 s.toNat) (.float .f32 s.toNat)).run P w = .ok (.float .f32 (nanw w s.toNat)) w.drew := by
  have e : FloatKind.f32.format.sub s.toNat s.toNat = none := sub_self_inf h0 h1 h g
  simp [binOp, Op.floatArith, e, nanw, Question.forced]

theorem Q.drew {a b : World} (h : Q a b) : Q a b.drew := ⟨h.1.drew, h.2⟩

theorem wide_nought {s : Int} (h : s = 0 ∨ s = 2147483648) : ∃ r, floatToFloatBits .f32 s.toNat .f64 = some r ∧ (Ieee.double.order 0 r != some Ordering.eq) = false := by
  rcases h with rfl | rfl
  · exact ⟨0, by decide, by decide⟩
  · exact ⟨9223372036854775808, by decide, by decide⟩
theorem wide_zero : floatOfInt .f64 0 = 0 := by decide
end Go.Proofs.Ytemfgmnindikfaa
