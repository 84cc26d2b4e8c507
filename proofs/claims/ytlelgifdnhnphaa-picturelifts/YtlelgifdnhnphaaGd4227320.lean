/- By powers of two, in binary64. -/
import Derived.Test.YtlelgifdnhnphaaG0c29997e
import Derived.Test.YtlelgifdnhnphaaG0fa5a698
import Derived.Test.YtlelgifdnhnphaaGba2c5703
import Derived.Test.YtlelgifdnhnphaaG30b23e90
namespace Go.Proofs.Ytlelgifdnhnphaa
open Go.RowKit
set_option linter.unusedVariables false

theorem told64_num (s : Bool) (m : Nat) (p : Int) : told64 (some (.number s m p)) = Ieee.double.word s (rungOf Ieee.double m p) := by
  rw [told64_some rfl]; show Ieee.double.nearest s m p = _; rw [nearest_rung]
theorem told64_inf (s : Bool) : told64 (some (.infinity s)) = Ieee.double.word s 9218868437227405312 := by
  rw [told64_some rfl]; show Ieee.double.word s Ieee.double.infRung = _; rw [inf64]
theorem mul_power64 (s : Bool) (m : Nat) (p q : Int) : told64 ((Ieee.Datum.number s m p).product (.number false 4503599627370496 q)) = Ieee.double.word s (rungOf Ieee.double m (p + q + 52)) := by
  show told64 (some (.number (s ^^ false) (m * 2 ^ 52) (p + q))) = _
  rw [xor_f, told64_num, rung_scale]; rfl
theorem quo_power64 (s : Bool) {m : Nat} (hm : m < 9007199254740992) (p q : Int) : told64 ((Ieee.Datum.number s m p).quotient 54 (.number false 4503599627370496 q)) = Ieee.double.word s (rungOf Ieee.double m (p - q - 52)) := by
  have hl2 : (4503599627370496 : Nat).log2 = 52 := by decide
  have hl : m.log2 ≤ 52 := by
    by_cases h0 : m = 0
    · subst h0; decide
    · have := (Nat.log2_lt h0).2 (show m < 2 ^ 53 from hm); omega
  obtain ⟨B, hB⟩ : ∃ B, B = 54 + (4503599627370496 : Nat).log2 - m.log2 := ⟨_, rfl⟩
  have hB1 : 54 ≤ B := by omega
  have em : (Ieee.Datum.number s m p).quotient 54 (.number false 4503599627370496 q) = some (.number (s ^^ false) (2 * ((m <<< B) / 4503599627370496) + ((m <<< B) % 4503599627370496 != 0).toNat) (p - q - (B : Int) - 1)) := by
    rw [hB]; simp [Ieee.Datum.quotient]
  have e1 : m <<< B = m * 2 ^ (B - 52) * 4503599627370496 := by
    rw [Nat.shiftLeft_eq, Nat.mul_assoc, show (4503599627370496 : Nat) = 2 ^ 52 from rfl, ← Nat.pow_add, show B - 52 + 52 = B by omega]
  rw [em, e1, Nat.mul_div_cancel _ (by decide), Nat.mul_mod_left, xor_f, told64_num]
  refine congrArg (Ieee.double.word s) ?_
  show rungOf Ieee.double (2 * (m * 2 ^ (B - 52)) + 0) _ = _
  have e2 : 2 * (m * 2 ^ (B - 52)) + 0 = m * 2 ^ (B - 51) := by
    rw [show B - 51 = (B - 52) + 1 by omega, Nat.pow_succ, Nat.add_zero, Nat.mul_comm 2, Nat.mul_assoc]
  rw [e2, rung_scale]
  congr 1; omega
/-- A word times 2^n, rounded. -/
def shfR (n : Int) : RNum → RNum
  | ⟨some (.inr (s, m, e, g))⟩ => .fin s m (e + n) g
  | x => x
def shfW (x : Nat) (n : Int) : Nat := roundD (shfR n (numOf Ieee.double x))
theorem shfW_nan {x : Nat} (h : (Ieee.double.read x).isNaN = true) (n : Int) : shfW x n = 9221120237041090560 := by
  obtain ⟨s, t, e⟩ := isNaN_cases h
  unfold shfW; rw [numOf_datum, e]; rfl
theorem shfW_inf {x : Nat} {s : Bool} (h : Ieee.double.read x = .infinity s) (n : Int) : shfW x n = Ieee.double.word s 9218868437227405312 := by
  unfold shfW; rw [numOf_datum, h]; rfl
theorem shfW_num {x : Nat} {s : Bool} {m : Nat} {p : Int} (h : Ieee.double.read x = .number s m p) (n : Int) : shfW x n = Ieee.double.word s (rungOf Ieee.double m (p + n)) := by
  unfold shfW; rw [numOf_datum, h]
  show roundD (.fin s m (p + n) false) = _
  rw [roundD_fin', nearest_rung]
theorem read_mag {x : Nat} {s : Bool} {m : Nat} {p : Int} (h : Ieee.double.read x = .number s m p) : m < 9007199254740992 := by
  rcases Nat.lt_trichotomy (rung64 x) 9218868437227405312 with g | g | g
  · rw [read_fin64 g] at h
    injection h with _ h _
    rw [← h]; exact mag_lt64 _
  · rw [read_inf64 g] at h; cases h
  · rw [read_nan64 g] at h; cases h
theorem quo_shf (x c : Nat) (q n : Int) (hc : Ieee.double.read c = .number false 4503599627370496 q) (hn : n = -q - 52) : opT .quo x c = shfW x n := by
  unfold opT opD
  rw [hc]
  dsimp only
  cases h : Ieee.double.read x with
  | nan s t => rw [shfW_nan (by rw [h]; rfl)]; rfl
  | infinity s =>
    rw [shfW_inf h, show (Ieee.Datum.infinity s).quotient 54 (.number false 4503599627370496 q) = some (.infinity (s ^^ false)) from rfl, told64_inf, xor_f]
  | number s m p =>
    rw [shfW_num h, quo_power64 s (read_mag h)]
    congr 2; omega
theorem mul_shf (x c : Nat) (q n : Int) (hc : Ieee.double.read c = .number false 4503599627370496 q) (hn : n = q + 52) : opT .mul x c = shfW x n := by
  unfold opT opD
  rw [hc]
  dsimp only
  cases h : Ieee.double.read x with
  | nan s t => rw [shfW_nan (by rw [h]; rfl)]; rfl
  | infinity s =>
    rw [shfW_inf h, show (Ieee.Datum.infinity s).product (.number false 4503599627370496 q) = some (.infinity (s ^^ false)) from rfl, told64_inf, xor_f]
  | number s m p =>
    rw [shfW_num h, mul_power64 s]
    congr 2; omega
theorem opT_comm (x y : Nat) : opT .mul x y = opT .mul y x := by
  unfold opT opD; dsimp only; rw [product_comm]
theorem read_c2 : Ieee.double.read 4611686018427387904 = .number false 4503599627370496 (-51) := by decide
theorem read_c4 : Ieee.double.read 4616189618054758400 = .number false 4503599627370496 (-50) := by decide
theorem read_c23 : Ieee.double.read 4710765210229538816 = .number false 4503599627370496 (-29) := by decide
theorem quo_4 (x : Nat) : opT .quo x 4616189618054758400 = shfW x (-2) := quo_shf x _ _ _ read_c4 (by omega)
theorem quo_2 (x : Nat) : opT .quo x 4611686018427387904 = shfW x (-1) := quo_shf x _ _ _ read_c2 (by omega)
theorem mul_2 (x : Nat) : opT .mul 4611686018427387904 x = shfW x 1 := by rw [opT_comm]; exact mul_shf x _ _ _ read_c2 (by omega)
theorem quo_23 (x : Nat) : opT .quo x 4710765210229538816 = shfW x (-23) := quo_shf x _ _ _ read_c23 (by omega)
theorem mul_23 (x : Nat) : opT .mul x 4710765210229538816 = shfW x 23 := mul_shf x _ _ _ read_c23 (by omega)
theorem opT_add (x y : Nat) : opT .add x y = add64V x y := rfl
end Go.Proofs.Ytlelgifdnhnphaa
/- Log and Exp: what the program returns. -/
namespace Go.Proofs.Ytlelgifdnhnphaa
open Go.RowKit
set_option linter.unusedVariables false

theorem wide_srung_inf {a : Nat} (h : rung32 a = 2139095040) : srung64 (wideN a) = if sgn32 a = true then -9218868437227405312 else 9218868437227405312 := by
  rw [wide_inf h]
  obtain ⟨h1, h2⟩ := sgn_word64 (sgn32 a) (r := 9218868437227405312) (by decide)
  unfold srung64; rw [h1, h2]; rfl
theorem ord_wide {a b : Nat} (ha : nanN a = false) (hb : nanN b = false) : Ieee.double.order (wideN a) (wideN b) = some (compare (srung32 a) (srung32 b)) := by
  have key : ∀ {a : Nat}, nanN a = false → (rung32 a < 2139095040 ∧ rung64 (wideN a) < 9218868437227405312) ∨ (rung32 a = 2139095040 ∧ rung64 (wideN a) = 9218868437227405312) := by
    intro a h
    rcases cases32 h with g | g
    · exact Or.inl ⟨g, (wide_fin g).1⟩
    · refine Or.inr ⟨g, ?_⟩
      rw [wide_inf g]; exact (sgn_word64 _ (by decide)).2
  rcases key ha with ⟨g1, g2⟩ | ⟨g1, g2⟩
  · rcases key hb with ⟨k1, k2⟩ | ⟨k1, k2⟩
    · rw [order_fin64 g2 k2, ← sval_srung64, (wide_fin g1).2.2, (wide_fin k1).2.2, samp_eq a rfl, samp_eq b rfl, cmp_scale (by exact Int.pow_pos (by decide)), sval_srung32]
    · rw [order_num64 (by omega) (by omega)]
      have e1 := wide_srung_inf k1
      have e2 := fin_srung g1
      have e3 : -9218868437227405312 < srung64 (wideN a) ∧ srung64 (wideN a) < 9218868437227405312 := by unfold srung64; split <;> omega
      rcases inf_sign k1 with ⟨s1, s2⟩ | ⟨s1, s2⟩
      · rw [s1, if_pos rfl] at e1
        exact congrArg some (cmp_alike (by omega) (by omega) (by omega))
      · rw [s1, if_neg (by decide)] at e1
        exact congrArg some (cmp_alike (by omega) (by omega) (by omega))
  · rw [order_num64 (by omega) (by rcases key hb with ⟨k1, k2⟩ | ⟨k1, k2⟩ <;> omega)]
    have e1 := wide_srung_inf g1
    rcases key hb with ⟨k1, k2⟩ | ⟨k1, k2⟩
    · have e2 := fin_srung k1
      have e3 : -9218868437227405312 < srung64 (wideN b) ∧ srung64 (wideN b) < 9218868437227405312 := by unfold srung64; split <;> omega
      rcases inf_sign g1 with ⟨s1, s2⟩ | ⟨s1, s2⟩
      · rw [s1, if_pos rfl] at e1
        exact congrArg some (cmp_alike (by omega) (by omega) (by omega))
      · rw [s1, if_neg (by decide)] at e1
        exact congrArg some (cmp_alike (by omega) (by omega) (by omega))
    · have e4 := wide_srung_inf k1
      rcases inf_sign g1 with ⟨s1, s2⟩ | ⟨s1, s2⟩ <;> rcases inf_sign k1 with ⟨t1, t2⟩ | ⟨t1, t2⟩ <;> rw [s1] at e1 <;> rw [t1] at e4
      · rw [if_pos rfl] at e1 e4
        exact congrArg some (cmp_alike (by omega) (by omega) (by omega))
      · rw [if_pos rfl] at e1
        rw [if_neg (by decide)] at e4
        exact congrArg some (cmp_alike (by omega) (by omega) (by omega))
      · rw [if_neg (by decide)] at e1
        rw [if_pos rfl] at e4
        exact congrArg some (cmp_alike (by omega) (by omega) (by omega))
      · rw [if_neg (by decide)] at e1 e4
        exact congrArg some (cmp_alike (by omega) (by omega) (by omega))
theorem wide_n0 : wideN 0 = 0 := by decide +kernel
theorem wide_128 : wideN 1124073472 = 4638707616191610880 := by decide +kernel
theorem wide_127 : wideN 3271426048 = 13862009284302209024 := by decide +kernel
/-- Log of a sample above 0. -/
def logP (x : Nat) : Nat := narW (shfW (floatOfInt .f64 ((x : Int) - 1065353216)) (-23))
def logV (x : Nat) : Nat := if nanN x = true ∨ srung32 x < 0 then 2143289344 else if srung32 x = 0 then 4286578688 else if x = 2139095040 then 2139095040 else logP x
theorem wideW_of {a : Nat} (h : nanN a = false) : wideW a = wideN a := by unfold wideW; rw [h]; rfl
theorem opT_lt {op : BinOp} (x y : Nat) : opT op x y < 18446744073709551616 := by
  unfold opT
  cases h : opD op (Ieee.double.read x) (Ieee.double.read y) with
  | none => show 9221120237041090560 < 18446744073709551616; omega
  | some d => rw [told64_some (opD_num h)]; exact write64_lt d
theorem can_int (n : Int) : canW (floatOfInt .f64 n) = floatOfInt .f64 n := by
  have e : floatOfInt .f64 n = Ieee.double.write (.number (decide (n < 0)) n.natAbs 0) := rfl
  have h : nan64 (floatOfInt .f64 n) = false := by rw [e]; exact nan64_write rfl
  unfold canW; rw [h, if_neg (by decide)]
theorem can_23 : canW 4710765210229538816 = 4710765210229538816 := by decide +kernel
set_option maxHeartbeats 1000000 in
theorem log_any (x : Nat) (hx : x < 4294967296) (w : World) : Calls Try.prog 131 #[.int .u32 (x : Int)] w fun e w' => e = .returned (.int .u32 (logV x : Nat)) ∧ Q w w' := by
  cases h : nanN x
  · have ew := wideW_of h
    have ho := ord_wide h (b := 0) (by decide)
    rw [wide_n0, ← ew, show srung32 0 = 0 from by decide] at ho
    clear ew
    have l4 := fun x y w => run_res .quo (by simp) 138 x y Try.prog w
    have l5 := same7
    rcases Int.lt_trichotomy (srung32 x) 0 with g | g | g
    · have e : logV x = 2143289344 := by unfold logV; rw [if_pos (Or.inr g)]
      rw [e]
      replace ho : FloatKind.f64.format.order (wideW x) 0 = some .lt := by rw [← Int.compare_eq_lt.2 g]; exact ho
      clear e g
      go_enter Try.func131, Try.ntmps131
      go_wp2_with fail
      refine (spnum_any x hx _).mono ?_
      rintro e w1 ⟨rfl, q1⟩
      go_wp2_with fail
      refine (isnan_any x hx _).mono ?_
      rintro e w2 ⟨rfl, q2⟩
      rw [h]
      go_wp2_with fail
      go_ret
      exact ⟨rfl, q1.trans q2⟩
    · have e : logV x = 4286578688 := by unfold logV; rw [if_neg (by rw [h]; simp; omega), if_pos g]
      rw [e]
      replace ho : FloatKind.f64.format.order (wideW x) 0 = some .eq := by rw [← Int.compare_eq_eq.2 g]; exact ho
      clear e g
      go_enter Try.func131, Try.ntmps131
      go_wp2_with fail
      refine (spnum_any x hx _).mono ?_
      rintro e w1 ⟨rfl, q1⟩
      go_wp2_with fail
      refine (isnan_any x hx _).mono ?_
      rintro e w2 ⟨rfl, q2⟩
      rw [h]
      go_wp2_with fail
      go_ret
      exact ⟨rfl, q1.trans q2⟩
    · replace ho : FloatKind.f64.format.order (wideW x) 0 = some .gt := by rw [← Int.compare_eq_gt.2 g]; exact ho
      by_cases k : x = 2139095040
      · have e : logV x = 2139095040 := by unfold logV; rw [if_neg (by rw [h]; simp; omega), if_neg (by omega), if_pos k]
        rw [e]
        have hk : ((x : Int) == 2139095040) = true := by rw [beq_iff_eq]; omega
        clear e g k
        go_enter Try.func131, Try.ntmps131
        go_wp2_with fail
        refine (spnum_any x hx _).mono ?_
        rintro e w1 ⟨rfl, q1⟩
        go_wp2_with fail
        refine (isnan_any x hx _).mono ?_
        rintro e w2 ⟨rfl, q2⟩
        rw [h]
        go_wp2_with fail
        go_ret
        exact ⟨rfl, q1.trans q2⟩
      · have e : logV x = logP x := by unfold logV; rw [if_neg (by rw [h]; simp; omega), if_neg (by omega), if_neg k]
        rw [e]
        have hk : ((x : Int) == 2139095040) = false := by rw [beq_eq_false_iff_ne]; omega
        clear e g k
        go_enter Try.func131, Try.ntmps131
        go_wp2_with fail
        refine (spnum_any x hx _).mono ?_
        rintro e w1 ⟨rfl, q1⟩
        go_wp2_with fail
        refine (isnan_any x hx _).mono ?_
        rintro e w2 ⟨rfl, q2⟩
        rw [h]
        go_wp2_with fail
        refine (spsam_any _ _).mono ?_
        rintro e w3 ⟨rfl, q3⟩
        rw [narW_of (res_can hA4 (can_int _) can_23), quo_23]
        go_wp2_with fail
        go_ret
        exact ⟨rfl, (q1.trans q2).trans ((resU_q _ _ _ _).trans q3)⟩
  · have e : logV x = 2143289344 := by unfold logV; rw [if_pos (Or.inl h)]
    rw [e]
    clear e
    go_enter Try.func131, Try.ntmps131
    go_wp2_with fail
    refine (spnum_any x hx _).mono ?_
    rintro e w1 ⟨rfl, q1⟩
    go_wp2_with fail
    refine (isnan_any x hx _).mono ?_
    rintro e w2 ⟨rfl, q2⟩
    rw [h]
    go_wp2_with fail
    go_ret
    exact ⟨rfl, q1.trans q2⟩
/-- Exp of a number between -127 and 128. -/
def exN (y : Nat) : Nat := wholeN .even (sgn32 y) (mag32 (rung32 y)) (-126 + (plc32 (rung32 y) : Int))
def expI (y : Nat) : Int := Ieee.signed (sgn32 y) (exN y) 0
def expP (y : Nat) : Nat := (expI y + 1065353216).toNat
def expW (y : Nat) : Nat := if nanN y = true then 2143289344 else if 1124073472 ≤ srung32 y then 2139095040 else if srung32 y < -1123942400 then 0 else expP y
theorem integral_shf {y : Nat} (h : rung32 y < 2139095040) : (Ieee.double.read (shfW (wideN y) 23)).integral .even = .number (sgn32 y) (exN y) 0 := by
  unfold exN
  by_cases z : rung32 y = 0
  · rw [wide_zero z, shfW_num (read_word64 _), rungOf_zero, read_word64, z, show mag32 0 = 0 from by decide, wholeN_zero (Or.inr rfl)]
    show Ieee.Datum.number (sgn32 y) (wholeN .even (sgn32 y) 0 (-1074)) 0 = _
    rw [wholeN_zero (Or.inr rfl)]
  · obtain ⟨L, hL, m0, m1, e, hp⟩ := wide_wd z h
    have b0 : 4503599627370496 ≤ mag32 (rung32 y) * 2 ^ (52 - L) := by
      have := Nat.mul_le_mul_right (2 ^ (52 - L)) m0
      rw [← Nat.pow_add, show L + (52 - L) = 52 by omega] at this
      exact this
    have b1 : mag32 (rung32 y) * 2 ^ (52 - L) < 9007199254740992 := by
      have := Nat.mul_lt_mul_of_pos_right m1 (Nat.two_pow_pos (52 - L))
      rw [← Nat.pow_add, show L + 1 + (52 - L) = 53 by omega] at this
      exact this
    have e2 : shfW (wideN y) 23 = wd (sgn32 y) (mag32 (rung32 y) * 2 ^ (52 - L)) (-126 + (plc32 (rung32 y) : Int) + L - 52) := by
      have hr : Ieee.double.read (wideN y) = .number (sgn32 y) (mag32 (rung32 y) * 2 ^ (52 - L)) (-149 + (plc32 (rung32 y) : Int) + L - 52) := by rw [e, read_wd b0 b1 (by omega) (by omega)]
      rw [shfW_num hr, ← nearest_rung]
      have := nearest_exact (neg := sgn32 y) (o := mag32 (rung32 y) * 2 ^ (52 - L)) (L := 52) (k := 0) (p := -149 + (plc32 (rung32 y) : Int) + L - 52 + 23) b0 b1 (by omega) (by omega) (by omega)
      rw [Nat.pow_zero, Nat.mul_one] at this
      rw [this]
      congr 1; omega
    rw [e2, read_wd b0 b1 (by omega) (by omega)]
    show Ieee.Datum.number (sgn32 y) (wholeN .even (sgn32 y) (mag32 (rung32 y) * 2 ^ (52 - L)) (-126 + (plc32 (rung32 y) : Int) + L - 52)) 0 = _
    have := wholeN_scale (Or.inr rfl) (sgn32 y) (mag32 (rung32 y)) (52 - L) (-126 + (plc32 (rung32 y) : Int))
    rw [show -126 + (plc32 (rung32 y) : Int) - ((52 - L : Nat) : Int) = -126 + (plc32 (rung32 y) : Int) + L - 52 by omega] at this
    rw [this]
theorem exN_lo {y : Nat} (h : plc32 (rung32 y) ≤ 126) : exN y = rne (mag32 (rung32 y)) (126 - plc32 (rung32 y)) := by
  unfold exN wholeN
  rw [cut_rne, show (-126 + (plc32 (rung32 y) : Int)).toNat = 0 by omega, Nat.shiftLeft_zero, show (-(-126 + (plc32 (rung32 y) : Int))).toNat = 126 - plc32 (rung32 y) by omega]
theorem exN_hi {y : Nat} (h : 126 ≤ plc32 (rung32 y)) : exN y = mag32 (rung32 y) * 2 ^ (plc32 (rung32 y) - 126) := by
  unfold exN wholeN
  rw [cut_rne, show (-(-126 + (plc32 (rung32 y) : Int))).toNat = 0 by omega, rne_zero, Nat.shiftLeft_eq, show (-126 + (plc32 (rung32 y) : Int)).toNat = plc32 (rung32 y) - 126 by omega]
theorem exN_bd {y : Nat} (h : rung32 y < 1124073472) : exN y < 1073741824 ∧ (rung32 y ≤ 1123942400 → exN y ≤ 1065353216) := by
  have hm := mag_lt32 (rung32 y)
  have hp : plc32 (rung32 y) ≤ 132 := by unfold plc32; omega
  rcases Nat.le_total (plc32 (rung32 y)) 126 with g | g
  · have e := rne_upper (n := mag32 (rung32 y)) (d := 126 - plc32 (rung32 y)) (k := 16777216) (by
      have := Nat.two_pow_pos (126 - plc32 (rung32 y))
      have := Nat.mul_le_mul_left 16777216 this
      omega)
    rw [exN_lo g]
    omega
  · rw [exN_hi g]
    rcases Nat.lt_or_ge (plc32 (rung32 y)) 132 with k | k
    · have : mag32 (rung32 y) * 2 ^ (plc32 (rung32 y) - 126) ≤ 16777215 * 2 ^ 5 := Nat.mul_le_mul (by omega) (Nat.pow_le_pow_right (by decide) (by omega))
      omega
    · have k : plc32 (rung32 y) = 132 := by omega
      rw [k]
      have hr : mag32 (rung32 y) = rung32 y - 132 * 8388608 := by unfold mag32; rw [k]
      omega
theorem sgn0 (s : Bool) (n : Nat) : Ieee.signed s n 0 = if s = true then -(n : Int) else (n : Int) := by
  unfold Ieee.signed; rw [Nat.shiftLeft_zero]
theorem exp_int {y : Nat} (h1 : srung32 y < 1124073472) (h2 : -1123942400 ≤ srung32 y) : rung32 y < 2139095040 ∧ floatToIntVal .f64 (flD .even (shfW (wideN y) 23)) .i64 = some (expI y) ∧ -1065353216 ≤ expI y ∧ expI y < 1073741824 := by
  have hs : srung32 y = if sgn32 y = true then -(rung32 y : Int) else rung32 y := rfl
  have hr : rung32 y < 1124073472 := by cases g : sgn32 y <;> rw [g] at hs <;> simp at hs <;> omega
  obtain ⟨b1, b2⟩ := exN_bd hr
  have hr2 : rung32 y < 2139095040 := by omega
  have hb : -1065353216 ≤ expI y ∧ expI y < 1073741824 := by
    unfold expI; rw [sgn0]
    cases g : sgn32 y <;> rw [g] at hs <;> simp at hs ⊢ <;> omega
  refine ⟨hr2, ?_, hb⟩
  have hfl : flD .even (shfW (wideN y) 23) = Ieee.double.write (.number (sgn32 y) (exN y) 0) := by
    unfold flD; rw [integral_shf hr2]
  obtain ⟨w1, w2, w3, E, w4, w5⟩ := whole_word (s := sgn32 y) (N := exN y) (o := exN y) (k := 0) (by rw [Nat.pow_zero, Nat.mul_one]) (by omega) (by omega)
  have hin := in_whole w2 w4 w5
  have htr := trunc_whole w2 w3 w4 w5
  rw [hfl, whole_bound ?_, htr]
  · rfl
  · rw [hin]
    refine decide_eq_true ?_
    show -9223372036854775808 ≤ expI y ∧ expI y < 9223372036854775808
    omega
theorem shfW_fin {x : Nat} (h : rung64 x < 9218868437227405312) (n : Int) : nan64 (shfW x n) = false := by
  rw [shfW_num (read_fin64 h)]
  exact nan64_word (by have := rungOf_le Ieee.double (mag64 (rung64 x)) (-1074 + (plc64 (rung64 x) : Int) + n); rw [inf64] at this; exact this)
theorem mul_23some {x : Nat} (h : rung64 x < 9218868437227405312) : floatBits .mul .f64 x 4710765210229538816 = some (shfW x 23) := by
  have e := mul_23 x
  unfold opT at e
  rw [bits_op .mul (by simp)]
  unfold opD at e ⊢
  rw [read_fin64 h, read_c23] at e ⊢
  dsimp only at e ⊢
  rw [show (Ieee.Datum.number (sgn64 x) (mag64 (rung64 x)) (-1074 + (plc64 (rung64 x) : Int))).product (.number false 4503599627370496 (-29)) = some (.number (sgn64 x ^^ false) (mag64 (rung64 x) * 4503599627370496) (-1074 + (plc64 (rung64 x) : Int) + -29)) from rfl] at e ⊢
  rw [told64_some rfl] at e
  rw [← e]; rfl
set_option maxHeartbeats 1000000 in
theorem exp_any (y : Nat) (hy : y < 4294967296) (w : World) : Calls Try.prog 132 #[.int .u32 (y : Int)] w fun e w' => e = .returned (.int .u32 (expW y : Nat)) ∧ Q w w' := by
  cases h : nanN y
  · have ew := wideW_of h
    have h1 := ord_wide h (b := 1124073472) (by decide)
    have h2 := ord_wide h (b := 3271426048) (by decide)
    rw [wide_128, ← ew, show srung32 1124073472 = 1124073472 from by decide] at h1
    rw [wide_127, ← ew, show srung32 3271426048 = -1123942400 from by decide] at h2
    have l5 := same7
    rcases Int.lt_or_le (srung32 y) 1124073472 with g | g
    · replace h1 : FloatKind.f64.format.order (wideW y) 4638707616191610880 = some .lt := by rw [← Int.compare_eq_lt.2 g]; exact h1
      rcases Int.lt_or_le (srung32 y) (-1123942400) with k | k
      · have e : expW y = 0 := by unfold expW; rw [if_neg (by rw [h]; decide), if_neg (by omega), if_pos k]
        rw [e]
        replace h2 : FloatKind.f64.format.order (wideW y) 13862009284302209024 = some .lt := by rw [← Int.compare_eq_lt.2 k]; exact h2
        clear e g k ew
        go_enter Try.func132, Try.ntmps132
        go_wp2_with fail
        refine (spnum_any y hy _).mono ?_
        rintro e w1 ⟨rfl, q1⟩
        go_wp2_with fail
        refine (isnan_any y hy _).mono ?_
        rintro e w2 ⟨rfl, q2⟩
        rw [h]
        go_wp2_with fail
        go_ret
        exact ⟨rfl, q1.trans q2⟩
      · have e : expW y = expP y := by unfold expW; rw [if_neg (by rw [h]; decide), if_neg (by omega), if_neg (by omega)]
        rw [e]
        replace h2 : FloatKind.f64.format.order (wideW y) 13862009284302209024 = some .eq ∨ FloatKind.f64.format.order (wideW y) 13862009284302209024 = some .gt := by
          rcases Int.lt_or_eq_of_le k with k | k
          · right; rw [← Int.compare_eq_gt.2 k]; exact h2
          · left; rw [← Int.compare_eq_eq.2 k.symm]; exact h2
        obtain ⟨c0, c1, c2, c3⟩ := exp_int g k
        have m1 : floatBits .mul .f64 (wideW y) 4710765210229538816 = some (shfW (wideN y) 23) := by rw [ew]; exact mul_23some (wide_fin c0).1
        have m2 : nan64 (shfW (wideN y) 23) = false := shfW_fin (wide_fin c0).1 23
        generalize shfW (wideN y) 23 = X at c1 m1 m2
        have l1 := fun w => run_float_arith (P := Try.prog) w .mul 138 .f64 (wideW y) 4710765210229538816 X m1
        have l2 := fun w => even_run m2 w
        have l3 := fun w => run_convert_float_int (P := Try.prog) w 138 3 .f64 .i64 (flD .even X) _ (by kernel_rfl) Try.underlying3 c1
        have ep : Hid ((expP y : Int) = expI y + 1065353216 ∧ expP y < 4294967296) := ⟨by unfold expP; omega, by unfold expP; omega⟩
        have l4 : ((expI y + 1065353216) : Int) = (expP y : Nat) := ep.out.1.symm
        have l6 : wrap64 (expI y + 1065353216) = (expP y : Nat) := by rw [l4]; have := ep.out.2; unfold wrap64; omega
        generalize flD .even X = Z at l2 l3
        generalize expI y = E at l3 l4 l6
        clear e g k ew c0 c1 c2 c3 m1 m2
        rcases h2 with h2 | h2
        all_goals
          go_enter Try.func132, Try.ntmps132
          go_wp2_with fail
          refine (spnum_any y hy _).mono ?_
          rintro e w1 ⟨rfl, q1⟩
          go_wp2_with fail
          refine (isnan_any y hy _).mono ?_
          rintro e w2 ⟨rfl, q2⟩
          rw [h]
          go_wp2_with fail
          go_ret
          exact ⟨ret_int (by have := ep.out.2; unfold wrap64; omega), q1.trans q2⟩
    · have e : expW y = 2139095040 := by unfold expW; rw [if_neg (by rw [h]; decide), if_pos g]
      rw [e]
      replace h1 : FloatKind.f64.format.order (wideW y) 4638707616191610880 = some .eq ∨ FloatKind.f64.format.order (wideW y) 4638707616191610880 = some .gt := by
        rcases Int.lt_or_eq_of_le g with k | k
        · right; rw [← Int.compare_eq_gt.2 k]; exact h1
        · left; rw [← Int.compare_eq_eq.2 k.symm]; exact h1
      clear e g ew h2
      rcases h1 with h1 | h1
      all_goals
        go_enter Try.func132, Try.ntmps132
        go_wp2_with fail
        refine (spnum_any y hy _).mono ?_
        rintro e w1 ⟨rfl, q1⟩
        go_wp2_with fail
        refine (isnan_any y hy _).mono ?_
        rintro e w2 ⟨rfl, q2⟩
        rw [h]
        go_wp2_with fail
        go_ret
        exact ⟨rfl, q1.trans q2⟩
  · have e : expW y = 2143289344 := by unfold expW; rw [if_pos h]
    rw [e]
    clear e
    go_enter Try.func132, Try.ntmps132
    go_wp2_with fail
    refine (spnum_any y hy _).mono ?_
    rintro e w1 ⟨rfl, q1⟩
    go_wp2_with fail
    refine (isnan_any y hy _).mono ?_
    rintro e w2 ⟨rfl, q2⟩
    rw [h]
    go_wp2_with fail
    go_ret
    exact ⟨rfl, q1.trans q2⟩
end Go.Proofs.Ytlelgifdnhnphaa
/- What operations tell, as a list of properties that last. -/
namespace Go.Proofs.Ytlelgifdnhnphaa
open Go.RowKit
set_option linter.unusedVariables false
set_option linter.unusedSimpArgs false

structure Spec where
  p : Value → World → Prop
  st : ∀ {v : Value} {x x' : World}, p v x → Q x x' → p v x'
def spV (u : Value) : Spec := ⟨fun v _ => v = u, fun h _ => h⟩
def specAt (l : List Spec) (i : Nat) (v : Value) (x : World) : Prop := match l[i]? with
  | some s => s.p v x
  | none => False
theorem specAt.next {l : List Spec} (i : Nat) (v : Value) (x x' : World) (h : specAt l i v x) (q : Q x x') : specAt l i v x' := by
  unfold specAt at h ⊢
  cases g : l[i]? with
  | none => rw [g] at h; exact h
  | some s => rw [g] at h; exact s.st h q
section
variable {P : Program} {ρ : Operand → Value} {x : World} {d : Option Tmp} {ty : TypeId} {ps : String} {af : Array Edge} {g : Option (Nat × Bool)}
theorem run_sub64 {j k : Nat} {m n r : Int} (h : ρ (.tmp j) = .int .i64 m) (h' : ρ (.tmp k) = .int .i64 n) (hr : IntKind.i64.wrap (m - n) = r) : (execOp ρ { dst := d, op := .binOp .sub 3 (.tmp j) (.tmp k) 3, type := ty, pos := ps, after := af, guard := g }).run Try.prog x = .ok (.value (.int .i64 r)) x := by
  simp [execOp, h, h', go_sem, hr]
theorem run_leq64 {j : Nat} {m n : Int} (h : ρ (.tmp j) = .int .i64 m) (hk : ρ (.const (.int .i64 n)) = .int .i64 n) : (execOp ρ { dst := d, op := .binOp .leq 3 (.tmp j) (.const (.int .i64 n)) 3, type := ty, pos := ps, after := af, guard := g }).run Try.prog x = .ok (.value (.bool (decide (m ≤ n)))) x := by
  simp [execOp, h, hk, go_sem]
end
end Go.Proofs.Ytlelgifdnhnphaa
