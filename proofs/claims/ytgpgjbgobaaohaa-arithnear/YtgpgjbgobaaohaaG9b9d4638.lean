/- What package arith's Floor, Nearest and Sqrt return, in the model's own words of floats; what was in memory stays as it was. -/
import Derived.Test.YtgpgjbgobaaohaaGe1a02db7
namespace Go.Proofs.Ytgpgjbgobaaohaa
open Go.RowKit

theorem cut_zero (neg : Bool) (n d : Nat) : Ieee.Toward.zero.cut neg n d = n / 2 ^ d := by
  unfold Ieee.Toward.cut
  show n / (1 <<< min d (n.log2 + 2)) + 0 = _
  rw [Nat.shiftLeft_eq, Nat.one_mul, Nat.add_zero]
  rcases Nat.le_total d (n.log2 + 2) with h | h
  · rw [Nat.min_eq_left h]
  · rw [Nat.min_eq_right h]
    have h1 : n < 2 ^ (n.log2 + 1) := Nat.lt_log2_self
    have h2 : 2 ^ (n.log2 + 1) ≤ 2 ^ (n.log2 + 2) := Nat.pow_le_pow_right (by decide) (by omega)
    have h3 : 2 ^ (n.log2 + 2) ≤ 2 ^ d := Nat.pow_le_pow_right (by decide) h
    rw [Nat.div_eq_of_lt (by omega), Nat.div_eq_of_lt (by omega)]

/-- A binary64 as a whole number, towards 0. -/
def truncV (x : Nat) : Int := ((Ieee.double.read x).toInt .zero).getD 0
theorem trunc_fin {x : Nat} (h : rung64 x < 9218868437227405312) : (Ieee.double.read x).toInt .zero = some (truncV x) ∧ truncV x = Ieee.signed (sgn64 x) (mag64 (rung64 x) * 2 ^ (-1074 + (plc64 (rung64 x) : Int)).toNat / 2 ^ (-(-1074 + (plc64 (rung64 x) : Int))).toNat) 0 := by
  unfold truncV
  have e : (Ieee.double.read x).toInt .zero = some (Ieee.signed (sgn64 x) (mag64 (rung64 x) * 2 ^ (-1074 + (plc64 (rung64 x) : Int)).toNat / 2 ^ (-(-1074 + (plc64 (rung64 x) : Int))).toNat) 0) := by
    rw [read_fin64 h]
    show some (Ieee.signed (sgn64 x) (Ieee.Toward.zero.cut _ _ _) 0) = _
    rw [cut_zero, Nat.shiftLeft_eq]
  rw [e]; exact ⟨rfl, rfl⟩
/-- Is a binary64 at least -2^63 and below 2^63? -/
def inWhole (x : Nat) : Bool := !nan64 x && (decide (-4890909195324358656 ≤ srung64 x) && decide (srung64 x < 4890909195324358656))
theorem whole_bound {x : Nat} (h : inWhole x = true) : floatToIntVal .f64 x .i64 = some (truncV x) := by
  unfold inWhole at h
  simp only [Bool.and_eq_true, Bool.not_eq_true', decide_eq_true_eq] at h
  obtain ⟨hn, h1, h2⟩ := h
  have hr : rung64 x ≤ 4890909195324358656 := by
    unfold srung64 at h1 h2
    cases hs : sgn64 x <;> rw [hs] at h1 h2 <;> simp at h1 h2 <;> omega
  obtain ⟨e1, e2⟩ := trunc_fin (x := x) (by omega)
  unfold floatToIntVal
  have e3 : (FloatKind.f64.decode x).toInt .zero = some (truncV x) := e1
  rw [e3]
  dsimp only
  rw [if_pos]
  show (-9223372036854775808 : Int) ≤ truncV x ∧ truncV x ≤ 9223372036854775807
  rw [e2]
  rcases Nat.lt_or_ge (rung64 x) 4890909195324358656 with g | g
  · have hp : plc64 (rung64 x) ≤ 1084 := by unfold plc64; omega
    have hm := mag_lt64 (rung64 x)
    have hv : mag64 (rung64 x) * 2 ^ (-1074 + (plc64 (rung64 x) : Int)).toNat / 2 ^ (-(-1074 + (plc64 (rung64 x) : Int))).toNat < 9223372036854775808 := by
      have h1 : mag64 (rung64 x) * 2 ^ (-1074 + (plc64 (rung64 x) : Int)).toNat < 9007199254740992 * 2 ^ 10 := by
        have a1 : 2 ^ (-1074 + (plc64 (rung64 x) : Int)).toNat ≤ 2 ^ 10 := Nat.pow_le_pow_right (by decide) (by omega)
        have a2 : mag64 (rung64 x) * 2 ^ (-1074 + (plc64 (rung64 x) : Int)).toNat ≤ mag64 (rung64 x) * 2 ^ 10 := Nat.mul_le_mul_left _ a1
        omega
      exact Nat.lt_of_le_of_lt (Nat.div_le_self _ _) h1
    generalize mag64 (rung64 x) * 2 ^ (-1074 + (plc64 (rung64 x) : Int)).toNat / 2 ^ (-(-1074 + (plc64 (rung64 x) : Int))).toNat = z at hv
    unfold Ieee.signed
    rw [Nat.shiftLeft_zero]
    split <;> omega
  · have hr' : rung64 x = 4890909195324358656 := by omega
    have hs : sgn64 x = true := by
      cases hs : sgn64 x
      · unfold srung64 at h2; rw [hs] at h2
        simp at h2; omega
      · rfl
    rw [hr', hs]
    decide +kernel

theorem whole_lo : srung64 14114281232179134464 = -4890909195324358656 := by decide
theorem whole_hi : srung64 4890909195324358656 = 4890909195324358656 := by decide
theorem whole_cases (x : Nat) : (inWhole x = false ∧ (Ieee.double.order x 14114281232179134464 = none ∨ Ieee.double.order x 14114281232179134464 = some .lt ∨ (Ieee.double.order x 14114281232179134464 = some .gt ∧ (Ieee.double.order x 4890909195324358656 = some .eq ∨ Ieee.double.order x 4890909195324358656 = some .gt))))
    ∨ (inWhole x = true ∧ Ieee.double.order x 4890909195324358656 = some .lt ∧ (Ieee.double.order x 14114281232179134464 = some .gt ∨ Ieee.double.order x 14114281232179134464 = some .eq)) := by
  unfold inWhole
  cases h : nan64 x
  · have h' := h
    rw [nan64_rung] at h'
    have h' := of_decide_eq_false h'
    rw [order_num64 (x := x) (y := 14114281232179134464) (by omega) (by decide), order_num64 (x := x) (y := 4890909195324358656) (by omega) (by decide), whole_lo, whole_hi]
    generalize srung64 x = z
    rcases Int.lt_trichotomy z (-4890909195324358656) with a | a | a
    · rw [Int.compare_eq_lt.2 a]
      exact Or.inl ⟨by simp; omega, Or.inr (Or.inl rfl)⟩
    · rw [Int.compare_eq_eq.2 a, Int.compare_eq_lt.2 (by omega : z < 4890909195324358656)]
      exact Or.inr ⟨by simp; omega, rfl, Or.inr rfl⟩
    · rw [Int.compare_eq_gt.2 a]
      rcases Int.lt_trichotomy z 4890909195324358656 with b | b | b
      · rw [Int.compare_eq_lt.2 b]
        exact Or.inr ⟨by simp; omega, rfl, Or.inl rfl⟩
      · rw [Int.compare_eq_eq.2 b]
        exact Or.inl ⟨by simp; omega, Or.inr (Or.inr ⟨rfl, Or.inl rfl⟩)⟩
      · rw [Int.compare_eq_gt.2 b]
        exact Or.inl ⟨by simp; omega, Or.inr (Or.inr ⟨rfl, Or.inr rfl⟩)⟩
  · exact Or.inl ⟨rfl, Or.inl (order_nan1 _ (read64_nan h))⟩

/-- What whole tells: the number, and the error. -/
def wholeI (x : Nat) : Int := if inWhole x = true then truncV x else 0
def wholeE (x : Nat) : Int := if inWhole x = true then 0 else 20
set_option maxHeartbeats 400000 in
theorem whole_any (x : Nat) (w : World) : Calls Try.prog 55 #[.float .f64 x] w fun e w' => e = .returned (.tuple #[.int .i64 (wholeI x), .int .i64 (wholeE x)]) ∧ w' = w := by
  rcases whole_cases x with ⟨h, h1⟩ | ⟨h, o2, h1⟩
  · have e1 : wholeI x = 0 := by unfold wholeI; rw [h]; rfl
    have e2 : wholeE x = 20 := by unfold wholeE; rw [h]; rfl
    rw [e1, e2]
    clear e1 e2 h
    rcases h1 with o1 | o1 | ⟨o1, o2 | o2⟩
    · have o1 : FloatKind.f64.format.order x 14114281232179134464 = none := o1
      go_enter Try.func55, Try.ntmps55
      go_wp2_with fail
      go_ret2
      exact ⟨rfl, rfl⟩
    · have o1 : FloatKind.f64.format.order x 14114281232179134464 = some .lt := o1
      go_enter Try.func55, Try.ntmps55
      go_wp2_with fail
      go_ret2
      exact ⟨rfl, rfl⟩
    · have o1 : FloatKind.f64.format.order x 14114281232179134464 = some .gt := o1
      have o2 : FloatKind.f64.format.order x 4890909195324358656 = some .eq := o2
      go_enter Try.func55, Try.ntmps55
      go_wp2_with fail
      go_ret2
      exact ⟨rfl, rfl⟩
    · have o1 : FloatKind.f64.format.order x 14114281232179134464 = some .gt := o1
      have o2 : FloatKind.f64.format.order x 4890909195324358656 = some .gt := o2
      go_enter Try.func55, Try.ntmps55
      go_wp2_with fail
      go_ret2
      exact ⟨rfl, rfl⟩
  · have e1 : wholeI x = truncV x := by unfold wholeI; rw [h]; rfl
    have e2 : wholeE x = 0 := by unfold wholeE; rw [h]; rfl
    rw [e1, e2]
    clear e1 e2
    have l1 := fun w => run_convert_float_int (P := Try.prog) w 62 2 .f64 .i64 x _ (by kernel_rfl) Try.underlying2 (whole_bound h)
    clear h
    have o2 : FloatKind.f64.format.order x 4890909195324358656 = some .lt := o2
    rcases h1 with o1 | o1
    · have o1 : FloatKind.f64.format.order x 14114281232179134464 = some .gt := o1
      go_enter Try.func55, Try.ntmps55
      go_wp2_with fail
      go_ret2
      exact ⟨rfl, rfl⟩
    · have o1 : FloatKind.f64.format.order x 14114281232179134464 = some .eq := o1
      go_enter Try.func55, Try.ntmps55
      go_wp2_with fail
      go_ret2
      exact ⟨rfl, rfl⟩

/-- A binary64 made whole. -/
def flD (way : Ieee.Toward) (x : Nat) : Nat := Ieee.double.write ((Ieee.double.read x).integral way)
theorem integral_eq (name : String) (way : Ieee.Toward) (x : Nat) : Extern.MathFloor.toIntegral name way #[.float .f64 x] = match FloatKind.f64.decode x with
    | .nan s t => if FloatKind.f64.format.quiet t = t then pure (.float .f64 x) else choose (.extern "math.Floor,Ceil,Trunc,RoundToEven.signallingNaN kept" 2) >>= fun kept => pure (.float .f64 (if kept == 1 then x else FloatKind.f64.encode (.nan s (FloatKind.f64.format.quiet t))))
    | d => pure (.float .f64 (FloatKind.f64.encode (d.integral way))) := by kernel_rfl
theorem integral_run (name : String) (way : Ieee.Toward) {x : Nat} (h : nan64 x = false) (w : World) : (Extern.MathFloor.toIntegral name way #[.float .f64 x]).run Try.prog w = .ok (.float .f64 (flD way x)) w := by
  have hn := read64_num h
  unfold flD
  have e : FloatKind.f64.decode x = Ieee.double.read x := by kernel_rfl
  rw [integral_eq, e]
  cases hd : Ieee.double.read x with
  | nan s t => rw [hd] at hn; cases hn
  | infinity s => rfl
  | number s m p => rfl
/-- Of a NaN: it, or the same made quiet; and what is drawn for it. -/
def flV (x : Nat) (w : World) : Nat := match Ieee.double.read x with
  | .nan s t => if FloatKind.f64.format.quiet t = t then x else if (Question.extern "math.Floor,Ceil,Trunc,RoundToEven.signallingNaN kept" 2).cut (w.tape w.drawn (.extern "math.Floor,Ceil,Trunc,RoundToEven.signallingNaN kept" 2)) == 1 then x else Ieee.double.write (.nan s (FloatKind.f64.format.quiet t))
  | _ => x
def flU (x : Nat) (w : World) : World := match Ieee.double.read x with
  | .nan _ t => if FloatKind.f64.format.quiet t = t then w else w.drew
  | _ => w
theorem flU_q (x : Nat) (w : World) : Q w (flU x w) := by
  unfold flU; split
  · split
    · exact Q.refl _
    · exact (Q.refl _).drew
  · exact Q.refl _
theorem flV_nan {x : Nat} (h : nan64 x = true) (w : World) : nan64 (flV x w) = true := by
  have h' := h
  rw [nan64_rung] at h'
  have h' := of_decide_eq_true h'
  have hr : rung64 x < 9223372036854775808 := Nat.mod_lt _ (by decide)
  unfold flV
  rw [read_nan64 h']
  dsimp only
  split
  · exact h
  · split
    · exact h
    · have ht : rung64 x - 9218868437227405312 < 2 ^ 52 := by omega
      generalize rung64 x - 9218868437227405312 = t at ht
      show nan64 (Ieee.double.word (sgn64 x) (Ieee.double.infRung + (t ||| 2 ^ 51) % Ieee.double.binade)) = true
      rw [inf64, binade64]
      have h1 : t ||| 2 ^ 51 < 2 ^ 52 := Nat.or_lt_two_pow ht (by decide)
      have h2 : 2 ^ 51 ≤ t ||| 2 ^ 51 := Nat.right_le_or
      generalize t ||| 2 ^ 51 = u at h1 h2
      unfold nan64
      rw [word64]
      have := Bool.toNat_lt (sgn64 x)
      exact decide_eq_true (by omega)
theorem integral_nan (name : String) (way : Ieee.Toward) {x : Nat} (h : nan64 x = true) (w : World) : (Extern.MathFloor.toIntegral name way #[.float .f64 x]).run Try.prog w = .ok (.float .f64 (flV x w)) (flU x w) := by
  obtain ⟨s, t, e⟩ := isNaN_cases (read64_nan h)
  have e' : FloatKind.f64.decode x = .nan s t := e
  unfold flV flU
  rw [integral_eq, e', e]
  dsimp only
  by_cases g : FloatKind.f64.format.quiet t = t
  · rw [if_pos g, if_pos g, if_pos g]; rfl
  · rw [if_neg g, if_neg g, if_neg g]
    simp [Question.forced]
    rfl
theorem floor_run {x : Nat} (h : nan64 x = false) (w : World) : (callFunc 70 #[.float .f64 x]).run Try.prog w = .ok (.value (.float .f64 (flD .down x))) w := by
  rw [run_callFunc_extern (e := Extern.MathFloor.toIntegral "math.archFloor" .down) Try.func70 (by kernel_rfl) (by kernel_rfl) (by kernel_rfl) (by kernel_rfl), integral_run _ _ h]
  rfl
theorem floor_nan {x : Nat} (h : nan64 x = true) (w : World) : (callFunc 70 #[.float .f64 x]).run Try.prog w = .ok (.value (.float .f64 (flV x w))) (flU x w) := by
  rw [run_callFunc_extern (e := Extern.MathFloor.toIntegral "math.archFloor" .down) Try.func70 (by kernel_rfl) (by kernel_rfl) (by kernel_rfl) (by kernel_rfl), integral_nan _ _ h]
  rfl
theorem even_run {x : Nat} (h : nan64 x = false) (w : World) : (callFunc 57 #[.float .f64 x]).run Try.prog w = .ok (.value (.float .f64 (flD .even x))) w := by
  rw [run_callFunc_extern (e := Extern.MathFloor.toIntegral "math.RoundToEven" .even) Try.func57 (by kernel_rfl) (by kernel_rfl) (by kernel_rfl) (by kernel_rfl), integral_run _ _ h]
  rfl
theorem even_nan {x : Nat} (h : nan64 x = true) (w : World) : (callFunc 57 #[.float .f64 x]).run Try.prog w = .ok (.value (.float .f64 (flV x w))) (flU x w) := by
  rw [run_callFunc_extern (e := Extern.MathFloor.toIntegral "math.RoundToEven" .even) Try.func57 (by kernel_rfl) (by kernel_rfl) (by kernel_rfl) (by kernel_rfl), integral_nan _ _ h]
  rfl
theorem whole_nan {x : Nat} (h : nan64 x = true) : wholeI x = 0 ∧ wholeE x = 20 := by
  have e : inWhole x = false := by unfold inWhole; rw [h]; rfl
  unfold wholeI wholeE; rw [e]; exact ⟨rfl, rfl⟩
theorem wideN_nan {a : Nat} (h : nanN a = false) : nan64 (wideN a) = false := nan64_write (read32_num h)

/-- What Floor and Nearest tell: the number, and the error. -/
def floI (way : Ieee.Toward) (a : Nat) : Int := if nanN a = true then 0 else wholeI (flD way (wideN a))
def floE (way : Ieee.Toward) (a : Nat) : Int := if nanN a = true then 20 else wholeE (flD way (wideN a))

set_option maxHeartbeats 400000 in
theorem mfloor_any {x : Nat} (h : nan64 x = false) (w : World) : Calls Try.prog 56 #[.float .f64 x] w fun e w' => e = .returned (.float .f64 (flD .down x)) ∧ w' = w := by
  have l1 := fun w => floor_run h w
  go_enter Try.func56, Try.ntmps56
  go_wp2_with fail
  go_ret
  exact ⟨rfl, rfl⟩
set_option maxHeartbeats 400000 in
theorem mfloor_nan {x : Nat} (h : nan64 x = true) (w : World) : Calls Try.prog 56 #[.float .f64 x] w fun e w' => ∃ y, e = .returned (.float .f64 y) ∧ nan64 y = true ∧ Q w w' := by
  have l1 := fun w => floor_nan h w
  go_enter Try.func56, Try.ntmps56
  go_wp2_with fail
  go_ret
  exact ⟨_, rfl, flV_nan h _, flU_q _ _⟩

set_option maxHeartbeats 400000 in
theorem cfloor_any (a : Nat) (w : World) : Calls Try.prog 30 #[.int .u32 (a : Int)] w fun e w' => e = .returned (.tuple #[.int .i64 (floI .down a), .int .i64 (floE .down a)]) ∧ Q w w' := by
  cases h : nanN a
  · have e1 : floI .down a = wholeI (flD .down (wideN a)) := by unfold floI; rw [h]; rfl
    have e2 : floE .down a = wholeE (flD .down (wideN a)) := by unfold floE; rw [h]; rfl
    rw [e1, e2]
    clear e1 e2
    have l1 := fun w => run_convert_float_float (P := Try.prog) w 60 62 .f32 .f64 a _ (by kernel_rfl) Try.underlying62 (wide_conv h)
    go_enter Try.func30, Try.ntmps30
    go_wp2_with fail
    refine (number_any a _).mono ?_
    rintro e w1 ⟨rfl, rfl⟩
    go_wp2_with fail
    refine (mfloor_any (wideN_nan h) _).mono ?_
    rintro e w1 ⟨rfl, rfl⟩
    go_wp2_with fail
    refine (whole_any _ _).mono ?_
    rintro e w1 ⟨rfl, rfl⟩
    go_wp2_with fail
    go_ret2
    exact ⟨rfl, Q.refl _⟩
  · have e1 : floI .down a = 0 := by unfold floI; rw [h]; rfl
    have e2 : floE .down a = 20 := by unfold floE; rw [h]; rfl
    rw [e1, e2]
    clear e1 e2
    have l1 := fun w => run_conv_nan (P := Try.prog) 60 62 .f32 .f64 a (by decide) (by kernel_rfl) Try.underlying62 (read32_nan h) w
    go_enter Try.func30, Try.ntmps30
    go_wp2_with fail
    refine (number_any a _).mono ?_
    rintro e w1 ⟨rfl, rfl⟩
    go_wp2_with fail
    refine (mfloor_nan (nanc64 a _).1 _).mono ?_
    rintro e w2 ⟨y, rfl, hy, q2⟩
    go_wp2_with fail
    refine (whole_any _ _).mono ?_
    rintro e w3 ⟨rfl, rfl⟩
    obtain ⟨k1, k2⟩ := whole_nan hy
    rw [k1, k2]
    go_wp2_with fail
    go_ret2
    exact ⟨rfl, (Q.refl _).drew.trans q2⟩

set_option maxHeartbeats 400000 in
theorem cnear_any (a : Nat) (w : World) : Calls Try.prog 31 #[.int .u32 (a : Int)] w fun e w' => e = .returned (.tuple #[.int .i64 (floI .even a), .int .i64 (floE .even a)]) ∧ Q w w' := by
  cases h : nanN a
  · have e1 : floI .even a = wholeI (flD .even (wideN a)) := by unfold floI; rw [h]; rfl
    have e2 : floE .even a = wholeE (flD .even (wideN a)) := by unfold floE; rw [h]; rfl
    rw [e1, e2]
    clear e1 e2
    have l1 := fun w => run_convert_float_float (P := Try.prog) w 60 62 .f32 .f64 a _ (by kernel_rfl) Try.underlying62 (wide_conv h)
    have l2 := fun w => even_run (wideN_nan h) w
    go_enter Try.func31, Try.ntmps31
    go_wp2_with fail
    refine (number_any a _).mono ?_
    rintro e w1 ⟨rfl, rfl⟩
    go_wp2_with fail
    refine (whole_any _ _).mono ?_
    rintro e w1 ⟨rfl, rfl⟩
    go_wp2_with fail
    go_ret2
    exact ⟨rfl, Q.refl _⟩
  · have e1 : floI .even a = 0 := by unfold floI; rw [h]; rfl
    have e2 : floE .even a = 20 := by unfold floE; rw [h]; rfl
    rw [e1, e2]
    clear e1 e2
    have l1 := fun w => run_conv_nan (P := Try.prog) 60 62 .f32 .f64 a (by decide) (by kernel_rfl) Try.underlying62 (read32_nan h) w
    have l2 := fun u w => even_nan (nanc64 a u).1 w
    go_enter Try.func31, Try.ntmps31
    go_wp2_with fail
    refine (number_any a _).mono ?_
    rintro e w1 ⟨rfl, rfl⟩
    go_wp2_with fail
    refine (whole_any _ _).mono ?_
    rintro e w3 ⟨rfl, rfl⟩
    obtain ⟨k1, k2⟩ := whole_nan (flV_nan (nanc64 a w1).1 w1.drew)
    rw [k1, k2]
    go_wp2_with fail
    go_ret2
    exact ⟨rfl, (Q.refl _).drew.trans (flU_q _ _)⟩

theorem sqrt_eq (x : Nat) : Extern.MathSqrt.sqrt #[.float .f64 x] = Option.casesOn (motive := fun _ => Sem Value) (FloatKind.f64.format.sqrt x) (choose (.nanBits .f64 x x) >>= fun b => pure (.float .f64 b)) (fun r => pure (.float .f64 r)) := by kernel_rfl
theorem sqrt_run0 {x r : Nat} (h : Ieee.double.sqrt x = some r) (w : World) : (Extern.MathSqrt.sqrt #[.float .f64 x]).run Try.prog w = .ok (.float .f64 r) w := by
  have h' : FloatKind.f64.format.sqrt x = some r := h
  rw [sqrt_eq, h']
  rfl
theorem sqrt_none0 {x : Nat} (h : Ieee.double.sqrt x = none) (w : World) : (Extern.MathSqrt.sqrt #[.float .f64 x]).run Try.prog w = .ok (.float .f64 (nanw .f64 x x w)) w.drew := by
  have h' : FloatKind.f64.format.sqrt x = none := h
  rw [sqrt_eq, h']
  simp [Question.forced, nanw]
theorem sqrt_run {x r : Nat} (h : Ieee.double.sqrt x = some r) (w : World) : (callFunc 65 #[.float .f64 x]).run Try.prog w = .ok (.value (.float .f64 r)) w := by
  rw [run_callFunc_extern (e := Extern.MathSqrt.sqrt) Try.func65 (by kernel_rfl) (by kernel_rfl) (by kernel_rfl) (by kernel_rfl), sqrt_run0 h]
  rfl
theorem sqrt_none {x : Nat} (h : Ieee.double.sqrt x = none) (w : World) : (callFunc 65 #[.float .f64 x]).run Try.prog w = .ok (.value (.float .f64 (nanw .f64 x x w))) w.drew := by
  rw [run_callFunc_extern (e := Extern.MathSqrt.sqrt) Try.func65 (by kernel_rfl) (by kernel_rfl) (by kernel_rfl) (by kernel_rfl), sqrt_none0 h]
  rfl
theorem sqrt_nan {x : Nat} (h : nan64 x = true) : Ieee.double.sqrt x = none := by
  obtain ⟨s, t, e⟩ := isNaN_cases (read64_nan h)
  unfold Ieee.Format.sqrt; rw [e]; rfl
/-- The root. -/
def sqrtV (a : Nat) : Nat := if nanN a = true then 2143289344 else match Ieee.double.sqrt (wideN a) with
  | some r => toldD (some (Ieee.double.read r))
  | none => 2143289344
set_option maxHeartbeats 400000 in
theorem msqrt_none {x : Nat} (h : Ieee.double.sqrt x = none) (w : World) : Calls Try.prog 49 #[.float .f64 x] w fun e w' => e = .returned (.float .f64 (nanw .f64 x x w)) ∧ w' = w.drew := by
  have l1 := fun w => sqrt_none h w
  go_enter Try.func49, Try.ntmps49
  go_wp2_with fail
  go_ret
  exact ⟨rfl, rfl⟩
set_option maxHeartbeats 400000 in
theorem msqrt_some {x r : Nat} (h : Ieee.double.sqrt x = some r) (w : World) : Calls Try.prog 49 #[.float .f64 x] w fun e w' => e = .returned (.float .f64 r) ∧ w' = w := by
  have l1 := fun w => sqrt_run h w
  go_enter Try.func49, Try.ntmps49
  go_wp2_with fail
  go_ret
  exact ⟨rfl, rfl⟩
set_option maxHeartbeats 400000 in
theorem csqrt_any (a : Nat) (w : World) : Calls Try.prog 21 #[.int .u32 (a : Int)] w fun e w' => e = .returned (.int .u32 (sqrtV a : Nat)) ∧ Q w w' := by
  cases h : nanN a
  · have l1 := fun w => run_convert_float_float (P := Try.prog) w 60 62 .f32 .f64 a _ (by kernel_rfl) Try.underlying62 (wide_conv h)
    cases hs : Ieee.double.sqrt (wideN a) with
    | none =>
      have e1 : sqrtV a = 2143289344 := by unfold sqrtV; rw [h, hs]; rfl
      rw [e1]
      clear e1
      have hS := fun w => msqrt_none hs w
      clear hs
      go_enter Try.func21, Try.ntmps21
      go_wp2_with fail
      refine (number_any a _).mono ?_
      rintro e w1 ⟨rfl, rfl⟩
      go_wp2_with fail
      refine (hS _).mono ?_
      rintro e w2 ⟨rfl, rfl⟩
      go_wp2_with fail
      refine (narrowed_any _ _).mono ?_
      rintro e w2 ⟨rfl, q2⟩
      go_wp2_with fail
      go_ret
      exact ⟨ret_int (by rw [nar_nan (nanw64 _ _ _).1]), (Q.refl _).drew.trans q2⟩
    | some r =>
      have e1 : sqrtV a = toldD (some (Ieee.double.read r)) := by unfold sqrtV; rw [h, hs]; rfl
      rw [e1]
      clear e1
      have hS := fun w => msqrt_some hs w
      clear hs
      go_enter Try.func21, Try.ntmps21
      go_wp2_with fail
      refine (number_any a _).mono ?_
      rintro e w1 ⟨rfl, rfl⟩
      go_wp2_with fail
      refine (hS _).mono ?_
      rintro e w2 ⟨rfl, rfl⟩
      go_wp2_with fail
      refine (narrowed_any _ _).mono ?_
      rintro e w2 ⟨rfl, q2⟩
      go_wp2_with fail
      go_ret
      exact ⟨rfl, q2⟩
  · have e1 : sqrtV a = 2143289344 := by unfold sqrtV; rw [h]; rfl
    rw [e1]
    clear e1
    have l1 := fun w => run_conv_nan (P := Try.prog) 60 62 .f32 .f64 a (by decide) (by kernel_rfl) Try.underlying62 (read32_nan h) w
    go_enter Try.func21, Try.ntmps21
    go_wp2_with fail
    refine (number_any a _).mono ?_
    rintro e w1 ⟨rfl, rfl⟩
    go_wp2_with fail
    refine (msqrt_none (sqrt_nan (nanc64 a _).1) _).mono ?_
    rintro e w2 ⟨rfl, rfl⟩
    go_wp2_with fail
    refine (narrowed_any _ _).mono ?_
    rintro e w2 ⟨rfl, q2⟩
    go_wp2_with fail
    go_ret
    exact ⟨ret_int (by rw [nar_nan (nanw64 _ _ _).1]), (Q.refl _).drew.drew.trans q2⟩
end Go.Proofs.Ytgpgjbgobaaohaa
