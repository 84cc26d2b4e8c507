/- YCC: what ToYCC and FromYCC return. -/
import Derived.Test.YtdempklpmggdoaaG189defff
import Derived.Test.YtdempklpmggdoaaGb30e3c1a
import Derived.Test.YtdempklpmggdoaaGdf9e7f96
import Derived.Test.YtdempklpmggdoaaG593b3e97
import Derived.Test.YtdempklpmggdoaaG896a57fb
import Derived.Test.YtdempklpmggdoaaG66b92cc8
import Derived.Test.YtdempklpmggdoaaG7ae59892
namespace Go.Proofs.Ytdempklpmggdoaa
open Go.RowKit
set_option linter.unusedVariables false

def yS (r b : Nat) : Nat := opT .add (wideW r) (wideW b)
def yD (g : Nat) : Nat := opT .mul 4611686018427387904 (wideW g)
def ycc0 (r g b : Nat) : Nat := narW (opT .quo (opT .add (yS r b) (yD g)) 4616189618054758400)
def ycc1 (r g b : Nat) : Nat := narW (opT .quo (opT .sub (yD g) (yS r b)) 4616189618054758400)
def ycc2 (r g b : Nat) : Nat := narW (opT .quo (opT .sub (wideW r) (wideW b)) 4611686018427387904)
def rT (y cg : Nat) : Nat := opT .sub (wideW y) (wideW cg)
def rgb0 (y cg co : Nat) : Nat := narW (opT .add (rT y cg) (wideW co))
def rgb1 (y cg co : Nat) : Nat := narW (opT .add (wideW y) (wideW cg))
def rgb2 (y cg co : Nat) : Nat := narW (opT .sub (rT y cg) (wideW co))
theorem ret_a3 {a b c x y z : Nat} (h : a = x) (g : b = y) (k : c = z) : Value.agg #[.int .u32 (a : Nat), .int .u32 (b : Nat), .int .u32 (c : Nat)] = a3 x y z := by rw [h, g, k]; rfl
theorem can_2 : canW 4611686018427387904 = 4611686018427387904 := by decide +kernel
theorem can_4 : canW 4616189618054758400 = 4616189618054758400 := by decide +kernel
set_option maxHeartbeats 2000000 in
theorem yfrom_any (r g b : Nat) (hr : r < 4294967296) (hg : g < 4294967296) (hb : b < 4294967296) (w : World) : Calls Try.prog 99 #[.agg #[], .agg #[.int .u32 (r : Int), .int .u32 (g : Int), .int .u32 (b : Int)]] w fun e w' => e = .returned (a3 (ycc0 r g b) (ycc1 r g b) (ycc2 r g b)) ∧ Q w w' := by
  have l1 := fun x y w => run_res .add (by simp) 104 x y Try.prog w
  have l2 := fun x y w => run_res .sub (by simp) 104 x y Try.prog w
  have l3 := fun x y w => run_res .mul (by simp) 104 x y Try.prog w
  have l4 := fun x y w => run_res .quo (by simp) 104 x y Try.prog w
  have l5 := same7
  have KV : Hid (∀ (s : Nat) (h : s < 4294967296) (w : World), Calls Try.prog 101 #[.int .u32 s] w fun e w' => e = .returned (.float .f64 (wideW s)) ∧ Q w w') := spnum_any
  go_enter Try.func99, Try.ntmps99
  go_wp2_with fail
  have hB : Hid (B3 w _ r g b) := b3_of w 101 r g b
  generalize (((w.alloc (Obj.cells #[] 101)).alloc (Obj.cells #[.int .u32 (r : Int), .int .u32 (g : Int), .int .u32 (b : Int)] 89)).alloc (Obj.cells #[.int .u32 0, .int .u32 0, .int .u32 0] 89)) = wz at hB ⊢
  have d0 := qw_cell hB.out.d0
  have d1 := qw_cell hB.out.d1
  have d2 := qw_cell hB.out.d2
  have n0 := qw_some wz
  refine wp_region_quiet_Q (by kernel_rfl) (by kernel_rfl) ?_
  repeat (first | go_big_quiet_step (first | (go_at_call 101; exact calls_qw (KV.out _ (by assumption) _))) | quiet_step (first | (go_at_call 101; exact calls_qw (KV.out _ (by assumption) _))))
  refine wpQuiet_nil ?_
  intro w4 hw'
  have hq4 := qw_out hw'
  clear hw' d0 d1 d2 n0 KV
  replace hB : Hid (B3 w w4 r g b) := hB.out.next hq4
  clear hq4
  go_wp2_with fail
  refine (spsam_any _ _).mono ?_
  rintro e w5 ⟨rfl, q5⟩
  have Q5 : Hid (Q w4 w5) := (resU_q _ _ _ _).trans ((resU_q _ _ _ _).trans ((resU_q _ _ _ _).trans ((resU_q _ _ _ _).trans (q5))))
  clear q5
  rw [narW_of (res_can hA4 (res_can hA1 (res_can hA1 (can_wide r) (can_wide b)) (res_can hA3 can_2 (can_wide g))) can_4)]
  go_wp2_with fail
  refine (spsam_any _ _).mono ?_
  rintro e w6 ⟨rfl, q6⟩
  have Q6 : Hid (Q w5 w6) := (resU_q _ _ _ _).trans ((resU_q _ _ _ _).trans (q6))
  clear q6
  rw [narW_of (res_can hA4 (res_can hA2 (res_can hA3 can_2 (can_wide g)) (res_can hA1 (can_wide r) (can_wide b))) can_4)]
  go_wp2_with fail
  refine (spsam_any _ _).mono ?_
  rintro e w7 ⟨rfl, q7⟩
  have Q7 : Hid (Q w6 w7) := (resU_q _ _ _ _).trans ((resU_q _ _ _ _).trans (q7))
  clear q7
  rw [narW_of (res_can hA4 (res_can hA2 (can_wide r) (can_wide b)) can_2)]
  replace hB : Hid (B3 w w7 r g b) := hB.out.next ((Q5.out.trans Q6.out).trans Q7.out)
  clear Q5 Q6 Q7
  have hk0 := hB.out.k0
  have hk1 := hB.out.k1
  have hk2 := hB.out.k2
  have hf0 := hB.out.f0
  have hf1 := hB.out.f1
  have hf2 := hB.out.f2
  go_wp2_with fail
  refine bodyPost_ret (v := a3 (ycc0 r g b) (ycc1 r g b) (ycc2 r g b)) (by simp [results, Try.results99, go_sem, hk0, hk1, hk2, a3, ycc0, ycc1, ycc2, yS, yD]) rfl ⟨rfl, ?_⟩
  exact ((hB.out.q.set (by show _ ≤ w.heap.size + 1 + 1; omega) _).set (by show _ ≤ w.heap.size + 1 + 1; omega) _).set (by show _ ≤ w.heap.size + 1 + 1; omega) _
set_option maxHeartbeats 2000000 in
theorem yto_any (r g b : Nat) (hr : r < 4294967296) (hg : g < 4294967296) (hb : b < 4294967296) (w : World) : Calls Try.prog 100 #[.agg #[], .agg #[.int .u32 (r : Int), .int .u32 (g : Int), .int .u32 (b : Int)]] w fun e w' => e = .returned (a3 (rgb0 r g b) (rgb1 r g b) (rgb2 r g b)) ∧ Q w w' := by
  have l1 := fun x y w => run_res .add (by simp) 104 x y Try.prog w
  have l2 := fun x y w => run_res .sub (by simp) 104 x y Try.prog w
  have l3 := fun x y w => run_res .mul (by simp) 104 x y Try.prog w
  have l4 := fun x y w => run_res .quo (by simp) 104 x y Try.prog w
  have l5 := same7
  have KV : Hid (∀ (s : Nat) (h : s < 4294967296) (w : World), Calls Try.prog 101 #[.int .u32 s] w fun e w' => e = .returned (.float .f64 (wideW s)) ∧ Q w w') := spnum_any
  go_enter Try.func100, Try.ntmps100
  go_wp2_with fail
  have hB : Hid (B3 w _ r g b) := b3_of w 101 r g b
  generalize (((w.alloc (Obj.cells #[] 101)).alloc (Obj.cells #[.int .u32 (r : Int), .int .u32 (g : Int), .int .u32 (b : Int)] 89)).alloc (Obj.cells #[.int .u32 0, .int .u32 0, .int .u32 0] 89)) = wz at hB ⊢
  have d0 := qw_cell hB.out.d0
  have d1 := qw_cell hB.out.d1
  have d2 := qw_cell hB.out.d2
  have n0 := qw_some wz
  refine wp_region_quiet_Q (by kernel_rfl) (by kernel_rfl) ?_
  repeat (first | go_big_quiet_step (first | (go_at_call 101; exact calls_qw (KV.out _ (by assumption) _))) | quiet_step (first | (go_at_call 101; exact calls_qw (KV.out _ (by assumption) _))))
  refine wpQuiet_nil ?_
  intro w4 hw'
  have hq4 := qw_out hw'
  clear hw' d0 d1 d2 n0 KV
  replace hB : Hid (B3 w w4 r g b) := hB.out.next hq4
  clear hq4
  go_wp2_with fail
  refine (spsam_any _ _).mono ?_
  rintro e w5 ⟨rfl, q5⟩
  have Q5 : Hid (Q w4 w5) := (resU_q _ _ _ _).trans ((resU_q _ _ _ _).trans (q5))
  clear q5
  rw [narW_of (res_can hA1 (res_can hA2 (can_wide r) (can_wide g)) (can_wide b))]
  go_wp2_with fail
  refine (spsam_any _ _).mono ?_
  rintro e w6 ⟨rfl, q6⟩
  have Q6 : Hid (Q w5 w6) := (resU_q _ _ _ _).trans (q6)
  clear q6
  rw [narW_of (res_can hA1 (can_wide r) (can_wide g))]
  go_wp2_with fail
  refine (spsam_any _ _).mono ?_
  rintro e w7 ⟨rfl, q7⟩
  have Q7 : Hid (Q w6 w7) := (resU_q _ _ _ _).trans (q7)
  clear q7
  rw [narW_of (res_can hA2 (res_can hA2 (can_wide r) (can_wide g)) (can_wide b))]
  replace hB : Hid (B3 w w7 r g b) := hB.out.next ((Q5.out.trans Q6.out).trans Q7.out)
  clear Q5 Q6 Q7
  have hk0 := hB.out.k0
  have hk1 := hB.out.k1
  have hk2 := hB.out.k2
  have hf0 := hB.out.f0
  have hf1 := hB.out.f1
  have hf2 := hB.out.f2
  go_wp2_with fail
  refine bodyPost_ret (v := a3 (rgb0 r g b) (rgb1 r g b) (rgb2 r g b)) (by simp [results, Try.results100, go_sem, hk0, hk1, hk2, a3, rgb0, rgb1, rgb2, rT]) rfl ⟨rfl, ?_⟩
  exact ((hB.out.q.set (by show _ ≤ w.heap.size + 1 + 1; omega) _).set (by show _ ≤ w.heap.size + 1 + 1; omega) _).set (by show _ ≤ w.heap.size + 1 + 1; omega) _
end Go.Proofs.Ytdempklpmggdoaa
/- By powers of two, in binary64. -/
namespace Go.Proofs.Ytdempklpmggdoaa
open Go.RowKit
set_option linter.unusedVariables false

theorem told64_num (s : Bool) (m : Nat) (p : Int) : told64 (some (.number s m p)) = Ieee.double.word s (rungOf Ieee.double m p) := by
  rw [told64_some rfl]; show Ieee.double.nearest s m p = _; rw [nearest_rung]
theorem told64_inf (s : Bool) : told64 (some (.infinity s)) = Ieee.double.word s 9218868437227405312 := by
  rw [told64_some rfl]; show Ieee.double.word s Ieee.double.infRung = _; rw [inf64]
theorem mul_power64 (s : Bool) (m : Nat) (p q : Int) : told64 ((Ieee.Datum.number s m p).product (.number false 4503599627370496 q)) = Ieee.double.word s (rungOf Ieee.double m (p + q + 52)) := by
  show told64 (some (.number (s ^^ false) (m * 2 ^ 52) (p + q))) = _
  rw [xor_f, told64_num, rung_scale]; rfl
theorem quo_power64 (s : Bool) {m : Nat} (hm : m < 9007199254740992) (p q : Int) : told64 ((Ieee.Datum.number s m p).quotient 54 (.number false 4503599627370496 q)) = Ieee.double.word s (rungOf Ieee.double m (p - q - 52)) := by
  have hl2 : (4503599627370496 : Nat).log2 = 52 := by decide
  have hl : m.log2 ≤ 52 := by
    by_cases h0 : m = 0
    · subst h0; decide
    · have := (Nat.log2_lt h0).2 (show m < 2 ^ 53 from hm); omega
  obtain ⟨B, hB⟩ : ∃ B, B = 54 + (4503599627370496 : Nat).log2 - m.log2 := ⟨_, rfl⟩
  have hB1 : 54 ≤ B := by omega
  have em : (Ieee.Datum.number s m p).quotient 54 (.number false 4503599627370496 q) = some (.number (s ^^ false) (2 * ((m <<< B) / 4503599627370496) + ((m <<< B) % 4503599627370496 != 0).toNat) (p - q - (B : Int) - 1)) := by
    rw [hB]; simp [Ieee.Datum.quotient]
  have e1 : m <<< B = m * 2 ^ (B - 52) * 4503599627370496 := by
    rw [Nat.shiftLeft_eq, Nat.mul_assoc, show (4503599627370496 : Nat) = 2 ^ 52 from rfl, ← Nat.pow_add, show B - 52 + 52 = B by omega]
  rw [em, e1, Nat.mul_div_cancel _ (by decide), Nat.mul_mod_left, xor_f, told64_num]
  refine congrArg (Ieee.double.word s) ?_
  show rungOf Ieee.double (2 * (m * 2 ^ (B - 52)) + 0) _ = _
  have e2 : 2 * (m * 2 ^ (B - 52)) + 0 = m * 2 ^ (B - 51) := by
    rw [show B - 51 = (B - 52) + 1 by omega, Nat.pow_succ, Nat.add_zero, Nat.mul_comm 2, Nat.mul_assoc]
  rw [e2, rung_scale]
  congr 1; omega
/-- A word times 2^n, rounded. -/
def shfR (n : Int) : RNum → RNum
  | ⟨some (.inr (s, m, e, g))⟩ => .fin s m (e + n) g
  | x => x
def shfW (x : Nat) (n : Int) : Nat := roundD (shfR n (numOf Ieee.double x))
theorem shfW_nan {x : Nat} (h : (Ieee.double.read x).isNaN = true) (n : Int) : shfW x n = 9221120237041090560 := by
  obtain ⟨s, t, e⟩ := isNaN_cases h
  unfold shfW; rw [numOf_datum, e]; rfl
theorem shfW_inf {x : Nat} {s : Bool} (h : Ieee.double.read x = .infinity s) (n : Int) : shfW x n = Ieee.double.word s 9218868437227405312 := by
  unfold shfW; rw [numOf_datum, h]; rfl
theorem shfW_num {x : Nat} {s : Bool} {m : Nat} {p : Int} (h : Ieee.double.read x = .number s m p) (n : Int) : shfW x n = Ieee.double.word s (rungOf Ieee.double m (p + n)) := by
  unfold shfW; rw [numOf_datum, h]
  show roundD (.fin s m (p + n) false) = _
  rw [roundD_fin', nearest_rung]
theorem read_mag {x : Nat} {s : Bool} {m : Nat} {p : Int} (h : Ieee.double.read x = .number s m p) : m < 9007199254740992 := by
  rcases Nat.lt_trichotomy (rung64 x) 9218868437227405312 with g | g | g
  · rw [read_fin64 g] at h
    injection h with _ h _
    rw [← h]; exact mag_lt64 _
  · rw [read_inf64 g] at h; cases h
  · rw [read_nan64 g] at h; cases h
theorem quo_shf (x c : Nat) (q n : Int) (hc : Ieee.double.read c = .number false 4503599627370496 q) (hn : n = -q - 52) : opT .quo x c = shfW x n := by
  unfold opT opD
  rw [hc]
  dsimp only
  cases h : Ieee.double.read x with
  | nan s t => rw [shfW_nan (by rw [h]; rfl)]; rfl
  | infinity s =>
    rw [shfW_inf h, show (Ieee.Datum.infinity s).quotient 54 (.number false 4503599627370496 q) = some (.infinity (s ^^ false)) from rfl, told64_inf, xor_f]
  | number s m p =>
    rw [shfW_num h, quo_power64 s (read_mag h)]
    congr 2; omega
theorem mul_shf (x c : Nat) (q n : Int) (hc : Ieee.double.read c = .number false 4503599627370496 q) (hn : n = q + 52) : opT .mul x c = shfW x n := by
  unfold opT opD
  rw [hc]
  dsimp only
  cases h : Ieee.double.read x with
  | nan s t => rw [shfW_nan (by rw [h]; rfl)]; rfl
  | infinity s =>
    rw [shfW_inf h, show (Ieee.Datum.infinity s).product (.number false 4503599627370496 q) = some (.infinity (s ^^ false)) from rfl, told64_inf, xor_f]
  | number s m p =>
    rw [shfW_num h, mul_power64 s]
    congr 2; omega
theorem opT_comm (x y : Nat) : opT .mul x y = opT .mul y x := by
  unfold opT opD; dsimp only; rw [product_comm]
theorem read_c2 : Ieee.double.read 4611686018427387904 = .number false 4503599627370496 (-51) := by decide
theorem read_c4 : Ieee.double.read 4616189618054758400 = .number false 4503599627370496 (-50) := by decide
theorem read_c23 : Ieee.double.read 4710765210229538816 = .number false 4503599627370496 (-29) := by decide
theorem quo_4 (x : Nat) : opT .quo x 4616189618054758400 = shfW x (-2) := quo_shf x _ _ _ read_c4 (by omega)
theorem quo_2 (x : Nat) : opT .quo x 4611686018427387904 = shfW x (-1) := quo_shf x _ _ _ read_c2 (by omega)
theorem mul_2 (x : Nat) : opT .mul 4611686018427387904 x = shfW x 1 := by rw [opT_comm]; exact mul_shf x _ _ _ read_c2 (by omega)
theorem quo_23 (x : Nat) : opT .quo x 4710765210229538816 = shfW x (-23) := quo_shf x _ _ _ read_c23 (by omega)
theorem mul_23 (x : Nat) : opT .mul x 4710765210229538816 = shfW x 23 := mul_shf x _ _ _ read_c23 (by omega)
theorem opT_add (x y : Nat) : opT .add x y = add64V x y := rfl
end Go.Proofs.Ytdempklpmggdoaa
/- Finite words of binary64, by what they are worth: plain. -/
namespace Go.Proofs.Ytdempklpmggdoaa
open Go.RowKit
set_option linter.unusedVariables false

theorem RN_mono {Y Z : Int} (h : Y ≤ Z) : RN Y ≤ RN Z := by
  unfold RN
  by_cases hy : Y < 0
  · rw [if_pos hy]
    by_cases hz : Z < 0
    · rw [if_pos hz]
      have := val_le64 (rung_mono Ieee.double (-1074) (show Z.natAbs ≤ Y.natAbs by omega))
      omega
    · rw [if_neg hz]; omega
  · rw [if_neg hy, if_neg (by omega)]
    have := val_le64 (rung_mono Ieee.double (-1074) (show Y.natAbs ≤ Z.natAbs by omega))
    omega
theorem opT_of {op : BinOp} (hop : isA op) {x y W : Nat} (h : floatBits op .f64 x y = some W) : opT op x y = W := by
  rw [bits_op op hop] at h
  unfold opT
  cases hd : opD op (Ieee.double.read x) (Ieee.double.read y) with
  | none => rw [hd] at h; cases h
  | some d =>
    rw [hd] at h
    rw [told64_some (opD_num hd)]
    exact Option.some.inj h
theorem wideW_of {a : Nat} (h : nanN a = false) : wideW a = wideN a := by unfold wideW; rw [h]; rfl
/-- A finite word worth Z. -/
structure Wf (x : Nat) (Z : Int) : Prop where
  fin : rung64 x < 9218868437227405312
  val : sval64 x = Z
theorem wide_wf {a : Nat} (h : rung32 a < 2139095040) : Wf (wideW a) (sampleZ a) := by
  rw [wideW_of (fin_num h)]
  exact ⟨(wide_fin h).1, (wide_fin h).2.2⟩
theorem add_wf {x y : Nat} {X Y : Int} (hx : Wf x X) (hy : Wf y Y) (hs : (X + Y).natAbs.log2 ≤ 2000) : Wf (opT .add x y) (RN (X + Y)) := by
  have e := add_fin hx.fin hy.fin
  rw [hx.val, hy.val] at e
  rw [opT_of hA1 e]
  obtain ⟨_, _, h1, h2⟩ := wordOf_facts (σ := sg (sgn64 x) (sgn64 y) (X + Y)) hs (fun h => sg_of h)
  exact ⟨h1, h2⟩
theorem sub_wf {x y : Nat} {X Y : Int} (hx : Wf x X) (hy : Wf y Y) (hs : (X - Y).natAbs.log2 ≤ 2000) : Wf (opT .sub x y) (RN (X - Y)) := by
  have e := sub_fin hx.fin hy.fin
  rw [hx.val, hy.val] at e
  rw [opT_of hA2 e]
  obtain ⟨_, _, h1, h2⟩ := wordOf_facts (σ := sg (sgn64 x) (!sgn64 y) (X - Y)) hs (fun h => sg_of h)
  exact ⟨h1, h2⟩
theorem sval_signed (x : Nat) : sval64 x = Ieee.signed (sgn64 x) (mag64 (rung64 x)) (plc64 (rung64 x)) := by
  have := signed_read x
  rw [show (-1074 + (plc64 (rung64 x) : Int) + 1074).toNat = plc64 (rung64 x) by omega] at this
  exact this.symm
theorem signed_mul (s : Bool) (m k j : Nat) : Ieee.signed s m (k + j) = Ieee.signed s m k * 2 ^ j := by
  rw [signed_shift]
  unfold Ieee.signed
  rw [Nat.shiftLeft_eq, Nat.shiftLeft_eq, Nat.pow_zero, Nat.mul_one]
theorem nar_wf {x : Nat} {Z : Int} (hx : Wf x Z) : srung32 (narW x) = RS Z ∧ nanN (narW x) = false := by
  unfold narW
  rw [read_fin64 hx.fin]
  refine srung_told (fun h => ?_) ?_
  · have := signed_sign (s := sgn64 x) (m := mag64 (rung64 x)) (k := plc64 (rung64 x))
    rw [← sval_signed, hx.val] at this
    exact this h
  · rw [← hx.val, val_abs]
    unfold val64
    rw [rung_scale]
end Go.Proofs.Ytdempklpmggdoaa
/- Log and Exp: what the program returns. -/
namespace Go.Proofs.Ytdempklpmggdoaa
open Go.RowKit
set_option linter.unusedVariables false

theorem wide_srung_inf {a : Nat} (h : rung32 a = 2139095040) : srung64 (wideN a) = if sgn32 a = true then -9218868437227405312 else 9218868437227405312 := by
  rw [wide_inf h]
  obtain ⟨h1, h2⟩ := sgn_word64 (sgn32 a) (r := 9218868437227405312) (by decide)
  unfold srung64; rw [h1, h2]; rfl
theorem ord_wide {a b : Nat} (ha : nanN a = false) (hb : nanN b = false) : Ieee.double.order (wideN a) (wideN b) = some (compare (srung32 a) (srung32 b)) := by
  have key : ∀ {a : Nat}, nanN a = false → (rung32 a < 2139095040 ∧ rung64 (wideN a) < 9218868437227405312) ∨ (rung32 a = 2139095040 ∧ rung64 (wideN a) = 9218868437227405312) := by
    intro a h
    rcases cases32 h with g | g
    · exact Or.inl ⟨g, (wide_fin g).1⟩
    · refine Or.inr ⟨g, ?_⟩
      rw [wide_inf g]; exact (sgn_word64 _ (by decide)).2
  rcases key ha with ⟨g1, g2⟩ | ⟨g1, g2⟩
  · rcases key hb with ⟨k1, k2⟩ | ⟨k1, k2⟩
    · rw [order_fin64 g2 k2, ← sval_srung64, (wide_fin g1).2.2, (wide_fin k1).2.2, samp_eq a rfl, samp_eq b rfl, cmp_scale (by exact Int.pow_pos (by decide)), sval_srung32]
    · rw [order_num64 (by omega) (by omega)]
      have e1 := wide_srung_inf k1
      have e2 := fin_srung g1
      have e3 : -9218868437227405312 < srung64 (wideN a) ∧ srung64 (wideN a) < 9218868437227405312 := by unfold srung64; split <;> omega
      rcases inf_sign k1 with ⟨s1, s2⟩ | ⟨s1, s2⟩
      · rw [s1, if_pos rfl] at e1
        exact congrArg some (cmp_alike (by omega) (by omega) (by omega))
      · rw [s1, if_neg (by decide)] at e1
        exact congrArg some (cmp_alike (by omega) (by omega) (by omega))
  · rw [order_num64 (by omega) (by rcases key hb with ⟨k1, k2⟩ | ⟨k1, k2⟩ <;> omega)]
    have e1 := wide_srung_inf g1
    rcases key hb with ⟨k1, k2⟩ | ⟨k1, k2⟩
    · have e2 := fin_srung k1
      have e3 : -9218868437227405312 < srung64 (wideN b) ∧ srung64 (wideN b) < 9218868437227405312 := by unfold srung64; split <;> omega
      rcases inf_sign g1 with ⟨s1, s2⟩ | ⟨s1, s2⟩
      · rw [s1, if_pos rfl] at e1
        exact congrArg some (cmp_alike (by omega) (by omega) (by omega))
      · rw [s1, if_neg (by decide)] at e1
        exact congrArg some (cmp_alike (by omega) (by omega) (by omega))
    · have e4 := wide_srung_inf k1
      rcases inf_sign g1 with ⟨s1, s2⟩ | ⟨s1, s2⟩ <;> rcases inf_sign k1 with ⟨t1, t2⟩ | ⟨t1, t2⟩ <;> rw [s1] at e1 <;> rw [t1] at e4
      · rw [if_pos rfl] at e1 e4
        exact congrArg some (cmp_alike (by omega) (by omega) (by omega))
      · rw [if_pos rfl] at e1
        rw [if_neg (by decide)] at e4
        exact congrArg some (cmp_alike (by omega) (by omega) (by omega))
      · rw [if_neg (by decide)] at e1
        rw [if_pos rfl] at e4
        exact congrArg some (cmp_alike (by omega) (by omega) (by omega))
      · rw [if_neg (by decide)] at e1 e4
        exact congrArg some (cmp_alike (by omega) (by omega) (by omega))
theorem wide_n0 : wideN 0 = 0 := by decide +kernel
theorem wide_128 : wideN 1124073472 = 4638707616191610880 := by decide +kernel
theorem wide_127 : wideN 3271426048 = 13862009284302209024 := by decide +kernel
/-- Log of a sample above 0. -/
def logP (x : Nat) : Nat := narW (shfW (floatOfInt .f64 ((x : Int) - 1065353216)) (-23))
def logV (x : Nat) : Nat := if nanN x = true ∨ srung32 x < 0 then 2143289344 else if srung32 x = 0 then 4286578688 else if x = 2139095040 then 2139095040 else logP x
theorem opT_lt {op : BinOp} (x y : Nat) : opT op x y < 18446744073709551616 := by
  unfold opT
  cases h : opD op (Ieee.double.read x) (Ieee.double.read y) with
  | none => show 9221120237041090560 < 18446744073709551616; omega
  | some d => rw [told64_some (opD_num h)]; exact write64_lt d
theorem can_int (n : Int) : canW (floatOfInt .f64 n) = floatOfInt .f64 n := by
  have e : floatOfInt .f64 n = Ieee.double.write (.number (decide (n < 0)) n.natAbs 0) := rfl
  have h : nan64 (floatOfInt .f64 n) = false := by rw [e]; exact nan64_write rfl
  unfold canW; rw [h, if_neg (by decide)]
theorem can_23 : canW 4710765210229538816 = 4710765210229538816 := by decide +kernel
set_option maxHeartbeats 1000000 in
theorem log_any (x : Nat) (hx : x < 4294967296) (w : World) : Calls Try.prog 105 #[.int .u32 (x : Int)] w fun e w' => e = .returned (.int .u32 (logV x : Nat)) ∧ Q w w' := by
  cases h : nanN x
  · have ew := wideW_of h
    have ho := ord_wide h (b := 0) (by decide)
    rw [wide_n0, ← ew, show srung32 0 = 0 from by decide] at ho
    clear ew
    have l4 := fun x y w => run_res .quo (by simp) 104 x y Try.prog w
    have l5 := same7
    rcases Int.lt_trichotomy (srung32 x) 0 with g | g | g
    · have e : logV x = 2143289344 := by unfold logV; rw [if_pos (Or.inr g)]
      rw [e]
      replace ho : FloatKind.f64.format.order (wideW x) 0 = some .lt := by rw [← Int.compare_eq_lt.2 g]; exact ho
      clear e g
      go_enter Try.func105, Try.ntmps105
      go_wp2_with fail
      refine (spnum_any x hx _).mono ?_
      rintro e w1 ⟨rfl, q1⟩
      go_wp2_with fail
      refine (isnan_any x hx _).mono ?_
      rintro e w2 ⟨rfl, q2⟩
      rw [h]
      go_wp2_with fail
      go_ret
      exact ⟨rfl, q1.trans q2⟩
    · have e : logV x = 4286578688 := by unfold logV; rw [if_neg (by rw [h]; simp; omega), if_pos g]
      rw [e]
      replace ho : FloatKind.f64.format.order (wideW x) 0 = some .eq := by rw [← Int.compare_eq_eq.2 g]; exact ho
      clear e g
      go_enter Try.func105, Try.ntmps105
      go_wp2_with fail
      refine (spnum_any x hx _).mono ?_
      rintro e w1 ⟨rfl, q1⟩
      go_wp2_with fail
      refine (isnan_any x hx _).mono ?_
      rintro e w2 ⟨rfl, q2⟩
      rw [h]
      go_wp2_with fail
      go_ret
      exact ⟨rfl, q1.trans q2⟩
    · replace ho : FloatKind.f64.format.order (wideW x) 0 = some .gt := by rw [← Int.compare_eq_gt.2 g]; exact ho
      by_cases k : x = 2139095040
      · have e : logV x = 2139095040 := by unfold logV; rw [if_neg (by rw [h]; simp; omega), if_neg (by omega), if_pos k]
        rw [e]
        have hk : ((x : Int) == 2139095040) = true := by rw [beq_iff_eq]; omega
        clear e g k
        go_enter Try.func105, Try.ntmps105
        go_wp2_with fail
        refine (spnum_any x hx _).mono ?_
        rintro e w1 ⟨rfl, q1⟩
        go_wp2_with fail
        refine (isnan_any x hx _).mono ?_
        rintro e w2 ⟨rfl, q2⟩
        rw [h]
        go_wp2_with fail
        go_ret
        exact ⟨rfl, q1.trans q2⟩
      · have e : logV x = logP x := by unfold logV; rw [if_neg (by rw [h]; simp; omega), if_neg (by omega), if_neg k]
        rw [e]
        have hk : ((x : Int) == 2139095040) = false := by rw [beq_eq_false_iff_ne]; omega
        clear e g k
        go_enter Try.func105, Try.ntmps105
        go_wp2_with fail
        refine (spnum_any x hx _).mono ?_
        rintro e w1 ⟨rfl, q1⟩
        go_wp2_with fail
        refine (isnan_any x hx _).mono ?_
        rintro e w2 ⟨rfl, q2⟩
        rw [h]
        go_wp2_with fail
        refine (spsam_any _ _).mono ?_
        rintro e w3 ⟨rfl, q3⟩
        rw [narW_of (res_can hA4 (can_int _) can_23), quo_23]
        go_wp2_with fail
        go_ret
        exact ⟨rfl, (q1.trans q2).trans ((resU_q _ _ _ _).trans q3)⟩
  · have e : logV x = 2143289344 := by unfold logV; rw [if_pos (Or.inl h)]
    rw [e]
    clear e
    go_enter Try.func105, Try.ntmps105
    go_wp2_with fail
    refine (spnum_any x hx _).mono ?_
    rintro e w1 ⟨rfl, q1⟩
    go_wp2_with fail
    refine (isnan_any x hx _).mono ?_
    rintro e w2 ⟨rfl, q2⟩
    rw [h]
    go_wp2_with fail
    go_ret
    exact ⟨rfl, q1.trans q2⟩
/-- Exp of a number between -127 and 128. -/
def exN (y : Nat) : Nat := wholeN .even (sgn32 y) (mag32 (rung32 y)) (-126 + (plc32 (rung32 y) : Int))
def expI (y : Nat) : Int := Ieee.signed (sgn32 y) (exN y) 0
def expP (y : Nat) : Nat := (expI y + 1065353216).toNat
def expW (y : Nat) : Nat := if nanN y = true then 2143289344 else if 1124073472 ≤ srung32 y then 2139095040 else if srung32 y < -1123942400 then 0 else expP y
theorem integral_shf {y : Nat} (h : rung32 y < 2139095040) : (Ieee.double.read (shfW (wideN y) 23)).integral .even = .number (sgn32 y) (exN y) 0 := by
  unfold exN
  by_cases z : rung32 y = 0
  · rw [wide_zero z, shfW_num (read_word64 _), rungOf_zero, read_word64, z, show mag32 0 = 0 from by decide, wholeN_zero (Or.inr rfl)]
    show Ieee.Datum.number (sgn32 y) (wholeN .even (sgn32 y) 0 (-1074)) 0 = _
    rw [wholeN_zero (Or.inr rfl)]
  · obtain ⟨L, hL, m0, m1, e, hp⟩ := wide_wd z h
    have b0 : 4503599627370496 ≤ mag32 (rung32 y) * 2 ^ (52 - L) := by
      have := Nat.mul_le_mul_right (2 ^ (52 - L)) m0
      rw [← Nat.pow_add, show L + (52 - L) = 52 by omega] at this
      exact this
    have b1 : mag32 (rung32 y) * 2 ^ (52 - L) < 9007199254740992 := by
      have := Nat.mul_lt_mul_of_pos_right m1 (Nat.two_pow_pos (52 - L))
      rw [← Nat.pow_add, show L + 1 + (52 - L) = 53 by omega] at this
      exact this
    have e2 : shfW (wideN y) 23 = wd (sgn32 y) (mag32 (rung32 y) * 2 ^ (52 - L)) (-126 + (plc32 (rung32 y) : Int) + L - 52) := by
      have hr : Ieee.double.read (wideN y) = .number (sgn32 y) (mag32 (rung32 y) * 2 ^ (52 - L)) (-149 + (plc32 (rung32 y) : Int) + L - 52) := by rw [e, read_wd b0 b1 (by omega) (by omega)]
      rw [shfW_num hr, ← nearest_rung]
      have := nearest_exact (neg := sgn32 y) (o := mag32 (rung32 y) * 2 ^ (52 - L)) (L := 52) (k := 0) (p := -149 + (plc32 (rung32 y) : Int) + L - 52 + 23) b0 b1 (by omega) (by omega) (by omega)
      rw [Nat.pow_zero, Nat.mul_one] at this
      rw [this]
      congr 1; omega
    rw [e2, read_wd b0 b1 (by omega) (by omega)]
    show Ieee.Datum.number (sgn32 y) (wholeN .even (sgn32 y) (mag32 (rung32 y) * 2 ^ (52 - L)) (-126 + (plc32 (rung32 y) : Int) + L - 52)) 0 = _
    have := wholeN_scale (Or.inr rfl) (sgn32 y) (mag32 (rung32 y)) (52 - L) (-126 + (plc32 (rung32 y) : Int))
    rw [show -126 + (plc32 (rung32 y) : Int) - ((52 - L : Nat) : Int) = -126 + (plc32 (rung32 y) : Int) + L - 52 by omega] at this
    rw [this]
theorem exN_lo {y : Nat} (h : plc32 (rung32 y) ≤ 126) : exN y = rne (mag32 (rung32 y)) (126 - plc32 (rung32 y)) := by
  unfold exN wholeN
  rw [cut_rne, show (-126 + (plc32 (rung32 y) : Int)).toNat = 0 by omega, Nat.shiftLeft_zero, show (-(-126 + (plc32 (rung32 y) : Int))).toNat = 126 - plc32 (rung32 y) by omega]
theorem exN_hi {y : Nat} (h : 126 ≤ plc32 (rung32 y)) : exN y = mag32 (rung32 y) * 2 ^ (plc32 (rung32 y) - 126) := by
  unfold exN wholeN
  rw [cut_rne, show (-(-126 + (plc32 (rung32 y) : Int))).toNat = 0 by omega, rne_zero, Nat.shiftLeft_eq, show (-126 + (plc32 (rung32 y) : Int)).toNat = plc32 (rung32 y) - 126 by omega]
theorem exN_bd {y : Nat} (h : rung32 y < 1124073472) : exN y < 1073741824 ∧ (rung32 y ≤ 1123942400 → exN y ≤ 1065353216) := by
  have hm := mag_lt32 (rung32 y)
  have hp : plc32 (rung32 y) ≤ 132 := by unfold plc32; omega
  rcases Nat.le_total (plc32 (rung32 y)) 126 with g | g
  · have e := rne_upper (n := mag32 (rung32 y)) (d := 126 - plc32 (rung32 y)) (k := 16777216) (by
      have := Nat.two_pow_pos (126 - plc32 (rung32 y))
      have := Nat.mul_le_mul_left 16777216 this
      omega)
    rw [exN_lo g]
    omega
  · rw [exN_hi g]
    rcases Nat.lt_or_ge (plc32 (rung32 y)) 132 with k | k
    · have : mag32 (rung32 y) * 2 ^ (plc32 (rung32 y) - 126) ≤ 16777215 * 2 ^ 5 := Nat.mul_le_mul (by omega) (Nat.pow_le_pow_right (by decide) (by omega))
      omega
    · have k : plc32 (rung32 y) = 132 := by omega
      rw [k]
      have hr : mag32 (rung32 y) = rung32 y - 132 * 8388608 := by unfold mag32; rw [k]
      omega
theorem sgn0 (s : Bool) (n : Nat) : Ieee.signed s n 0 = if s = true then -(n : Int) else (n : Int) := by
  unfold Ieee.signed; rw [Nat.shiftLeft_zero]
theorem exp_int {y : Nat} (h1 : srung32 y < 1124073472) (h2 : -1123942400 ≤ srung32 y) : rung32 y < 2139095040 ∧ floatToIntVal .f64 (flD .even (shfW (wideN y) 23)) .i64 = some (expI y) ∧ -1065353216 ≤ expI y ∧ expI y < 1073741824 := by
  have hs : srung32 y = if sgn32 y = true then -(rung32 y : Int) else rung32 y := rfl
  have hr : rung32 y < 1124073472 := by cases g : sgn32 y <;> rw [g] at hs <;> simp at hs <;> omega
  obtain ⟨b1, b2⟩ := exN_bd hr
  have hr2 : rung32 y < 2139095040 := by omega
  have hb : -1065353216 ≤ expI y ∧ expI y < 1073741824 := by
    unfold expI; rw [sgn0]
    cases g : sgn32 y <;> rw [g] at hs <;> simp at hs ⊢ <;> omega
  refine ⟨hr2, ?_, hb⟩
  have hfl : flD .even (shfW (wideN y) 23) = Ieee.double.write (.number (sgn32 y) (exN y) 0) := by
    unfold flD; rw [integral_shf hr2]
  obtain ⟨w1, w2, w3, E, w4, w5⟩ := whole_word (s := sgn32 y) (N := exN y) (o := exN y) (k := 0) (by rw [Nat.pow_zero, Nat.mul_one]) (by omega) (by omega)
  have hin := in_whole w2 w4 w5
  have htr := trunc_whole w2 w3 w4 w5
  rw [hfl, whole_bound ?_, htr]
  · rfl
  · rw [hin]
    refine decide_eq_true ?_
    show -9223372036854775808 ≤ expI y ∧ expI y < 9223372036854775808
    omega
theorem shfW_fin {x : Nat} (h : rung64 x < 9218868437227405312) (n : Int) : nan64 (shfW x n) = false := by
  rw [shfW_num (read_fin64 h)]
  exact nan64_word (by have := rungOf_le Ieee.double (mag64 (rung64 x)) (-1074 + (plc64 (rung64 x) : Int) + n); rw [inf64] at this; exact this)
theorem mul_23some {x : Nat} (h : rung64 x < 9218868437227405312) : floatBits .mul .f64 x 4710765210229538816 = some (shfW x 23) := by
  have e := mul_23 x
  unfold opT at e
  rw [bits_op .mul (by simp)]
  unfold opD at e ⊢
  rw [read_fin64 h, read_c23] at e ⊢
  dsimp only at e ⊢
  rw [show (Ieee.Datum.number (sgn64 x) (mag64 (rung64 x)) (-1074 + (plc64 (rung64 x) : Int))).product (.number false 4503599627370496 (-29)) = some (.number (sgn64 x ^^ false) (mag64 (rung64 x) * 4503599627370496) (-1074 + (plc64 (rung64 x) : Int) + -29)) from rfl] at e ⊢
  rw [told64_some rfl] at e
  rw [← e]; rfl
set_option maxHeartbeats 1000000 in
theorem exp_any (y : Nat) (hy : y < 4294967296) (w : World) : Calls Try.prog 106 #[.int .u32 (y : Int)] w fun e w' => e = .returned (.int .u32 (expW y : Nat)) ∧ Q w w' := by
  cases h : nanN y
  · have ew := wideW_of h
    have h1 := ord_wide h (b := 1124073472) (by decide)
    have h2 := ord_wide h (b := 3271426048) (by decide)
    rw [wide_128, ← ew, show srung32 1124073472 = 1124073472 from by decide] at h1
    rw [wide_127, ← ew, show srung32 3271426048 = -1123942400 from by decide] at h2
    have l5 := same7
    rcases Int.lt_or_le (srung32 y) 1124073472 with g | g
    · replace h1 : FloatKind.f64.format.order (wideW y) 4638707616191610880 = some .lt := by rw [← Int.compare_eq_lt.2 g]; exact h1
      rcases Int.lt_or_le (srung32 y) (-1123942400) with k | k
      · have e : expW y = 0 := by unfold expW; rw [if_neg (by rw [h]; decide), if_neg (by omega), if_pos k]
        rw [e]
        replace h2 : FloatKind.f64.format.order (wideW y) 13862009284302209024 = some .lt := by rw [← Int.compare_eq_lt.2 k]; exact h2
        clear e g k ew
        go_enter Try.func106, Try.ntmps106
        go_wp2_with fail
        refine (spnum_any y hy _).mono ?_
        rintro e w1 ⟨rfl, q1⟩
        go_wp2_with fail
        refine (isnan_any y hy _).mono ?_
        rintro e w2 ⟨rfl, q2⟩
        rw [h]
        go_wp2_with fail
        go_ret
        exact ⟨rfl, q1.trans q2⟩
      · have e : expW y = expP y := by unfold expW; rw [if_neg (by rw [h]; decide), if_neg (by omega), if_neg (by omega)]
        rw [e]
        replace h2 : FloatKind.f64.format.order (wideW y) 13862009284302209024 = some .eq ∨ FloatKind.f64.format.order (wideW y) 13862009284302209024 = some .gt := by
          rcases Int.lt_or_eq_of_le k with k | k
          · right; rw [← Int.compare_eq_gt.2 k]; exact h2
          · left; rw [← Int.compare_eq_eq.2 k.symm]; exact h2
        obtain ⟨c0, c1, c2, c3⟩ := exp_int g k
        have m1 : floatBits .mul .f64 (wideW y) 4710765210229538816 = some (shfW (wideN y) 23) := by rw [ew]; exact mul_23some (wide_fin c0).1
        have m2 : nan64 (shfW (wideN y) 23) = false := shfW_fin (wide_fin c0).1 23
        generalize shfW (wideN y) 23 = X at c1 m1 m2
        have l1 := fun w => run_float_arith (P := Try.prog) w .mul 104 .f64 (wideW y) 4710765210229538816 X m1
        have l2 := fun w => even_run m2 w
        have l3 := fun w => run_convert_float_int (P := Try.prog) w 104 3 .f64 .i64 (flD .even X) _ (by kernel_rfl) Try.underlying3 c1
        have ep : Hid ((expP y : Int) = expI y + 1065353216 ∧ expP y < 4294967296) := ⟨by unfold expP; omega, by unfold expP; omega⟩
        have l4 : ((expI y + 1065353216) : Int) = (expP y : Nat) := ep.out.1.symm
        have l6 : wrap64 (expI y + 1065353216) = (expP y : Nat) := by rw [l4]; have := ep.out.2; unfold wrap64; omega
        generalize flD .even X = Z at l2 l3
        generalize expI y = E at l3 l4 l6
        clear e g k ew c0 c1 c2 c3 m1 m2
        rcases h2 with h2 | h2
        all_goals
          go_enter Try.func106, Try.ntmps106
          go_wp2_with fail
          refine (spnum_any y hy _).mono ?_
          rintro e w1 ⟨rfl, q1⟩
          go_wp2_with fail
          refine (isnan_any y hy _).mono ?_
          rintro e w2 ⟨rfl, q2⟩
          rw [h]
          go_wp2_with fail
          go_ret
          exact ⟨ret_int (by have := ep.out.2; unfold wrap64; omega), q1.trans q2⟩
    · have e : expW y = 2139095040 := by unfold expW; rw [if_neg (by rw [h]; decide), if_pos g]
      rw [e]
      replace h1 : FloatKind.f64.format.order (wideW y) 4638707616191610880 = some .eq ∨ FloatKind.f64.format.order (wideW y) 4638707616191610880 = some .gt := by
        rcases Int.lt_or_eq_of_le g with k | k
        · right; rw [← Int.compare_eq_gt.2 k]; exact h1
        · left; rw [← Int.compare_eq_eq.2 k.symm]; exact h1
      clear e g ew h2
      rcases h1 with h1 | h1
      all_goals
        go_enter Try.func106, Try.ntmps106
        go_wp2_with fail
        refine (spnum_any y hy _).mono ?_
        rintro e w1 ⟨rfl, q1⟩
        go_wp2_with fail
        refine (isnan_any y hy _).mono ?_
        rintro e w2 ⟨rfl, q2⟩
        rw [h]
        go_wp2_with fail
        go_ret
        exact ⟨rfl, q1.trans q2⟩
  · have e : expW y = 2143289344 := by unfold expW; rw [if_pos h]
    rw [e]
    clear e
    go_enter Try.func106, Try.ntmps106
    go_wp2_with fail
    refine (spnum_any y hy _).mono ?_
    rintro e w1 ⟨rfl, q1⟩
    go_wp2_with fail
    refine (isnan_any y hy _).mono ?_
    rintro e w2 ⟨rfl, q2⟩
    rw [h]
    go_wp2_with fail
    go_ret
    exact ⟨rfl, q1.trans q2⟩
end Go.Proofs.Ytdempklpmggdoaa
/- What operations tell, as a list of properties that last. -/
namespace Go.Proofs.Ytdempklpmggdoaa
open Go.RowKit
set_option linter.unusedVariables false
set_option linter.unusedSimpArgs false

structure Spec where
  p : Value → World → Prop
  st : ∀ {v : Value} {x x' : World}, p v x → Q x x' → p v x'
def spV (u : Value) : Spec := ⟨fun v _ => v = u, fun h _ => h⟩
def specAt (l : List Spec) (i : Nat) (v : Value) (x : World) : Prop := match l[i]? with
  | some s => s.p v x
  | none => False
theorem specAt.next {l : List Spec} (i : Nat) (v : Value) (x x' : World) (h : specAt l i v x) (q : Q x x') : specAt l i v x' := by
  unfold specAt at h ⊢
  cases g : l[i]? with
  | none => rw [g] at h; exact h
  | some s => rw [g] at h; exact s.st h q
section
variable {P : Program} {ρ : Operand → Value} {x : World} {d : Option Tmp} {ty : TypeId} {ps : String} {af : Array Edge} {g : Option (Nat × Bool)}
theorem run_sub64 {j k : Nat} {m n r : Int} (h : ρ (.tmp j) = .int .i64 m) (h' : ρ (.tmp k) = .int .i64 n) (hr : IntKind.i64.wrap (m - n) = r) : (execOp ρ { dst := d, op := .binOp .sub 3 (.tmp j) (.tmp k) 3, type := ty, pos := ps, after := af, guard := g }).run Try.prog x = .ok (.value (.int .i64 r)) x := by
  simp [execOp, h, h', go_sem, hr]
theorem run_leq64 {j : Nat} {m n : Int} (h : ρ (.tmp j) = .int .i64 m) (hk : ρ (.const (.int .i64 n)) = .int .i64 n) : (execOp ρ { dst := d, op := .binOp .leq 3 (.tmp j) (.const (.int .i64 n)) 3, type := ty, pos := ps, after := af, guard := g }).run Try.prog x = .ok (.value (.bool (decide (m ≤ n)))) x := by
  simp [execOp, h, hk, go_sem]
end
end Go.Proofs.Ytdempklpmggdoaa
/- Regions that draw their order, whose last operation waits for all others: one walk in the order of the text, and then the last operation. -/
namespace Go.Proofs.Ytdempklpmggdoaa
open Go.RowKit
set_option linter.unusedVariables false

/-- The last operation waits for all others; each of these waits for earlier ones alone; none is guarded. -/
def lastB (pre : List Oper) (st : Oper) : Bool :=
  ((List.range pre.length).all fun k => match pre[k]? with
    | some o => o.guard.isNone && o.after.toList.all fun e => !(Region.binds .any e) || decide (e.on < k)
    | none => true) &&
  ((st.guard.isNone && st.after.toList.all fun e => !(Region.binds .any e) || decide (e.on < pre.length)) && (List.range pre.length).all fun k => st.after.toList.any fun e => Region.binds .any e && (e.on == k))
theorem lastB_pre {pre : List Oper} {st : Oper} (h : lastB pre st = true) {k : Nat} {o : Oper} (hk : pre[k]? = some o) : o.guard = none ∧ ∀ e ∈ o.after, Region.binds .any e = true → e.on < k := by
  unfold lastB at h
  rw [Bool.and_eq_true] at h
  have hlt : k < pre.length := (List.getElem?_eq_some_iff.1 hk).1
  have h1 := List.all_eq_true.1 h.1 k (List.mem_range.2 hlt)
  rw [hk] at h1
  simp only [Bool.and_eq_true] at h1
  refine ⟨by simpa using h1.1, fun e he hb => ?_⟩
  have h2 := List.all_eq_true.1 h1.2 e (by simpa using he)
  rw [hb] at h2
  simpa using h2
theorem lastB_st {pre : List Oper} {st : Oper} (h : lastB pre st = true) : st.guard = none ∧ (∀ k, k < pre.length → ∃ e ∈ st.after, Region.binds .any e = true ∧ e.on = k) ∧ ∀ e ∈ st.after, Region.binds .any e = true → e.on < pre.length := by
  unfold lastB at h
  simp only [Bool.and_eq_true] at h
  refine ⟨by simpa using h.2.1.1, fun k hk => ?_, fun e he hb => ?_⟩
  rotate_left
  · have h2 := List.all_eq_true.1 h.2.1.2 e (by simpa using he)
    rw [hb] at h2
    simpa using h2
  have h1 := List.all_eq_true.1 h.2.2 k (List.mem_range.2 hk)
  obtain ⟨e, he, h2⟩ := List.any_eq_true.1 h1
  rw [Bool.and_eq_true] at h2
  exact ⟨e, by simpa using he, h2.1, by simpa using h2.2⟩
theorem push_getD_lt (l : Array Bool) (d : Bool) {i : Nat} (h : i < l.size) : (l.push false).getD i d = l.getD i d := by
  rw [Array.getD_eq_getD_getElem?, Array.getD_eq_getD_getElem?, Array.getElem?_push_lt h, Array.getElem?_eq_getElem h]
theorem push_getD_eq (l : Array Bool) (d : Bool) : (l.push false).getD l.size d = false := by
  rw [Array.getD_eq_getD_getElem?, Array.getElem?_push_size]; rfl
theorem ops_lt {pre : List Oper} {st : Oper} {i : Nat} (h : i < pre.length) : (pre ++ [st]).toArray[i]? = pre.toArray[i]? := by
  simp [List.getElem?_append_left h]
theorem ready_lt {pre : List Oper} {st : Oper} (hB : lastB pre st = true) {listed : Array Bool} (hs : listed.size = pre.length) {i : Nat} (hi : i ∈ Region.ready .any (pre ++ [st]).toArray (listed.push false)) :
    (i < pre.length ∧ i ∈ Region.ready .any pre.toArray listed) ∨ (i = pre.length ∧ ∀ k, k < pre.length → listed.getD k false = true) := by
  obtain ⟨h1, o, ho, h2⟩ := mem_ready.1 hi
  rcases Nat.lt_trichotomy i pre.length with h | h | h
  · left
    refine ⟨h, mem_ready.2 ⟨?_, o, ?_, fun e he hb => ?_⟩⟩
    · rw [← push_getD_lt listed true (by omega)]; exact h1
    · rw [← ops_lt (st := st) h]; exact ho
    · have hk : pre[i]? = some o := by rw [ops_lt h] at ho; simpa using ho
      have := (lastB_pre hB hk).2 e he hb
      rw [← push_getD_lt listed false (by omega)]
      exact h2 e he hb
  · right
    refine ⟨h, fun k hk => ?_⟩
    have hst : o = st := by
      rw [h] at ho
      simp at ho
      exact ho.symm
    subst hst
    obtain ⟨e, he, hb, rfl⟩ := (lastB_st hB).2.1 k hk
    rw [← push_getD_lt listed false (by omega)]
    exact h2 e he hb
  · exfalso
    rw [List.getElem?_toArray, List.getElem?_eq_none (by simp; omega)] at ho
    cases ho
theorem ready_back {pre : List Oper} {st : Oper} (hB : lastB pre st = true) {listed : Array Bool} (hs : listed.size = pre.length) {i : Nat} (hi : i ∈ Region.ready .any pre.toArray listed) : i ∈ Region.ready .any (pre ++ [st]).toArray (listed.push false) := by
  obtain ⟨h1, o, ho, h2⟩ := mem_ready.1 hi
  have h : i < pre.length := by
    have := (List.getElem?_eq_some_iff.1 (show pre[i]? = some o by simpa using ho)).1
    exact this
  refine mem_ready.2 ⟨?_, o, ?_, fun e he hb => ?_⟩
  · rw [push_getD_lt listed true (by omega)]; exact h1
  · rw [ops_lt h]; exact ho
  · have hk : pre[i]? = some o := by simpa using ho
    have := (lastB_pre hB hk).2 e he hb
    rw [push_getD_lt listed false (by omega)]
    exact h2 e he hb
theorem ready_nil {pre : List Oper} {st : Oper} (hB : lastB pre st = true) {listed : Array Bool} (hs : listed.size = pre.length) (hr : Region.ready .any pre.toArray listed = []) : ∀ k, k < pre.length → listed.getD k false = true := by
  intro k
  induction k using Nat.strongRecOn with
  | ind k ih =>
    intro hk
    have hk' : k < listed.size := by omega
    cases hl : listed.getD k false with
    | true => rfl
    | false =>
      exfalso
      obtain ⟨o, ho⟩ : ∃ o, pre[k]? = some o := ⟨_, List.getElem?_eq_getElem hk⟩
      have : k ∈ Region.ready .any pre.toArray listed := by
        refine mem_ready.2 ⟨?_, o, by simpa using ho, fun e he hb => ?_⟩
        · rw [Array.getD_eq_getD_getElem?, Array.getElem?_eq_getElem hk'] at hl ⊢; exact hl
        · have := (lastB_pre hB ho).2 e he hb
          exact ih e.on this (by omega)
      rw [hr] at this
      cases this
theorem push_set (l : Array Bool) {i : Nat} (h : i < l.size) : (l.push false).setIfInBounds i true = (l.setIfInBounds i true).push false := by
  apply Array.ext_getElem?
  intro j
  rw [Array.getElem?_setIfInBounds, Array.getElem?_push, Array.getElem?_push, Array.getElem?_setIfInBounds]
  simp only [Array.size_push, Array.size_setIfInBounds]
  by_cases e : i = j
  · subst e
    have h3 : ¬ i = l.size := by omega
    have h4 : i < l.size + 1 := by omega
    simp [h, h3, h4]
  · simp [e]
theorem wpAny_done {P : Program} {ops : Array Oper} {Q' : Exit → Act → World → Prop} {listed : Array Bool} (hr : Region.ready .any ops listed = []) {a : Act} {w : World} (h : Q' .normal a w) : ∀ f, wpAny P .any ops Q' f listed a w
  | 0 => ⟨hr, h⟩
  | f + 1 => ⟨fun _ => h, fun i hi => by rw [hr] at hi; cases hi⟩
theorem wpAny_last {P : Program} {pre : List Oper} {st : Oper} {C : World → Prop} {Q : Act → Prop} {Q' : Exit → Act → World → Prop} (hB : lastB pre st = true)
    (hQ : ∀ a w, C w → Q a → st.wp P a w (fun a' w' => Q' .normal a' w') Q') : ∀ (fuel : Nat) (listed : Array Bool) (a : Act) (w : World), listed.size = pre.length → C w →
    wpAnyQ P .any pre.toArray C Q fuel listed a → wpAny P .any (pre ++ [st]).toArray Q' (fuel + 1) (listed.push false) a w := by
  have done : ∀ (fuel : Nat) (listed : Array Bool) (a : Act) (w : World), listed.size = pre.length → C w → (∀ k, k < pre.length → listed.getD k false = true) → Q a → wpAny P .any (pre ++ [st]).toArray Q' (fuel + 1) (listed.push false) a w := by
    intro fuel listed a w hs hC hall hq
    obtain ⟨g1, g2, g3⟩ := lastB_st hB
    have hrn : pre.length ∈ Region.ready .any (pre ++ [st]).toArray (listed.push false) := by
      refine mem_ready.2 ⟨?_, st, by simp, fun e he hb => ?_⟩
      · rw [← hs]; exact push_getD_eq _ _
      · have := g3 e he hb
        rw [push_getD_lt listed false (by omega)]
        exact hall _ this
    refine ⟨fun hr => (by rw [hr] at hrn; cases hrn), fun i hi => ?_⟩
    have hin : i = pre.length := by
      rcases ready_lt hB hs hi with ⟨h1, h2⟩ | ⟨h1, _⟩
      · exfalso
        obtain ⟨h3, _⟩ := mem_ready.1 h2
        have h4 := hall i h1
        rw [Array.getD_eq_getD_getElem?, Array.getElem?_eq_getElem (by omega)] at h3 h4
        simp at h3 h4
        rw [h4] at h3
        cases h3
      · exact h1
    subst hin
    unfold wpOp
    have hget : (pre ++ [st]).toArray[pre.length]? = some st := by simp
    rw [hget]
    simp only
    rw [if_pos (by unfold Region.wanted; rw [g1])]
    refine Or.inl (Oper.wp_mono (fun a' w' h => ?_) (hQ a w hC hq))
    refine wpAny_done ?_ h fuel
    cases hrr : Region.ready .any (pre ++ [st]).toArray ((listed.push false).setIfInBounds pre.length true) with
    | nil => rfl
    | cons j js =>
      exfalso
      have hj : j ∈ Region.ready .any (pre ++ [st]).toArray ((listed.push false).setIfInBounds pre.length true) := by rw [hrr]; exact List.mem_cons_self
      obtain ⟨h3, o, ho, _⟩ := mem_ready.1 hj
      have hj2 : j < (pre ++ [st]).length := by
        have := (List.getElem?_eq_some_iff.1 (show (pre ++ [st])[j]? = some o by simpa using ho)).1
        exact this
      rw [List.length_append, List.length_singleton] at hj2
      rw [Array.getD_eq_getD_getElem?, Array.getElem?_setIfInBounds] at h3
      by_cases e : pre.length = j
      · rw [if_pos e, if_pos (by rw [Array.size_push]; omega)] at h3
        cases h3
      · rw [if_neg e, Array.getElem?_push_lt (by omega)] at h3
        have h4 := hall j (by omega)
        rw [Array.getD_eq_getD_getElem?, Array.getElem?_eq_getElem (by omega)] at h4
        simp at h3 h4
        rw [h4] at h3
        cases h3
  intro fuel
  induction fuel with
  | zero =>
    intro listed a w hs hC h
    exact done 0 listed a w hs hC (ready_nil hB hs h.1) h.2
  | succ fuel ih =>
    intro listed a w hs hC h
    cases hr : Region.ready .any pre.toArray listed with
    | nil => exact done (fuel + 1) listed a w hs hC (ready_nil hB hs hr) (h.1 hr)
    | cons j js =>
      have hj : j ∈ Region.ready .any pre.toArray listed := by rw [hr]; exact List.mem_cons_self
      refine ⟨fun hn => (by have := ready_back (st := st) hB hs hj; rw [hn] at this; cases this), fun i hi => ?_⟩
      rcases ready_lt hB hs hi with ⟨h1, h2⟩ | ⟨_, h2⟩
      · have hq := h.2 i h2
        obtain ⟨o, ho⟩ : ∃ o, pre[i]? = some o := ⟨_, List.getElem?_eq_getElem h1⟩
        have hg := (lastB_pre hB ho).1
        unfold qOp at hq
        unfold wpOp
        rw [ops_lt h1]
        rw [show pre.toArray[i]? = some o by simpa using ho] at hq ⊢
        simp only at hq ⊢
        have hwt : ∀ y, Region.wanted o y = true := fun y => by unfold Region.wanted; rw [hg]
        rw [if_pos (hwt _)] at hq ⊢
        refine Or.inl (Oper.wp_of_quiet hC (fun a' w' hC' hk => ?_) hq)
        rw [push_set listed (by omega)]
        exact ih (listed.setIfInBounds i true) a' w' (by simpa using hs) hC' hk
      · exfalso
        obtain ⟨h3, o, ho, _⟩ := mem_ready.1 hj
        have hj2 : j < pre.length := (List.getElem?_eq_some_iff.1 (show pre[j]? = some o by simpa using ho)).1
        have h4 := h2 j hj2
        rw [Array.getD_eq_getD_getElem?, Array.getElem?_eq_getElem (by omega)] at h3 h4
        simp at h3 h4
        rw [h4] at h3
        cases h3
/-- The region's wp: the walk of all operations but the last, each quiet in the worlds that differ by new blocks; then the last one. -/
theorem wp_region_last {P : Program} {id : Nat} {R : Exit → Act → World → Prop} {a : Act} {w : World} {l : List Oper} (pre : List Oper) (st : Oper) (hl : l = pre ++ [st]) (hm : P.follows .mixedOrders = true) (hB : Region.lexB .any pre.toArray = true) (hL : lastB pre st = true)
    (h : wpQuiet P pre.toArray (fun w' => ∃ n : QW w, w' = n.x) (fun a' => ∀ (n : QW w) (K : Act → World → Prop), (∀ a'' w'', R .normal a'' w'' → K a'' w'') → st.wp P a' n.x K R) pre a) : (Code.region id l.toArray true).wp P R a w := by
  subst hl
  refine wp_region_any hm ?_
  have hq := wpAnyQ_lex (C := fun w' => ∃ n : QW w, w' = n.x) (md := .any) (by simp only [Region.lexB, Bool.and_eq_true] at hB; exact hB.1) pre 0 (Array.replicate pre.length false) a (by simp) (by simp only [Region.lexB, Bool.and_eq_true] at hB; simpa using hB.2) h
  have := wpAny_last (Q' := R) hL (fun a' w' hC hq => by obtain ⟨n, rfl⟩ := hC; exact hq n _ (fun _ _ h => h)) pre.length (Array.replicate pre.length false) a w.drew (by simp) ⟨⟨w.drew, (Q.refl w).drew⟩, rfl⟩ hq
  have e : (Array.replicate pre.length false).push false = Array.replicate (pre ++ [st]).toArray.size false := by
    rw [show (pre ++ [st]).toArray.size = pre.length + 1 by simp, Array.replicate_succ]
  rw [e] at this
  simpa using this
theorem wp_region_lastn {P : Program} {id : Nat} {R : Exit → Act → World → Prop} {a : Act} {w : World} {l : List Oper} (n : Nat) (hn : l.length = n + 1) (st : Oper) (hst : l[n]? = some st) (hm : P.follows .mixedOrders = true) (hB : Region.lexB .any (l.take n).toArray = true) (hL : lastB (l.take n) st = true)
    (h : wpQuiet P (l.take n).toArray (fun w' => ∃ n : QW w, w' = n.x) (fun a' => ∀ (n : QW w) (K : Act → World → Prop), (∀ a'' w'', R .normal a'' w'' → K a'' w'') → st.wp P a' n.x K R) (l.take n) a) : (Code.region id l.toArray true).wp P R a w := by
  refine wp_region_last (l.take n) st ?_ hm hB hL h
  have h1 : n < l.length := by omega
  have h2 : l[n] = st := by rw [List.getElem?_eq_getElem h1] at hst; injection hst
  rw [← h2, List.take_append_getElem h1, List.take_of_length_le (by omega)]
end Go.Proofs.Ytdempklpmggdoaa
