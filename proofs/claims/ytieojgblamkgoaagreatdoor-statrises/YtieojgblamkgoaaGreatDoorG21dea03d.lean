/- Quotients of words of binary64 by whole numbers, narrowed. Plain. (Out of BlJ.) -/
import Derived.Test.YtieojgblamkgoaaGreatDoorG0ec06db2
import Derived.Test.YtieojgblamkgoaaGreatDoorGb748240f
import Derived.Test.YtieojgblamkgoaaGreatDoorG63430311
import Derived.Test.YtieojgblamkgoaaGreatDoorGec639f76
import Derived.Test.YtieojgblamkgoaaGreatDoorG2d4e46c5
import Derived.Test.YtieojgblamkgoaaGreatDoorGba4db751
import Derived.Test.YtieojgblamkgoaaGreatDoorG5d60fafd
namespace Go.Proofs.YtieojgblamkgoaaGreatDoor
open Go.RowKit
set_option linter.unusedVariables false
set_option linter.unusedSimpArgs false

/-- A finite word of binary64 worth Z. -/
structure Wb (x : Nat) (Z : Int) : Prop where
  fin : rung64 x < 9218868437227405312
  val : sval64 x = Z
theorem log_powb {n e : Nat} (h : n ≤ 2 ^ e) (he : e ≤ 1990) : n.log2 ≤ 2000 := by
  by_cases h0 : n = 0
  · subst h0; decide
  · have h2 : n < 2 ^ (e + 1) := by rw [Nat.pow_add]; have := Nat.two_pow_pos e; omega
    have := (Nat.log2_lt h0).2 h2
    omega
/-- A number divided by a whole number, as a rung. -/
def qrg (k z : Nat) : Nat := rungOf Ieee.double (sqV z k 100) (-1074 - (100 : Nat) - 1)
theorem sqV_mono {k A z y : Nat} (hk : 0 < k) (h : z ≤ y) : sqV z k A ≤ sqV y k A := by
  unfold sqV
  have h1 : z * 2 ^ A ≤ y * 2 ^ A := Nat.mul_le_mul_right _ h
  generalize z * 2 ^ A = a at *
  generalize y * 2 ^ A = b at *
  have d1 := Nat.div_add_mod a k
  have d2 := Nat.div_add_mod b k
  have m1 := Nat.mod_lt a hk
  have m2 := Nat.mod_lt b hk
  have hd : a / k ≤ b / k := Nat.div_le_div_right h1
  rcases Nat.lt_or_ge (a / k) (b / k) with c | c
  · split <;> split <;> omega
  · have e : a / k = b / k := by omega
    rw [e] at d1 ⊢
    split <;> split <;> omega
theorem qrg_mono {k z y : Nat} (hk : 0 < k) (h : z ≤ y) : qrg k z ≤ qrg k y := rung_mono _ _ (sqV_mono hk h)
theorem qrg_exact {k X : Nat} (hk : 0 < k) : qrg k (k * X) = rungOf Ieee.double X (-1074) := by
  have e : sqV (k * X) k 100 = X * 2 ^ 101 := by
    unfold sqV
    have h1 : k * X * 2 ^ 100 = X * 2 ^ 100 * k := by rw [Nat.mul_comm k X, Nat.mul_assoc, Nat.mul_comm k, ← Nat.mul_assoc]
    rw [h1, Nat.mul_div_cancel _ hk, Nat.mul_mod_left, if_pos rfl, Nat.add_zero, show (2 : Nat) ^ 101 = 2 ^ 100 * 2 by decide, Nat.mul_comm 2 (X * 2 ^ 100), Nat.mul_assoc]
  unfold qrg
  rw [e, rung_scale]
  congr 1
theorem sqV_shift (m n A j : Nat) : sqV m (n * 2 ^ j) (A + j) = sqV m n A := by
  unfold sqV
  have hp := Nat.two_pow_pos j
  have e1 : m * 2 ^ (A + j) = m * 2 ^ A * 2 ^ j := by rw [Nat.pow_add, Nat.mul_assoc]
  rw [e1, Nat.mul_div_mul_right _ _ hp, Nat.mul_mod_mul_right]
  have : m * 2 ^ A % n * 2 ^ j = 0 ↔ m * 2 ^ A % n = 0 := by
    constructor
    · intro h
      rcases Nat.mul_eq_zero.1 h with c | c
      · exact c
      · omega
    · intro h; rw [h, Nat.zero_mul]
  by_cases h : m * 2 ^ A % n = 0
  · rw [if_pos h, if_pos (this.2 h)]
  · rw [if_neg h, if_neg (fun c => h (this.1 c))]
theorem quo_word {D k : Nat} {Z : Int} (hD : Wb D Z) (hk : 1 ≤ k) (hk2 : k ≤ 16384) : opT .quo D (floatOfInt .f64 (k : Int)) = Ieee.double.word (sgn64 D) (qrg k Z.natAbs) := by
  obtain ⟨j, p, hr, hp⟩ := read_weightq (y := (k : Int)) (by omega) (by omega)
  rw [decide_eq_false (by omega), hp (by omega), Int.natAbs_natCast] at hr
  have hv : Z.natAbs = mag64 (rung64 D) * 2 ^ plc64 (rung64 D) := by rw [← hD.val]; exact val_abs D
  unfold opT
  rw [read_fin64 hD.fin, hr]
  show told64 ((Ieee.Datum.number (sgn64 D) (mag64 (rung64 D)) (-1074 + (plc64 (rung64 D) : Int))).quotient 54 (.number false (k * 2 ^ j) (-(j : Int)))) = _
  have hn0 : k * 2 ^ j ≠ 0 := by have := Nat.mul_pos hk (Nat.two_pow_pos j); omega
  have em : (Ieee.Datum.number (sgn64 D) (mag64 (rung64 D)) (-1074 + (plc64 (rung64 D) : Int))).quotient 54 (.number false (k * 2 ^ j) (-(j : Int))) = some (.number (sgn64 D ^^ false) (sqV (mag64 (rung64 D)) (k * 2 ^ j) (54 + (k * 2 ^ j).log2 - (mag64 (rung64 D)).log2)) (-1074 + (plc64 (rung64 D) : Int) - (-(j : Int)) - ((54 + (k * 2 ^ j).log2 - (mag64 (rung64 D)).log2 : Nat) : Int) - 1)) := by
    rw [← sq_model]
    simp [Ieee.Datum.quotient, hn0]
  rw [em, told64_numq, Bool.xor_false]
  refine congrArg (Ieee.double.word (sgn64 D)) ?_
  by_cases hm : mag64 (rung64 D) = 0
  · rw [hm] at hv ⊢
    rw [hv, Nat.zero_mul]
    unfold qrg sqV
    simp [rungOf_zero]
  · have hd := quo_digits (m := mag64 (rung64 D)) (n := k * 2 ^ j) hm hn0 (d := 54) (by decide)
    have hlog : (k * 2 ^ j).log2 ≤ j + 14 := by
      have : k * 2 ^ j < 2 ^ (j + 15) := by
        rw [Nat.pow_add, Nat.mul_comm (2 ^ j)]
        exact Nat.mul_lt_mul_of_pos_right (by omega) (Nat.two_pow_pos j)
      have := (Nat.log2_lt hn0).2 this
      omega
    have hl := sq_link Ieee.double (m := mag64 (rung64 D)) (n := k * 2 ^ j) (A := plc64 (rung64 D) + 100 + j) (B := 54 + (k * 2 ^ j).log2 - (mag64 (rung64 D)).log2) (-1074 + (plc64 (rung64 D) : Int) - (-(j : Int))) (by omega) (by omega) hd
    rw [← hl, sqV_shift, show sqV (mag64 (rung64 D)) k (plc64 (rung64 D) + 100) = sqV Z.natAbs k 100 by unfold sqV; rw [hv, Nat.pow_add, Nat.mul_assoc]]
    unfold qrg
    congr 1
    omega
theorem qrg_fin {k z e : Nat} (hk : 1 ≤ k) (hz : z ≤ 2 ^ e) (he : e ≤ 1900) : qrg k z < 9218868437227405312 := by
  have h1 : qrg k z ≤ qrg k (k * 2 ^ e) := qrg_mono hk (Nat.le_trans hz (Nat.le_mul_of_pos_left _ hk))
  rw [qrg_exact hk] at h1
  have h2 : val64 (rungOf Ieee.double (2 ^ e) (-1074)) = 2 ^ e := vN_exact (g := e) (log_powb (Nat.le_refl _) (by omega)) ⟨1, by omega⟩ (by rw [Nat.pow_add]; have := Nat.two_pow_pos e; omega)
  have h3 : rungOf Ieee.double (2 ^ e) (-1074) < 9218868437227405312 := by
    refine val_inj_lt64.1 ?_
    rw [h2]
    show 2 ^ e < mag64 9218868437227405312 * 2 ^ plc64 9218868437227405312
    obtain ⟨P, hP, hP2⟩ : ∃ P, plc64 9218868437227405312 = P ∧ 2046 ≤ P := ⟨_, rfl, by decide⟩
    rw [show mag64 9218868437227405312 = 2 ^ 52 by decide, hP, ← Nat.pow_add]
    exact Nat.pow_lt_pow_right (by decide) (by omega)
  omega
/-- The signed value of a quotient. -/
def qsv (k : Nat) (Z : Int) : Int := if Z < 0 then -(val64 (qrg k Z.natAbs) : Int) else (val64 (qrg k Z.natAbs) : Int)
theorem qsv_mono {k : Nat} (hk : 1 ≤ k) {Y Z : Int} (h : Y ≤ Z) : qsv k Y ≤ qsv k Z := by
  unfold qsv
  by_cases hy : Y < 0
  · rw [if_pos hy]
    by_cases hz : Z < 0
    · rw [if_pos hz]
      have := val_le64 (qrg_mono (k := k) hk (show Z.natAbs ≤ Y.natAbs by omega))
      omega
    · rw [if_neg hz]; omega
  · rw [if_neg hy, if_neg (by omega)]
    have := val_le64 (qrg_mono (k := k) hk (show Y.natAbs ≤ Z.natAbs by omega))
    omega
theorem nar_quo {D k e : Nat} {Z : Int} (hD : Wb D Z) (hk : 1 ≤ k) (hk2 : k ≤ 16384) (hz : Z.natAbs ≤ 2 ^ e) (he : e ≤ 1900) : srung32 (narW (opT .quo D (floatOfInt .f64 (k : Int)))) = RS (qsv k Z) ∧ nanN (narW (opT .quo D (floatOfInt .f64 (k : Int)))) = false := by
  rw [quo_word hD hk hk2]
  have hf := qrg_fin hk hz he
  obtain ⟨k1, k2⟩ := sgn_word64 (sgn64 D) (r := qrg k Z.natAbs) (by omega)
  unfold narW
  rw [read_fin64 (by rw [k2]; exact hf), k1, k2]
  have hsz : Z ≠ 0 → sgn64 D = decide (Z < 0) := fun h => by
    have := signed_sign (s := sgn64 D) (m := mag64 (rung64 D)) (k := plc64 (rung64 D))
    rw [← sval_signed64q, hD.val] at this
    exact this h
  have habs : (qsv k Z).natAbs = val64 (qrg k Z.natAbs) := by unfold qsv; split <;> omega
  refine srung_told (fun h => ?_) ?_
  · have hZ : Z ≠ 0 := fun e => h (by
      rw [e]; unfold qsv qrg sqV
      simp [rungOf_zero]
      decide)
    rw [hsz hZ]
    refine decide_eq_decide.2 ⟨fun g => ?_, fun g => ?_⟩
    · have : qsv k Z = -(val64 (qrg k Z.natAbs) : Int) := by unfold qsv; rw [if_pos g]
      omega
    · rcases Int.lt_or_le Z 0 with c | c
      · exact c
      · have : qsv k Z = (val64 (qrg k Z.natAbs) : Int) := by unfold qsv; rw [if_neg (by omega)]
        omega
  · rw [habs]
    unfold val64
    rw [rung_scale]
end Go.Proofs.YtieojgblamkgoaaGreatDoor
/- Plain facts: samples made whole by way of binary64; whole numbers as samples. -/
namespace Go.Proofs.YtieojgblamkgoaaGreatDoor
open Go.RowKit

/-- What a whole number is as a word, and that word as a whole number. -/
theorem whole_word {s : Bool} {N o k : Nat} (hN : N = o * 2 ^ k) (ho : o < 2 ^ 53) (hk : k ≤ 200) :
    Ieee.double.write (.number s N 0) = wordOf s (Ieee.signed s o (k + 1074)) ∧ rung64 (Ieee.double.write (.number s N 0)) < 9218868437227405312 ∧ sgn64 (Ieee.double.write (.number s N 0)) = s ∧
      ∃ E : Nat, E = 1074 ∧ sval64 (Ieee.double.write (.number s N 0)) = Ieee.signed s N E := by
  obtain ⟨E, hE⟩ : ∃ E : Nat, E = 1074 := ⟨_, rfl⟩
  have e1 : Ieee.double.write (.number s N 0) = wordOf s (Ieee.signed s o (k + 1074)) := by
    show Ieee.double.nearest s N 0 = _
    rw [nearest_rung]
    unfold wordOf
    rw [signed_abs, ← hE, Nat.pow_add, ← Nat.mul_assoc, ← hN, rung_scale, show (-1074 : Int) + (E : Int) = 0 by omega]
  obtain ⟨a, b, c⟩ := units_word (s := s) (m := o) (k := k + 1074) ho (by omega)
  rw [e1]
  refine ⟨rfl, a, b, E, hE, ?_⟩
  rw [c, ← hE]
  unfold Ieee.signed
  rw [Nat.shiftLeft_eq, Nat.shiftLeft_eq, hN, Nat.pow_add, ← Nat.mul_assoc]
end Go.Proofs.YtieojgblamkgoaaGreatDoor
/- stat, plain: shares of counts as samples. -/
namespace Go.Proofs.YtieojgblamkgoaaGreatDoor
open Go.RowKit
set_option linter.unusedVariables false
set_option linter.unusedSimpArgs false

theorem told_nans {d : Ieee.Datum} (h : d.isNaN = true) : nan64 (told64 (some d)) = true := by
  unfold told64
  cases d <;> simp_all [Ieee.Datum.isNaN] <;> decide
/-- m of n, as a sample. -/
def shN (m n : Nat) : Nat := narW (opT .quo (floatOfInt .f64 (m : Int)) (floatOfInt .f64 (n : Int)))
theorem int_wbs {k : Nat} (hk : k ≤ 16384) : ∃ E : Nat, E = 1074 ∧ Wb (floatOfInt .f64 (k : Int)) (((k * 2 ^ E : Nat) : Int)) ∧ sgn64 (floatOfInt .f64 (k : Int)) = false := by
  have e : floatOfInt .f64 (k : Int) = Ieee.double.write (.number false k 0) := by
    show Ieee.double.write (.number (decide ((k : Int) < 0)) ((k : Int)).natAbs 0) = _
    rw [decide_eq_false (by omega), Int.natAbs_natCast]
  obtain ⟨w1, w2, w3, E, w4, w5⟩ := whole_word (s := false) (N := k) (o := k) (k := 0) (by rw [Nat.pow_zero, Nat.mul_one]) (Nat.lt_of_le_of_lt hk (by decide)) (by omega)
  rw [e]
  refine ⟨E, w4, ⟨w2, ?_⟩, w3⟩
  rw [w5, signed_pos]
theorem quo_sh {m n : Nat} (h0 : 1 ≤ n) (h1 : n ≤ 16384) (hm : m ≤ n) : ∃ E : Nat, E = 1074 ∧ opT .quo (floatOfInt .f64 (m : Int)) (floatOfInt .f64 (n : Int)) = Ieee.double.word false (qrg n (m * 2 ^ E)) ∧ qrg n (m * 2 ^ E) ≤ 4607182418800017408 := by
  obtain ⟨E, hE, hw, hs⟩ := int_wbs (k := m) (by omega)
  refine ⟨E, hE, ?_, ?_⟩
  · rw [quo_word hw (by omega) (by omega), hs, Int.natAbs_natCast]
  · refine Nat.le_trans (qrg_mono (by omega) (Nat.mul_le_mul_right _ hm)) ?_
    rw [qrg_exact (by omega), hE]
    decide +kernel
theorem sh_conv {m n : Nat} (h0 : 1 ≤ n) (h1 : n ≤ 16384) (hm : m ≤ n) : ∃ r, floatBits .quo .f64 (floatOfInt .f64 (m : Int)) (floatOfInt .f64 (n : Int)) = some r ∧ floatToFloatBits .f64 r .f32 = some (shN m n) := by
  obtain ⟨E, hE, e1, e2⟩ := quo_sh h0 h1 hm
  have hx : rung64 (Ieee.double.word false (qrg n (m * 2 ^ E))) < 5183643170835005440 := by
    rw [(sgn_word64 false (by omega)).2]; omega
  have hnn : nan64 (Ieee.double.word false (qrg n (m * 2 ^ E))) = false := by rw [nan64_rung]; exact decide_eq_false (by omega)
  have hlv : shN m n = Ieee.single.write (Ieee.double.read (Ieee.double.word false (qrg n (m * 2 ^ E)))) := by
    unfold shN
    rw [e1]
    unfold narW
    rw [toldD_some (read64_num hnn)]
  refine ⟨Ieee.double.word false (qrg n (m * 2 ^ E)), ?_, ?_⟩
  · unfold opT opD at e1
    show ((Ieee.double.read (floatOfInt .f64 (m : Int))).quotient 54 (Ieee.double.read (floatOfInt .f64 (n : Int)))).map Ieee.double.write = _
    cases hq : (Ieee.double.read (floatOfInt .f64 (m : Int))).quotient 54 (Ieee.double.read (floatOfInt .f64 (n : Int))) with
    | none =>
      exfalso
      have e1' : told64 none = Ieee.double.word false (qrg n (m * 2 ^ E)) := by rw [← hq]; exact e1
      have : nan64 (told64 none) = true := by decide
      rw [e1', hnn] at this
      cases this
    | some d =>
      have e1' : told64 (some d) = Ieee.double.word false (qrg n (m * 2 ^ E)) := by rw [← hq]; exact e1
      show some (Ieee.double.write d) = _
      cases hd : d.isNaN with
      | false => rw [told64_some hd] at e1'; rw [e1']
      | true =>
        exfalso
        have : nan64 (told64 (some d)) = true := told_nans hd
        rw [e1', hnn] at this
        cases this
  · rw [nar_conv hx, hlv]
theorem shN_lt (m n : Nat) : shN m n < 4294967296 := toldD_lt _
end Go.Proofs.YtieojgblamkgoaaGreatDoor
/- stat: shares as samples, how many up to each class, planes levelled. -/
namespace Go.Proofs.YtieojgblamkgoaaGreatDoor
open Go.RowKit
set_option linter.unusedVariables false
set_option linter.unusedSimpArgs false

set_option maxHeartbeats 1000000 in
theorem sshr_any (m n : Nat) (h0 : 1 ≤ n) (h1 : n ≤ 16384) (hm : m ≤ n) (w : World) : Calls Tryz.prog 84 #[.int .i64 (m : Int), .int .i64 (n : Int)] w fun e w' => e = .returned (.int .u32 (shN m n : Nat)) ∧ w' = w := by
  have l2 := f32bits
  obtain ⟨r, hr, hc⟩ := sh_conv h0 h1 hm
  have l5 := fun w => run_float_arith (P := Tryz.prog) w .quo 108 .f64 _ _ r hr
  have l1 := fun w => run_convert_float_float (P := Tryz.prog) w 108 64 .f64 .f32 r _ (by kernel_rfl) Tryz.underlying64 hc
  have HL : Hid (shN m n < 4294967296) := shN_lt m n
  clear hr hc
  generalize shN m n = z at *
  go_enter Tryz.func84, Tryz.ntmps84
  go_wp2_with fail
  go_ret
  exact ⟨rfl, rfl⟩
set_option maxHeartbeats 4000000 in
set_option maxRecDepth 100000 in
theorem upto_any (b H kc : Nat) (c : Nat → Nat) (w : World) (h2 : b ≤ 12) (hT : VR w H (2 ^ b) (fun j => .int .i64 (c j : Nat))) (hc : ∀ j, preN c j ≤ 35184372087808) :
    Calls Tryz.prog 82 #[talV b H kc] w fun e w' => ∃ G, e = .returned (.slice (some ⟨G, 0, none⟩) (2 ^ b) (2 ^ b)) ∧ VR w' G (2 ^ b) (fun j => .int .i64 ((preN c j : Nat) : Int)) ∧ w.heap.size ≤ G ∧ Q w w' := by
  have hp : 2 ^ b ≤ 2 ^ 12 := Nat.pow_le_pow_right (by decide) h2
  have hp1 : 1 ≤ 2 ^ b := Nat.one_le_two_pow
  obtain ⟨M, hM, hV⟩ := make_vi (2 ^ b) (by omega)
  unfold talV
  generalize 2 ^ b = N at *
  obtain ⟨w1, hw1⟩ : ∃ w1, w.alloc (.cells #[.int .i64 (b : Int), .slice (some ⟨H, 0, none⟩) N kc] 72) = w1 := ⟨_, rfl⟩
  obtain ⟨A, hA⟩ : ∃ A, w.heap.size = A := ⟨_, rfl⟩
  have q1 : Q w w1 := by rw [← hw1]; exact (Q.refl w).cells _ _
  have s1 : w1.heap.size = A + 1 := by rw [← hw1, ← hA]; simp [go_sem]
  have z1 : w1.cell? ⟨A, 1, none⟩ = some (.slice (some ⟨H, 0, none⟩) N kc) := by rw [← hw1, ← hA]; simp [go_sem]
  have hMw := hM w1
  have hVw := hV w1
  have q2 : Q w1 (w1.alloc (.cells M 3)) := (Q.refl w1).cells _ _
  rw [s1] at hMw hVw
  have HH : Hid (H < A) := by have := hT.lt hp1; show H < A; omega
  generalize w1.alloc (.cells M 3) = w2 at *
  have z1' := q2.cell z1
  have HV2 : Hid (VR w2 (A + 1) N (sofar (fun j => .int .i64 ((preN c j : Nat) : Int)) (.int .i64 0) 0) ∧ Q w w2) := ⟨by rw [sofar_zero]; exact hVw, q1.trans q2⟩
  have HT : Hid (∀ i, i < N → w.cell? ⟨H, i, none⟩ = some (.int .i64 (c i : Nat))) := fun i hi => hT.cell i hi
  have HC : Hid (∀ j, preN c j ≤ 35184372087808) := hc
  have HZ : Hid (∀ wr, Q w2 wr → wr.cell? ⟨A, 1, none⟩ = some (.slice (some ⟨H, 0, none⟩) N kc)) := fun wr q => q.cell z1'
  have HA : Hid (w.heap.size ≤ A + 1) := by show _ ≤ _; omega
  have hNb : N ≤ 4096 := hp
  clear hM hV hVw q1 q2 hT hc hp
  go_enter Tryz.func82, Tryz.ntmps82
  go_wp2_with fail
  clear hw1 hMw z1 z1' s1
  go_loopg [4, 14] N (fun m s4 s14 wr => ∃ i : Nat, s4 = .int .i64 ((if i = 0 then 0 else preN c (i - 1) : Nat) : Int) ∧ s14 = .int .i64 (i : Int) ∧ i + m = N ∧ Hid (VR wr (A + 1) N (sofar (fun j => .int .i64 ((preN c j : Nat) : Int)) (.int .i64 0) i) ∧ Q w wr))
  case atStart => exact ⟨0, rfl, rfl, by omega, HV2⟩
  case round =>
    clear HV2
    obtain ⟨i, rfl, rfl, hi, HX⟩ := hrel
    obtain ⟨p, hp⟩ : ∃ p, (if i = 0 then 0 else preN c (i - 1)) = p := ⟨_, rfl⟩
    rw [hp]
    by_cases hlt : i < N
    · have hc := HX.out.2.cell (HT.out i hlt)
      have hpi : preN c i = p + c i := by
        rw [← hp]
        cases i with
        | zero => simp [preN]
        | succ i => simp [preN]
      have hbd := HC.out i
      obtain ⟨u, hu⟩ : ∃ u, wr.cell? ⟨A + 1, i, none⟩ = some u := ⟨_, HX.out.1.cell i hlt⟩
      have fu := HX.out.1.free i
      have HY : Hid (VR (wr.setCell ⟨A + 1, i, none⟩ (.int .i64 ((p + c i : Nat) : Int))) (A + 1) N (sofar (fun j => .int .i64 ((preN c j : Nat) : Int)) (.int .i64 0) (i + 1)) ∧ Q w (wr.setCell ⟨A + 1, i, none⟩ (.int .i64 ((p + c i : Nat) : Int)))) := ⟨HX.out.1.fill hlt (by rw [hpi]), HX.out.2.set HA.out _⟩
      have HE : Hid (p + c i = (if i + 1 = 0 then 0 else preN c (i + 1 - 1))) := by show _ = _; rw [if_neg (by omega), Nat.add_sub_cancel, hpi]
      rw [hpi] at hbd
      have ew : wrap64 ((p : Int) + (c i : Int)) = ((p + c i : Nat) : Int) := by unfold wrap64; omega
      have hki : (i : Int) < (N : Int) := by omega
      generalize c i = ci at *
      clear hpi hp
      go_wp2_with fail
      go_roundg (N - (i + 1))
      case measure => go_light; omega
      case rel => go_light; exact ⟨i + 1, by rw [← HE.out]; simp, by go_num, by omega, HY⟩
    · obtain rfl : i = N := by omega
      have hge : ¬ (i : Int) < (i : Int) := by omega
      go_wp2_with fail
      go_ret
      exact ⟨A + 1, rfl, HX.out.1.full, by omega, HX.out.2⟩
/-- A levelled list. -/
def lvlV (b : Nat) (L : List Nat) (s : Nat) : Nat := if nanN s = true then s else shN (preN (clsC b (numL L)) (clsN b s)) (numL L).length
end Go.Proofs.YtieojgblamkgoaaGreatDoor
/- stat, plain: the mean of finite samples lies between their ends. -/
namespace Go.Proofs.YtieojgblamkgoaaGreatDoor
open Go.RowKit
set_option linter.unusedVariables false
set_option linter.unusedSimpArgs false

end Go.Proofs.YtieojgblamkgoaaGreatDoor
/- stat, plain: what the statements ask of means. -/
namespace Go.Proofs.YtieojgblamkgoaaGreatDoor
open Go.RowKit
set_option linter.unusedVariables false
set_option linter.unusedSimpArgs false

theorem numL_fin {L : List Nat} (h : ∀ s ∈ L, nanN s = false) : numL L = L := by
  unfold numL
  rw [List.filter_eq_self]
  intro s hs
  rw [h s hs]; rfl
theorem ord_ge {x y : Nat} (hx : nanN x = false) (hy : nanN y = false) (h : srung32 y ≤ srung32 x) : (Ieee.single.order x y == some Ordering.gt || Ieee.single.order x y == some Ordering.eq) = true := by
  have h1 : rung32 x ≤ 2139095040 := by unfold nanN at hx; have := of_decide_eq_false hx; unfold rung32; omega
  have h2 : rung32 y ≤ 2139095040 := by unfold nanN at hy; have := of_decide_eq_false hy; unfold rung32; omega
  rw [order_num32 h1 h2, cmp_ge]
  exact decide_eq_true h
theorem ord_le {x y : Nat} (hx : nanN x = false) (hy : nanN y = false) (h : srung32 x ≤ srung32 y) : (Ieee.single.order x y == some Ordering.lt || Ieee.single.order x y == some Ordering.eq) = true := by
  have h1 : rung32 x ≤ 2139095040 := by unfold nanN at hx; have := of_decide_eq_false hx; unfold rung32; omega
  have h2 : rung32 y ≤ 2139095040 := by unfold nanN at hy; have := of_decide_eq_false hy; unfold rung32; omega
  rw [order_num32 h1 h2, cmp_le]
  exact decide_eq_true h
end Go.Proofs.YtieojgblamkgoaaGreatDoor
/- stat, plain: what the statement StatRises asks. -/
namespace Go.Proofs.YtieojgblamkgoaaGreatDoor
open Go.RowKit
set_option linter.unusedVariables false
set_option linter.unusedSimpArgs false

theorem sh_one {n : Nat} (h0 : 1 ≤ n) (h1 : n ≤ 16384) : shN n n = 1065353216 := by
  obtain ⟨E, hE, e1, _⟩ := quo_sh (m := n) h0 h1 (Nat.le_refl _)
  unfold shN
  rw [e1, qrg_exact (by omega), hE]
  decide +kernel
theorem sh_mono {j k n : Nat} (h0 : 1 ≤ n) (h1 : n ≤ 16384) (hj : j ≤ k) (hk : k ≤ n) : srung32 (shN j n) ≤ srung32 (shN k n) ∧ nanN (shN j n) = false := by
  obtain ⟨E, hE, w1, _⟩ := int_wbs (k := j) (by omega)
  obtain ⟨E', hE', w2, _⟩ := int_wbs (k := k) (by omega)
  obtain rfl : E' = E := by omega
  have cap : ∀ i : Nat, i ≤ 16384 → ((((i * 2 ^ E' : Nat) : Int))).natAbs ≤ 2 ^ (14 + E') := fun i hi => by
    rw [Int.natAbs_natCast, Nat.pow_add]
    exact Nat.mul_le_mul_right _ (by omega)
  obtain ⟨a1, a2⟩ := nar_quo w1 h0 h1 (cap j (by omega)) (by omega)
  obtain ⟨b1, b2⟩ := nar_quo w2 h0 h1 (cap k (by omega)) (by omega)
  refine ⟨?_, a2⟩
  unfold shN
  rw [a1, b1]
  refine RS_mono (qsv_mono (by omega) ?_)
  exact Int.ofNat_le.2 (Nat.mul_le_mul_right _ hj)
/-- All classes together. -/
theorem his_total {b : Nat} {L : List Nat} (hb : b ≤ 12) (hL : ∀ s ∈ L, s < 4294967296) : preN (clsC b L) (2 ^ b - 1) = L.length := by
  rw [preN_cnt, List.countP_eq_length]
  intro s hs
  have := cls_lt hb (hL s hs)
  exact decide_eq_true (by omega)
theorem nan_ord {a b : Nat} (h : nanN a = true ∨ nanN b = true) : Ieee.single.order a b = none := by
  rcases h with h | h
  · exact order_nan1 _ (read32_nan h)
  · exact order_nan2 _ (read32_nan h)
theorem key_srung {a b : Nat} (ha : a < 4294967296) (hb : b < 4294967296) (h : keyN a ≤ keyN b) : srung32 a ≤ srung32 b := by
  have e : ∀ x : Nat, x < 4294967296 → srung32 x = if 2147483648 ≤ x then -((x % 2147483648 : Nat) : Int) else ((x % 2147483648 : Nat) : Int) := fun x hx => by
    have r : rung32 x = x % 2147483648 := rfl
    have g : sgn32 x = decide (2147483648 ≤ x) := by
      unfold sgn32
      by_cases c : 2147483648 ≤ x
      · rw [decide_eq_true c]; exact decide_eq_true (by omega)
      · rw [decide_eq_false c]; exact decide_eq_false (by omega)
    unfold srung32
    rw [g, r]
    by_cases c : 2147483648 ≤ x
    · rw [decide_eq_true c, if_pos rfl, if_pos c]
    · rw [decide_eq_false c, if_neg (by decide), if_neg c]
  rw [e a ha, e b hb]
  unfold keyN at h
  split at h <;> split at h <;> split <;> split <;> omega
theorem rung_num {a : Nat} (h : nanN a = false) : rung32 a ≤ 2139095040 := by
  unfold nanN at h
  have := of_decide_eq_false h
  unfold rung32; omega
/-- By key not above: by number not above. -/
theorem key_gt {a b : Nat} (ha : a < 4294967296) (hb : b < 4294967296) (h : keyN a ≤ keyN b) : (Ieee.single.order a b == some Ordering.gt) = false := by
  cases na : nanN a
  · cases nb : nanN b
    · rw [order_num32 (rung_num na) (rung_num nb)]
      have := key_srung ha hb h
      rw [beq_eq_false_iff_ne]
      intro e
      injection e with e
      have := Int.compare_eq_gt.1 e
      omega
    · rw [nan_ord (Or.inr nb)]; rfl
  · rw [nan_ord (Or.inl na)]; rfl
theorem lt_key {a b : Nat} (ha : a < 4294967296) (hb : b < 4294967296) (h : (Ieee.single.order a b == some Ordering.lt) = true) : nanN a = false ∧ nanN b = false ∧ keyN a ≤ keyN b := by
  cases na : nanN a
  · cases nb : nanN b
    · refine ⟨rfl, rfl, ?_⟩
      rw [order_num32 (rung_num na) (rung_num nb), cmp_lt] at h
      have h := of_decide_eq_true h
      rcases Nat.le_total (keyN a) (keyN b) with c | c
      · exact c
      · have := key_srung hb ha c
        omega
    · rw [nan_ord (Or.inr nb)] at h; cases h
  · rw [nan_ord (Or.inl na)] at h; cases h
theorem cls_key {b s t : Nat} (h : keyN s ≤ keyN t) : clsN b s ≤ clsN b t := Nat.div_le_div_right h
/-- A levelled plane rises with the plane. -/
theorem lvl_rises {b : Nat} {L : List Nat} {s t : Nat} (hl : L.length ≤ 16384) (hs : s ∈ L) (ns : nanN s = false) (nt : nanN t = false) (h : keyN s ≤ keyN t) : (Ieee.single.order (lvlV b L s) (lvlV b L t) == some Ordering.lt || Ieee.single.order (lvlV b L s) (lvlV b L t) == some Ordering.eq) = true := by
  have hm : s ∈ numL L := by unfold numL; rw [List.mem_filter]; exact ⟨hs, by rw [ns]; rfl⟩
  have h1 : 1 ≤ (numL L).length := List.length_pos_of_mem hm
  have h2 : (numL L).length ≤ 16384 := Nat.le_trans (numL_len L) hl
  have es : lvlV b L s = shN (preN (clsC b (numL L)) (clsN b s)) (numL L).length := by unfold lvlV; rw [ns]; rfl
  have et : lvlV b L t = shN (preN (clsC b (numL L)) (clsN b t)) (numL L).length := by unfold lvlV; rw [nt]; rfl
  have hp := preN_mono (clsC b (numL L)) (cls_key (b := b) h)
  obtain ⟨m1, m2⟩ := sh_mono h1 h2 hp (preN_le b (numL L) _)
  obtain ⟨_, m3⟩ := sh_mono h1 h2 (Nat.le_refl (preN (clsC b (numL L)) (clsN b t))) (preN_le b (numL L) _)
  rw [es, et]
  exact ord_le m2 m3 m1
/-- Up to 1. -/
theorem lvl_top {b : Nat} {L : List Nat} (hl : L.length ≤ 16384) (hL : ∀ s ∈ L, s < 4294967296) (h : numL L ≠ []) : ∃ s ∈ L, lvlV b L s = 1065353216 := by
  obtain ⟨_, t, _, ht, _, _, hab⟩ := ends_some hL h
  have ht' := numL_mem ht
  refine ⟨t, ht'.1, ?_⟩
  have h1 : 1 ≤ (numL L).length := List.length_pos_of_mem ht
  unfold lvlV
  rw [ht'.2, if_neg (by decide)]
  have e : preN (clsC b (numL L)) (clsN b t) = (numL L).length := by
    rw [preN_cnt, List.countP_eq_length]
    intro s hs
    exact decide_eq_true (cls_key (hab s hs).2)
  rw [e]
  exact sh_one h1 (Nat.le_trans (numL_len L) hl)
/-- The ends of a plane without NaNs are its first and its last rank. -/
theorem ends_ranks {L : List Nat} (hL : ∀ s ∈ L, s < 4294967296) (h0 : 0 < L.length) (hn : nanC L = 0) : endsV L = (rkV L 0, rkV L (L.length - 1), 0) := by
  have hnn : numL L = L := by
    refine numL_fin (fun s hs => ?_)
    unfold nanC at hn
    rw [List.countP_eq_zero] at hn
    have := hn s hs
    simpa using this
  have hne : L ≠ [] := fun e => by rw [e] at h0; cases h0
  obtain ⟨a, b, ha, hb, ea, eb, hab⟩ := ends_some hL (by rw [hnn]; exact hne)
  rw [hnn] at ha hb hab
  have r0 : rkV L 0 = a := by
    refine keyN_inj (rk_lt h0 hL) (hL a ha) ?_
    have h1 := (rk_least (t := keyN a) h0).2 ⟨a, ha, Nat.le_refl _⟩
    have h2 := (hab _ (rk_mem (k := 0) h0)).1
    omega
  have r1 : rkV L (L.length - 1) = b := by
    refine keyN_inj (rk_lt (by omega) hL) (hL b hb) ?_
    have h1 := (rk_most (t := keyN b) h0).2 (fun s hs => (hab s hs).2)
    have h2 := (rk_most (t := keyN (rkV L (L.length - 1))) h0).1 (Nat.le_refl _) b hb
    omega
  unfold endsV
  rw [if_neg (by rw [hnn]; exact hne), ← ea, ← eb, fkey_key (hL a ha), fkey_key (hL b hb), r0, r1]
end Go.Proofs.YtieojgblamkgoaaGreatDoor
