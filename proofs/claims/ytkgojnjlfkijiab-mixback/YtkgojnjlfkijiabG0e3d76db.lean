/- Multiplied by an alpha, and divided by it: plain. -/
import Derived.Test.YtkgojnjlfkijiabGb34a8d23
import Derived.Test.YtkgojnjlfkijiabGe15c2c46
namespace Go.Proofs.Ytkgojnjlfkijiab
open Go.RowKit
set_option linter.unusedVariables false

def mulV15 (s a : Nat) : Nat := toldD ((Ieee.single.read s).product (Ieee.single.read a))
theorem num_told {σ : Bool} {m : Nat} {p : Int} : sgn32 (toldD (some (.number σ m p))) = σ ∧ rung32 (toldD (some (.number σ m p))) = rungOf Ieee.single m p := by
  rw [toldD_num]
  have h : rungOf Ieee.single m p ≤ 2139095040 := rungOf_le _ _ _
  exact sgn_word32 σ (by omega)
theorem mul_rung {S A : Nat} (fS : rung32 S < 2139095040) (fA : rung32 A < 2139095040) : sgn32 (mulV15 S A) = (sgn32 S ^^ sgn32 A) ∧ rung32 (mulV15 S A) = rungOf Ieee.single (mag32 (rung32 S) * mag32 (rung32 A)) (-149 + (plc32 (rung32 S) : Int) + (-149 + (plc32 (rung32 A) : Int))) := by
  have e : (Ieee.single.read S).product (Ieee.single.read A) = some (.number (sgn32 S ^^ sgn32 A) (mag32 (rung32 S) * mag32 (rung32 A)) (-149 + (plc32 (rung32 S) : Int) + (-149 + (plc32 (rung32 A) : Int)))) := by
    rw [read_fin32 fS, read_fin32 fA]; rfl
  unfold mulV15
  rw [e]
  exact num_told
/-- A product, rounded. -/
theorem prod_err {M : Nat} (hM : M.log2 ≤ 276) (h0 : 23 ≤ M.log2) (hne : M ≠ 0) : 16777216 * (((val32 (rungOf Ieee.single M (-149)) : Nat) : Int) - (M : Int)).natAbs ≤ M := by
  rw [val_full hM]
  obtain ⟨n1, n2⟩ := rne_near M (lostK32 M)
  have hlow := Nat.log2_self_le hne
  have e : M.log2 = lostK32 M + 23 := by unfold lostK32; omega
  rw [e, Nat.pow_add, show (2 : Nat) ^ 23 = 8388608 from rfl] at hlow
  generalize rne M (lostK32 M) * 2 ^ lostK32 M = V at *
  generalize 2 ^ lostK32 M = T at *
  omega
theorem rung_of_val {r : Nat} (h : r < 2139095040) : rungOf Ieee.single (val32 r) (-149) = r := by
  have h1 := mag_lt32 r
  have hp : plc32 r ≤ 253 := by unfold plc32; omega
  have hb : val32 r < 2 ^ (24 + plc32 r) := by
    rw [Nat.pow_add, show (2 : Nat) ^ 24 = 16777216 from rfl]
    exact Nat.mul_lt_mul_of_pos_right h1 (Nat.two_pow_pos _)
  have hl : (val32 r).log2 ≤ 276 := by
    by_cases h0 : val32 r = 0
    · rw [h0]; decide
    · have := (Nat.log2_lt h0).2 hb; omega
  have e := val_exact (g := plc32 r) hl (Nat.dvd_mul_left _ _) hb
  rcases Nat.lt_trichotomy (rungOf Ieee.single (val32 r) (-149)) r with g | g | g
  · have := val_mono32 g; omega
  · exact g
  · have := val_mono32 g; omega
theorem log_23 {m : Nat} (h0 : 8388608 ≤ m) (h1 : m < 16777216) : m.log2 = 23 := by
  have a := (Nat.le_log2 (show m ≠ 0 by omega)).2 (show 2 ^ 23 ≤ m by rw [show (2 : Nat) ^ 23 = 8388608 from rfl]; exact h0)
  have b := (Nat.log2_lt (show m ≠ 0 by omega)).2 (show m < 2 ^ 24 by rw [show (2 : Nat) ^ 24 = 16777216 from rfl]; exact h1)
  omega
theorem quo_num15 (σ τ : Bool) {m n : Nat} (m0 : 8388608 ≤ m) (m1 : m < 16777216) (n0 : 8388608 ≤ n) (n1 : n < 16777216) (p q : Int) :
    (Ieee.Datum.number σ m p).quotient 25 (.number τ n q) = some (.number (σ ^^ τ) (2 * (m * 33554432 / n) + (m * 33554432 % n != 0).toNat) (p - q - 26)) := by
  have l1 := log_23 m0 m1
  have l2 := log_23 n0 n1
  have hn : n ≠ 0 := by omega
  have e : (Ieee.Datum.number σ m p).quotient 25 (.number τ n q) = some (.number (σ ^^ τ) (2 * ((m <<< 25) / n) + ((m <<< 25) % n != 0).toNat) (p - q - ((25 : Nat) : Int) - 1)) := by
    simp [Ieee.Datum.quotient, l1, l2, hn]
  rw [e, Nat.shiftLeft_eq, show (2 : Nat) ^ 25 = 33554432 from rfl, show p - q - ((25 : Nat) : Int) - 1 = p - q - 26 by omega]
/-- What is between two numbers is between their quotients, rounded. -/
theorem quo_lo {m n Y : Nat} (hn : 0 < n) (h : n * Y ≤ m * 33554432) : 2 * Y ≤ 2 * (m * 33554432 / n) + (m * 33554432 % n != 0).toNat := by
  have : Y ≤ m * 33554432 / n := (Nat.le_div_iff_mul_le hn).2 (by rw [Nat.mul_comm]; exact h)
  omega
theorem quo_hi {m n Y : Nat} (hn : 0 < n) (h : m * 33554432 ≤ n * Y) : 2 * (m * 33554432 / n) + (m * 33554432 % n != 0).toNat ≤ 2 * Y := by
  have h1 := Nat.div_add_mod (m * 33554432) n
  have h2 := Nat.mod_lt (m * 33554432) hn
  generalize m * 33554432 = T at *
  generalize T / n = F at *
  have hF : F ≤ Y := by
    have : n * F ≤ n * Y := by omega
    exact Nat.le_of_mul_le_mul_left this hn
  rcases Nat.lt_or_ge F Y with g | g
  · have : (T % n != 0).toNat ≤ 1 := by cases (T % n != 0) <;> decide
    omega
  · have hFY : F = Y := by omega
    subst hFY
    have : T % n = 0 := by omega
    rw [this]
    show 2 * F + 0 ≤ 2 * F
    omega
theorem back_units {ms ma mq K Ka Kq V M : Nat} (hms0 : 8388608 ≤ ms) (hms1 : ms < 16777216) (hma0 : 8388608 ≤ ma) (hma1 : ma < 16777216) (hmq0 : 0 < Kq → 8388608 ≤ mq) (hmq1 : mq < 16777216) (hK : 86 ≤ K) (hKa : 86 ≤ Ka) {e : Nat} (he : K + Ka = e + 149) (hM : M = ms * ma * 2 ^ e) (hV : V = mq * 2 ^ Kq) (h : 16777216 * ((V : Int) - (M : Int)).natAbs ≤ M) : Kq + 125 ≤ K + Ka ∧ K + Ka < Kq + 128 ∧ 0 < Kq := by
  have hp : 8388608 * 8388608 ≤ ms * ma := Nat.mul_le_mul hms0 hma0
  have hp2 : ms * ma ≤ 16777215 * 16777215 := Nat.mul_le_mul (by omega) (by omega)
  have hT := Nat.two_pow_pos e
  have m0 : 70368744177664 * 2 ^ e ≤ M := by rw [hM]; exact Nat.mul_le_mul_right _ hp
  have m1 : M ≤ 281474943156225 * 2 ^ e := by rw [hM]; exact Nat.mul_le_mul_right _ hp2
  have v0 : 70368744177664 * 2 ^ e < V + V := by generalize 2 ^ e = T at *; omega
  have v1 : V < 281474976710656 * 2 ^ e := by generalize 2 ^ e = T at *; omega
  have q1 : V < 16777216 * 2 ^ Kq := by rw [hV]; exact Nat.mul_lt_mul_of_pos_right hmq1 (Nat.two_pow_pos _)
  have a1 : 70368744177664 * 2 ^ e < 33554432 * 2 ^ Kq := by omega
  have a2 : 2 ^ (46 + e) < 2 ^ (25 + Kq) := by
    rw [Nat.pow_add, Nat.pow_add, show (2 : Nat) ^ 46 = 70368744177664 from rfl, show (2 : Nat) ^ 25 = 33554432 from rfl]; exact a1
  have a3 := (Nat.pow_lt_pow_iff_right (a := 2) (by decide)).1 a2
  have k0 : 0 < Kq := by omega
  have q0 : 8388608 * 2 ^ Kq ≤ V := by rw [hV]; exact Nat.mul_le_mul_right _ (hmq0 k0)
  have b1 : 8388608 * 2 ^ Kq < 281474976710656 * 2 ^ e := by omega
  have b2 : 2 ^ (23 + Kq) < 2 ^ (48 + e) := by
    rw [Nat.pow_add, Nat.pow_add, show (2 : Nat) ^ 48 = 281474976710656 from rfl, show (2 : Nat) ^ 23 = 8388608 from rfl]; exact b1
  have b3 := (Nat.pow_lt_pow_iff_right (a := 2) (by decide)).1 b2
  omega
theorem val_up (r : Nat) : val32 (r + 1) = val32 r + 2 ^ plc32 r := by
  rw [val_step, Nat.add_mul, Nat.one_mul]; rfl
theorem cross {mq ma Y Ka Kq I : Nat} (hI : Kq + 123 = Ka + I) : (mq * 2 ^ Kq) * 2 ^ 149 = mq * 33554432 * 2 ^ (Ka + I + 1) ∧ (ma * 2 ^ Ka) * (Y * 2 ^ (I + 1)) = ma * Y * 2 ^ (Ka + I + 1) := by
  constructor
  · rw [Nat.mul_assoc, ← Nat.pow_add, show Kq + 149 = 25 + (Ka + I + 1) by omega, Nat.pow_add, show (2 : Nat) ^ 25 = 33554432 from rfl, ← Nat.mul_assoc]
  · rw [Nat.mul_mul_mul_comm, ← Nat.pow_add, show Ka + (I + 1) = Ka + I + 1 by omega]
theorem split_pow {m Kp I : Nat} (h : I + 1 ≤ Kp) : m * 2 ^ Kp = m * 2 ^ (Kp - I - 1) * 2 ^ (I + 1) ∧ m * 2 ^ Kp = 2 * (m * 2 ^ (Kp - I - 1)) * 2 ^ I := by
  have e : m * 2 ^ Kp = m * 2 ^ (Kp - I - 1) * 2 ^ (I + 1) := by rw [Nat.mul_assoc, ← Nat.pow_add, show Kp - I - 1 + (I + 1) = Kp by omega]
  refine ⟨e, ?_⟩
  rw [e, Nat.pow_succ, Nat.mul_comm (2 ^ I) 2, ← Nat.mul_assoc, Nat.mul_comm _ 2]
/-- The inequalities behind the two sides. -/
theorem side_lo {VS VA VR VQ M B : Nat} (hB : M * B = VS * VA) (h1 : 16777216 * ((VQ : Int) - (M : Int)).natAbs ≤ M) (h2 : 16777216 * VR ≤ 16777215 * VS) : VA * VR ≤ VQ * B := by
  have h3 : 16777215 * M ≤ 16777216 * VQ := by omega
  have h4 : 16777216 * (VA * VR) ≤ 16777216 * (VQ * B) := by
    calc 16777216 * (VA * VR) = VA * (16777216 * VR) := by rw [Nat.mul_left_comm]
      _ ≤ VA * (16777215 * VS) := Nat.mul_le_mul_left _ h2
      _ = 16777215 * M * B := by rw [Nat.mul_assoc, hB, Nat.mul_left_comm VA, Nat.mul_comm VA VS]
      _ ≤ 16777216 * VQ * B := Nat.mul_le_mul_right _ h3
      _ = 16777216 * (VQ * B) := Nat.mul_assoc _ _ _
  omega
theorem side_hi {VS VA VR VQ M B : Nat} (hB : M * B = VS * VA) (h1 : 16777216 * ((VQ : Int) - (M : Int)).natAbs ≤ M) (h2 : 16777217 * VS ≤ 16777216 * VR) : VQ * B ≤ VA * VR := by
  have h3 : 16777216 * VQ ≤ 16777217 * M := by omega
  have h4 : 16777216 * (VQ * B) ≤ 16777216 * (VA * VR) := by
    calc 16777216 * (VQ * B) = 16777216 * VQ * B := (Nat.mul_assoc _ _ _).symm
      _ ≤ 16777217 * M * B := Nat.mul_le_mul_right _ h3
      _ = VA * (16777217 * VS) := by rw [Nat.mul_assoc, hB, Nat.mul_left_comm VA, Nat.mul_comm VA VS]
      _ ≤ VA * (16777216 * VR) := Nat.mul_le_mul_left _ h2
      _ = 16777216 * (VA * VR) := by rw [Nat.mul_left_comm]
  omega
theorem quo_told {q A : Nat} (hfin : rung32 q < 2139095040) (q0 : 8388608 ≤ mag32 (rung32 q)) (fA : rung32 A < 2139095040) (a0 : 8388608 ≤ mag32 (rung32 A)) :
    sgn32 (toldD ((Ieee.single.read q).quotient 25 (Ieee.single.read A))) = (sgn32 q ^^ sgn32 A) ∧ rung32 (toldD ((Ieee.single.read q).quotient 25 (Ieee.single.read A))) = rungOf Ieee.single (2 * (mag32 (rung32 q) * 33554432 / mag32 (rung32 A)) + (mag32 (rung32 q) * 33554432 % mag32 (rung32 A) != 0).toNat) (-149 + (plc32 (rung32 q) : Int) - (-149 + (plc32 (rung32 A) : Int)) - 26) := by
  rw [read_fin32 hfin, read_fin32 fA, quo_num15 _ _ q0 (mag_lt32 _) a0 (mag_lt32 _)]
  exact num_told
theorem back_rung {S A : Nat} (hS0 : 729808896 ≤ rung32 S) (hS1 : rung32 S < 1400897536) (hA0 : 729808896 ≤ rung32 A) (hA1 : rung32 A < 1400897536) :
    rung32 (mulV15 S A) < 2139095040 ∧ 8388608 ≤ mag32 (rung32 (mulV15 S A)) ∧ rung32 S ≤ rung32 (toldD ((Ieee.single.read (mulV15 S A)).quotient 25 (Ieee.single.read A))) + 2 ∧ rung32 (toldD ((Ieee.single.read (mulV15 S A)).quotient 25 (Ieee.single.read A))) ≤ rung32 S + 1 ∧
      sgn32 (toldD ((Ieee.single.read (mulV15 S A)).quotient 25 (Ieee.single.read A))) = (sgn32 S ^^ sgn32 A ^^ sgn32 A) := by
  obtain ⟨u1, u2⟩ := mul_rung (S := S) (A := A) (by omega) (by omega)
  have pS := plc_mag (rung32 S)
  have pA := plc_mag (rung32 A)
  have hK : 86 ≤ plc32 (rung32 S) ∧ plc32 (rung32 S) ≤ 165 := by unfold plc32; omega
  have hKa : 86 ≤ plc32 (rung32 A) ∧ plc32 (rung32 A) ≤ 165 := by unfold plc32; omega
  have s0 := mag_lo (r := rung32 S) (by omega)
  have a0 := mag_lo (r := rung32 A) (by omega)
  have s1 := mag_lt32 (rung32 S)
  have a1 := mag_lt32 (rung32 A)
  obtain ⟨e, he⟩ : ∃ e, plc32 (rung32 S) + plc32 (rung32 A) = e + 149 := ⟨plc32 (rung32 S) + plc32 (rung32 A) - 149, by omega⟩
  obtain ⟨M, hM⟩ : ∃ M, mag32 (rung32 S) * mag32 (rung32 A) * 2 ^ e = M := ⟨_, rfl⟩
  have hrq : rung32 (mulV15 S A) = rungOf Ieee.single M (-149) := by
    rw [u2, ← hM, rung_scale]
    congr 1
    omega
  have hMne : M ≠ 0 := by rw [← hM]; exact Nat.ne_of_gt (Nat.mul_pos (Nat.mul_pos (by omega) (by omega)) (Nat.two_pow_pos _))
  have hprod : mag32 (rung32 S) * mag32 (rung32 A) < 2 ^ 48 := by
    have : mag32 (rung32 S) * mag32 (rung32 A) ≤ 16777215 * 16777215 := Nat.mul_le_mul (by omega) (by omega)
    rw [show (2 : Nat) ^ 48 = 281474976710656 from rfl]; omega
  have hprod0 : 2 ^ 46 ≤ mag32 (rung32 S) * mag32 (rung32 A) := by
    have : 8388608 * 8388608 ≤ mag32 (rung32 S) * mag32 (rung32 A) := Nat.mul_le_mul s0 a0
    rw [show (2 : Nat) ^ 46 = 70368744177664 from rfl]; omega
  have hM1 : M < 2 ^ (48 + e) := by rw [← hM, Nat.pow_add]; exact Nat.mul_lt_mul_of_pos_right hprod (Nat.two_pow_pos _)
  have hM0 : 2 ^ (46 + e) ≤ M := by rw [← hM, Nat.pow_add]; exact Nat.mul_le_mul_right _ hprod0
  have hl1 := (Nat.log2_lt hMne).2 hM1
  have hl0 := (Nat.le_log2 hMne).2 hM0
  have herr := prod_err (M := M) (by omega) (by omega) hMne
  rw [← hrq] at herr
  have hfin : rung32 (mulV15 S A) < 2139095040 := by
    rw [hrq, rung_full (by omega)]
    have h1 := (kept_bd32 (M := M)).1
    have h2 : lostK32 M ≤ 205 := by unfold lostK32; omega
    omega
  refine ⟨hfin, ?_⟩
  generalize mulV15 S A = q at *
  have pq := plc_mag (rung32 q)
  have q1 := mag_lt32 (rung32 q)
  obtain ⟨b1, b2, b3⟩ := back_units (V := val32 (rung32 q)) s0 s1 a0 a1 (fun h => mag_lo h) q1 hK.1 hKa.1 he hM.symm rfl herr
  have q0 := mag_lo b3
  obtain ⟨I, hI⟩ : ∃ I, plc32 (rung32 q) + 123 = plc32 (rung32 A) + I := ⟨plc32 (rung32 q) + 123 - plc32 (rung32 A), by omega⟩
  have hquo : (Ieee.single.read q).quotient 25 (Ieee.single.read A) = some (.number (sgn32 q ^^ sgn32 A) (2 * (mag32 (rung32 q) * 33554432 / mag32 (rung32 A)) + (mag32 (rung32 q) * 33554432 % mag32 (rung32 A) != 0).toNat) (-149 + (I : Int))) := by
    rw [read_fin32 hfin, read_fin32 (show rung32 A < 2139095040 by omega), quo_num15 _ _ q0 q1 a0 a1]
    congr 2
    omega
  rw [hquo]
  obtain ⟨t1, t2⟩ := num_told (σ := (sgn32 q ^^ sgn32 A)) (m := 2 * (mag32 (rung32 q) * 33554432 / mag32 (rung32 A)) + (mag32 (rung32 q) * 33554432 % mag32 (rung32 A) != 0).toNat) (p := -149 + (I : Int))
  rw [t1, t2, u1]
  refine ⟨q0, ?_, ?_, rfl⟩ <;> rw [← rung_scale]
  · obtain ⟨r, hr⟩ : ∃ r, rung32 S = r + 2 := ⟨rung32 S - 2, by omega⟩
    have g1 := val_up r
    have g2 := val_up (r + 1)
    have k1 : plc32 (rung32 S) ≤ plc32 r + 1 := by rw [hr]; unfold plc32; omega
    have k2 : plc32 (rung32 S) ≤ plc32 (r + 1) + 1 := by rw [hr]; unfold plc32; omega
    have vS : val32 (rung32 S) = mag32 (rung32 S) * 2 ^ plc32 (rung32 S) := rfl
    have vA : val32 (rung32 A) = mag32 (rung32 A) * 2 ^ plc32 (rung32 A) := rfl
    have hB : M * 2 ^ 149 = val32 (rung32 S) * val32 (rung32 A) := by
      rw [← hM, vS, vA, Nat.mul_mul_mul_comm, ← Nat.pow_add, he, Nat.mul_assoc, ← Nat.pow_add]
    have hgap : 16777216 * val32 r ≤ 16777215 * val32 (rung32 S) := by
      have p1 : 2 ^ plc32 (rung32 S) ≤ 2 * 2 ^ plc32 r := by
        have := Nat.pow_le_pow_right (n := 2) (by decide) k1
        rw [Nat.pow_succ, Nat.mul_comm] at this; exact this
      have p2 : 2 ^ plc32 (rung32 S) ≤ 2 * 2 ^ plc32 (r + 1) := by
        have := Nat.pow_le_pow_right (n := 2) (by decide) k2
        rw [Nat.pow_succ, Nat.mul_comm] at this; exact this
      have p3 : val32 (rung32 S) ≤ 16777216 * 2 ^ plc32 (rung32 S) := by rw [vS]; exact Nat.mul_le_mul_right _ (by omega)
      have p4 : val32 (rung32 S) = val32 r + 2 ^ plc32 r + 2 ^ plc32 (r + 1) := by rw [hr, g2, g1]
      generalize val32 (rung32 S) = VS at *
      generalize val32 r = VR at *
      generalize 2 ^ plc32 (rung32 S) = T at *
      generalize 2 ^ plc32 r = T1 at *
      generalize 2 ^ plc32 (r + 1) = T2 at *
      omega
    have hmain := side_lo hB herr hgap
    have hIK : I + 1 ≤ plc32 r := by omega
    obtain ⟨y1, y2⟩ := split_pow (m := mag32 r) hIK
    have vr : val32 r = mag32 r * 2 ^ plc32 r := rfl
    have vq : val32 (rung32 q) = mag32 (rung32 q) * 2 ^ plc32 (rung32 q) := rfl
    obtain ⟨c1, c2⟩ := cross (mq := mag32 (rung32 q)) (ma := mag32 (rung32 A)) (Y := mag32 r * 2 ^ (plc32 r - I - 1)) hI
    rw [vq, c1, vA, vr, y1, c2] at hmain
    have hY := Nat.le_of_mul_le_mul_right hmain (Nat.two_pow_pos _)
    have hlo := Nat.mul_le_mul_right (2 ^ I) (quo_lo (by omega) hY)
    rw [← y2] at hlo
    have hfinal := rung_mono Ieee.single (-149) hlo
    have := rung_of_val (r := r) (by omega)
    rw [vr] at this
    rw [this] at hfinal
    omega
  · have g1 := val_up (rung32 S)
    have vS : val32 (rung32 S) = mag32 (rung32 S) * 2 ^ plc32 (rung32 S) := rfl
    have vA : val32 (rung32 A) = mag32 (rung32 A) * 2 ^ plc32 (rung32 A) := rfl
    have hB : M * 2 ^ 149 = val32 (rung32 S) * val32 (rung32 A) := by
      rw [← hM, vS, vA, Nat.mul_mul_mul_comm, ← Nat.pow_add, he, Nat.mul_assoc, ← Nat.pow_add]
    have hgap : 16777217 * val32 (rung32 S) ≤ 16777216 * val32 (rung32 S + 1) := by
      have p3 : val32 (rung32 S) ≤ 16777216 * 2 ^ plc32 (rung32 S) := by rw [vS]; exact Nat.mul_le_mul_right _ (by omega)
      rw [g1]
      generalize val32 (rung32 S) = VS at *
      generalize 2 ^ plc32 (rung32 S) = T at *
      omega
    have hmain := side_hi hB herr hgap
    have hst := val_step (rung32 S)
    obtain ⟨y1, y2⟩ := split_pow (m := mag32 (rung32 S) + 1) (Kp := plc32 (rung32 S)) (I := I) (by omega)
    have vq : val32 (rung32 q) = mag32 (rung32 q) * 2 ^ plc32 (rung32 q) := rfl
    obtain ⟨c1, c2⟩ := cross (mq := mag32 (rung32 q)) (ma := mag32 (rung32 A)) (Y := (mag32 (rung32 S) + 1) * 2 ^ (plc32 (rung32 S) - I - 1)) hI
    rw [vq, c1, vA, hst, y1, c2] at hmain
    have hY := Nat.le_of_mul_le_mul_right hmain (Nat.two_pow_pos _)
    have hhi := Nat.mul_le_mul_right (2 ^ I) (quo_hi (by omega) hY)
    rw [← y2, ← hst] at hhi
    have hfinal := rung_mono Ieee.single (-149) hhi
    rw [rung_of_val (by omega)] at hfinal
    exact hfinal
/-- A sample's other sign. -/
def flipN (s : Nat) : Nat := if s < 2147483648 then s + 2147483648 else s - 2147483648
theorem flip_facts {s : Nat} (h : s < 4294967296) : flipN s < 4294967296 ∧ rung32 (flipN s) = rung32 s ∧ sgn32 (flipN s) = !sgn32 s := by
  unfold flipN
  split
  · refine ⟨by omega, by unfold rung32; omega, ?_⟩
    rw [sgn_hi (by omega), sgn_hi h, decide_eq_true (by omega), decide_eq_false (by omega)]; rfl
  · refine ⟨by omega, by unfold rung32; omega, ?_⟩
    rw [sgn_hi (by omega), sgn_hi h, decide_eq_false (by omega), decide_eq_true (by omega)]; rfl
theorem word_of {x y : Nat} (hx : x < 4294967296) (hy : y < 4294967296) (hr : rung32 x = rung32 y) (hs : sgn32 x = !sgn32 y) : x = flipN y := by
  have h1 := sgn_hi hx
  have h2 := sgn_hi hy
  unfold flipN
  unfold rung32 at hr
  by_cases g : y < 2147483648
  · rw [if_pos g]
    have e2 : decide (2147483648 ≤ y) = false := decide_eq_false (by omega)
    rw [h1, h2, e2] at hs
    have : 2147483648 ≤ x := of_decide_eq_true hs
    omega
  · rw [if_neg g]
    have e2 : decide (2147483648 ≤ y) = true := decide_eq_true (by omega)
    rw [h1, h2, e2] at hs
    have : ¬ 2147483648 ≤ x := of_decide_eq_false hs
    omega
def bckV (s a : Nat) : Nat := toldD ((Ieee.single.read (mulV15 s a)).quotient 25 (Ieee.single.read a))
/-- What comes back. -/
theorem back_all15 {S A : Nat} (hS : S < 4294967296) (hA : A < 2147483648) (hS0 : 729808896 ≤ rung32 S) (hS1 : rung32 S < 1400897536) (hA0 : 729808896 ≤ rung32 A) (hA1 : rung32 A < 1400897536) :
    bckV S A / 2147483648 = S / 2147483648 ∧ rung32 S ≤ rung32 (bckV S A) + 2 ∧ rung32 (bckV S A) ≤ rung32 S + 2 ∧ bckV (flipN S) A = flipN (bckV S A) := by
  obtain ⟨f1, f2, f3⟩ := flip_facts hS
  obtain ⟨a1, a2, a3, a4, a5⟩ := back_rung hS0 hS1 hA0 hA1
  obtain ⟨b1, b2, b3, b4, b5⟩ := back_rung (S := flipN S) (by rw [f2]; exact hS0) (by rw [f2]; exact hS1) hA0 hA1
  have sA : sgn32 A = false := by rw [sgn_hi (by omega)]; exact decide_eq_false (by omega)
  have a0 := mag_lo (r := rung32 A) (by unfold plc32; omega)
  obtain ⟨u1, u2⟩ := mul_rung (S := S) (A := A) (by omega) (by omega)
  obtain ⟨v1, v2⟩ := mul_rung (S := flipN S) (A := A) (by omega) (by omega)
  obtain ⟨p1, p2⟩ := quo_told a1 a2 (show rung32 A < 2139095040 by omega) a0
  obtain ⟨q1, q2⟩ := quo_told b1 b2 (show rung32 A < 2139095040 by omega) a0
  rw [sA, Bool.xor_false, Bool.xor_false] at a5 b5
  change sgn32 (bckV S A) = sgn32 S at a5
  change sgn32 (bckV (flipN S) A) = sgn32 (flipN S) at b5
  have x1 : bckV S A < 4294967296 := toldD_lt _
  have x2 : bckV (flipN S) A < 4294967296 := toldD_lt _
  refine ⟨?_, a3, Nat.le_succ_of_le a4, ?_⟩
  · rw [sgn_hi x1, sgn_hi hS, decide_eq_decide] at a5
    omega
  · refine word_of x2 x1 ?_ (by rw [b5, f3, a5])
    show rung32 (toldD _) = rung32 (toldD _)
    rw [p2, q2, v2, u2, f2]
end Go.Proofs.Ytkgojnjlfkijiab
/- MixBack's samples: sized, and their other sign. -/
namespace Go.Proofs.Ytkgojnjlfkijiab
open Go.RowKit
set_option linter.unusedVariables false
set_option linter.unusedSimpArgs false

theorem or_23 (z m : Nat) (h1 : z < 512) (hm : m < 8388608) : bits .or .u32 ((z * 8388608 : Nat) : Int) (m : Int) = ((z * 8388608 + m : Nat) : Int) := by
  go_bits2
theorem or_31 (z m : Nat) (h1 : z < 2) (hm : m < 2147483648) : bits .or .u32 ((z * 2147483648 : Nat) : Int) (m : Int) = ((z * 2147483648 + m : Nat) : Int) := by
  go_bits2
theorem and_23 (s : Int) (h0 : 0 ≤ s) (h1 : s ≤ 4294967295) : bits .and .u32 s 8388607 = s % 8388608 := by go_bits2
theorem and_31h (s : Nat) (h1 : s ≤ 4294967295) : bits .and .u32 (s : Int) 2147483648 = ((s / 2147483648 * 2147483648 : Nat) : Int) := by
  by_cases h : s < 2147483648
  · have e : bits .and .u32 (s : Int) 2147483648 = 0 := and_lo _ (by omega) (by omega)
    rw [e]; omega
  · have e : bits .and .u32 (s : Int) 2147483648 = 2147483648 := and_hi _ (by omega) (by omega)
    rw [e]; omega
theorem xorN15 {n : Nat} (h : n < 2147483648) : n ^^^ 2147483648 = n + 2147483648 := by
  have e : (2147483648 : Nat) = 2 ^ 31 := by decide
  rw [e] at h ⊢
  apply Nat.eq_of_testBit_eq
  intro j
  rw [Nat.testBit_xor, Nat.testBit_two_pow, Nat.add_comm]
  rcases Nat.lt_trichotomy j 31 with g | g | g
  · rw [Nat.testBit_two_pow_add_gt g, decide_eq_false (by omega)]; simp
  · subst g
    rw [Nat.testBit_two_pow_add_eq]; simp
  · have h1 : n < 2 ^ j := Nat.lt_trans h (Nat.pow_lt_pow_right (by decide) g)
    have h2 : 2 ^ 31 + n < 2 ^ j := Nat.lt_of_lt_of_le (by omega : 2 ^ 31 + n < 2 ^ 32) (Nat.pow_le_pow_right (by decide) g)
    rw [Nat.testBit_lt_two_pow h1, Nat.testBit_lt_two_pow h2, decide_eq_false (by omega)]; rfl
theorem xor_lo15 (s : Int) (h0 : 0 ≤ s) (h1 : s < 2147483648) : bits .xor .u32 s 2147483648 = s + 2147483648 := by
  go_bits2
  rw [xorN15 (by omega)]; omega
theorem xor_hi15 (s : Int) (h0 : 2147483648 ≤ s) (h1 : s ≤ 4294967295) : bits .xor .u32 s 2147483648 = s - 2147483648 := by
  go_bits2
  obtain ⟨n, hn⟩ : ∃ n, s.toNat = n + 2147483648 := ⟨s.toNat - 2147483648, by omega⟩
  rw [hn, ← xorN15 (by omega), Nat.xor_assoc, Nat.xor_self, Nat.xor_zero]; omega
theorem xor_flip {s : Nat} (h : s < 4294967296) : bits .xor .u32 (s : Int) 2147483648 = ((flipN s : Nat) : Int) := by
  unfold flipN
  by_cases g : s < 2147483648
  · rw [xor_lo15 _ (by omega) (by omega), if_pos g]; omega
  · rw [xor_hi15 _ (by omega) (by omega), if_neg g]; omega
theorem hid15 {p : Prop} (h : p) : Hid p := h
def szN (x : Nat) : Nat := (87 + x / 8388608 % 80) * 8388608 + x % 8388608
theorem szN_bd (x : Nat) : 729808896 ≤ szN x ∧ szN x < 1400897536 := by unfold szN; omega
set_option maxHeartbeats 1000000 in
theorem sized15_any (x : Nat) (hx : x < 4294967296) (w : World) : Calls Try.prog 12 #[.int .u32 (x : Int)] w fun e w' => e = .returned (.int .u32 (szN x : Nat)) ∧ w' = w := by
  have e1 := and_23 x (by omega) (by omega)
  have e2 := or_23 (87 + x / 8388608 % 80) (x % 8388608) (by omega) (by omega)
  have e3 : (x : Int) % 8388608 = ((x % 8388608 : Nat) : Int) := by omega
  rw [e3] at e1
  have e5 : (87 + (x : Int) / 8388608 % 80) * 8388608 = (((87 + x / 8388608 % 80) * 8388608 : Nat) : Int) := by omega
  change _ = ((szN x : Nat) : Int) at e2
  generalize (((87 + x / 8388608 % 80) * 8388608 : Nat) : Int) = Z at *
  generalize ((x % 8388608 : Nat) : Int) = m at *
  generalize ((szN x : Nat) : Int) = R at *
  obtain ⟨X, hX⟩ : ∃ X : Int, (x : Int) = X := ⟨_, rfl⟩
  have h0 : 0 ≤ X := by omega
  have h1 : X < 4294967296 := by omega
  rw [hX] at e1 e5 ⊢
  clear e3 hX hx
  go_enter Try.func12, Try.ntmps12
  go_wp2_with fail
  go_ret
  exact ⟨rfl, rfl⟩
end Go.Proofs.Ytkgojnjlfkijiab
/- MixBack: the walk. (gen_mback.py) -/
namespace Go.Proofs.Ytkgojnjlfkijiab
open Go.RowKit
set_option linter.unusedVariables false
set_option linter.unusedSimpArgs false

theorem fl_bya (G : Nat → Nat → Nat) (a b c d : Nat) : fl (byaV G [[a], [b], [c], [d]]) 4 1 = [[G a d], [G b d], [G c d], [d]] := rfl
theorem quoV_num {s a : Nat} (h0 : rung32 a ≠ 0) (h1 : rung32 a < 2139095040) : quoV s a = toldD ((Ieee.single.read s).quotient 25 (Ieee.single.read a)) := by
  unfold quoV
  have e : Ieee.single.order a 0 = some (compare (srung32 a) (srung32 0)) := order_num32 (by omega) (by decide)
  have hne : srung32 a ≠ 0 := by unfold srung32; split <;> omega
  have e0 : srung32 0 = 0 := by decide
  rw [e, e0, if_neg]
  rcases Int.lt_or_gt_of_ne hne with g | g
  · rw [show compare (srung32 a) 0 = .lt from Int.compare_eq_lt.2 g]; decide
  · rw [show compare (srung32 a) 0 = .gt from Int.compare_eq_gt.2 g]; decide
set_option maxHeartbeats 8000000 in
set_option maxRecDepth 100000 in
theorem mback_walk (s a : Nat) (hs : s < 4294967296) (ha : a < 4294967296) (w : World) :
    Calls Try.prog 4 #[.int .u32 (s : Int), .int .u32 (a : Int)] w fun e w' => e = .returned (.bool true) ∧ Q w w' := by
  have sb := szN_bd s
  have ab := szN_bd a
  obtain ⟨S, hS⟩ : ∃ S, s / 2147483648 * 2147483648 + szN s = S := ⟨_, rfl⟩
  obtain ⟨A, hA⟩ : ∃ A, szN a = A := ⟨_, rfl⟩
  have HZS : Hid (∀ x, Calls Try.prog 12 #[.int .u32 (s : Int)] x fun e w' => e = .returned (.int .u32 (szN s : Nat)) ∧ w' = x) := fun x => sized15_any s hs x
  have HZA : Hid (∀ x, Calls Try.prog 12 #[.int .u32 (a : Int)] x fun e w' => e = .returned (.int .u32 (A : Nat)) ∧ w' = x) := fun x => by have := sized15_any a ha x; rw [hA] at this; exact this
  have d1 := and_31h s (by omega)
  have d2 := or_31 (s / 2147483648) (szN s) (by omega) (by omega)
  rw [hS] at d2
  have hSl : S < 4294967296 := by omega
  have hAl : A < 2147483648 := by omega
  have rS : rung32 S = szN s := by unfold rung32; omega
  have rA : rung32 A = A := by unfold rung32; omega
  obtain ⟨k1, k2, k3, k4⟩ := back_all15 (S := S) (A := A) hSl hAl (by omega) (by omega) (by omega) (by omega)
  have d3 := xor_flip hSl
  have hx : bckV S A < 4294967296 := toldD_lt _
  have d4 := xor_flip hx
  obtain ⟨f1, _, _⟩ := flip_facts hSl
  have q1 : quoV (mulV15 S A) A = bckV S A := quoV_num (by omega) (by omega)
  have q2 : quoV (mulV15 (flipN S) A) A = bckV (flipN S) A := quoV_num (by omega) (by omega)
  rw [k4] at q2
  have d5 := and_7f15 (bckV S A : Int) (by omega) (by omega)
  have d6 := and_7f15 (S : Int) (by omega) (by omega)
  unfold rung32 at k2 k3
  have HVM : Hid (fl (byaV (fun s t => toldD ((Ieee.single.read s).product (Ieee.single.read t))) [[S], [flipN S], [A], [A]]) 4 1 = [[mulV15 S A], [mulV15 (flipN S) A], [mulV15 A A], [A]]) := rfl
  have HVD : Hid (fl (byaV quoV [[mulV15 S A], [mulV15 (flipN S) A], [mulV15 A A], [A]]) 4 1 = [[bckV S A], [flipN (bckV S A)], [quoV (mulV15 A A) A], [A]]) := by
    show _ = _
    rw [fl_bya, q1, q2]
  have HL : Hid (S < 4294967296 ∧ flipN S < 4294967296 ∧ A < 4294967296) := ⟨hSl, f1, by omega⟩
  have e7 : (S : Int) / 2147483648 = (bckV S A : Int) / 2147483648 := by omega
  have e8 : ((bckV S A : Int) / 2147483648 == (S : Int) / 2147483648) = true := by rw [beq_iff_eq]; omega
  generalize quoV (mulV15 A A) A = junk at *
  generalize mulV15 A A = m3 at *
  generalize mulV15 S A = m1 at *
  generalize mulV15 (flipN S) A = m2 at *
  generalize flipN (bckV S A) = y at *
  generalize bckV S A = x at *
  generalize flipN S = S2 at *
  generalize szN s = z at *
  have D1 : -2 ≤ (x : Int) % 2147483648 - (S : Int) % 2147483648 := by omega
  have D2 : (x : Int) % 2147483648 - (S : Int) % 2147483648 ≤ 2 := by omega
  generalize ((s / 2147483648 * 2147483648 : Nat) : Int) = top at *
  clear k1 k2 k3 k4 q1 q2 sb ab hS hA rS rA hs ha hSl hAl hx f1
  go_enter Try.func4, Try.ntmps4
  go_wp2_with fail
  refine (known15_any _).mono ?_
  rintro e w1 ⟨rfl, q1⟩
  have HQ : Hid (Q w w1) := q1
  clear q1
  go_wp2_with fail
  refine (HZS.out _).mono ?_
  rintro e w9 ⟨rfl, rfl⟩
  go_wp2_with fail
  refine (HZA.out _).mono ?_
  rintro e w9 ⟨rfl, rfl⟩
  go_wp2_with fail
  refine (single_any S _).mono ?_
  rintro e s0 ⟨b0, rfl, c0, _, q0⟩
  have HQ : Hid (Q w s0) := HQ.out.trans q0
  clear q0
  go_wp2_with fail
  refine (single_any S2 _).mono ?_
  rintro e s1 ⟨b1, rfl, c1, _, q1⟩
  have HQ : Hid (Q w s1) := HQ.out.trans q1
  have c0 := q1.cell c0
  clear q1
  go_wp2_with fail
  refine (single_any A _).mono ?_
  rintro e s2 ⟨b2, rfl, c2, _, q2⟩
  have HQ : Hid (Q w s2) := HQ.out.trans q2
  have c0 := q2.cell c0
  have c1 := q2.cell c1
  clear q2
  go_wp2_with fail
  refine (single_any A _).mono ?_
  rintro e s3 ⟨b3, rfl, c3, _, q3⟩
  have HQ : Hid (Q w s3) := HQ.out.trans q3
  have c0 := q3.cell c0
  have c1 := q3.cell c1
  have c2 := q3.cell c2
  clear q3
  go_wp2_with fail
  obtain ⟨w10, hw10⟩ : ∃ y, s3.alloc (.cells #[.int .i64 1, .int .i64 1, .slice (some ⟨b0, 0, none⟩) 1 1, .int .i64 1, .int .i64 1, .slice (some ⟨b1, 0, none⟩) 1 1, .int .i64 1, .int .i64 1, .slice (some ⟨b2, 0, none⟩) 1 1, .int .i64 1, .int .i64 1, .slice (some ⟨b3, 0, none⟩) 1 1] 33) = y := ⟨_, rfl⟩
  have kr := row_four (s0 := S) (s1 := S2) (s2 := A) (s3 := A) hw10
  have k10 : Q s3 w10 := by rw [← hw10]; exact (Q.refl s3).cells _ _
  have hz : w10.heap.size = s3.heap.size + 1 := by rw [← hw10]; simp
  have HP : Hid (Pc w10 s3.heap.size 0 1 1 [⟨b0, 0, 1, [S]⟩, ⟨b1, 0, 1, [S2]⟩, ⟨b2, 0, 1, [A]⟩, ⟨b3, 0, 1, [A]⟩]) := pc_four kr (k10.cell c0) (k10.cell c1) (k10.cell c2) (k10.cell c3) HL.out.1 HL.out.2.1 HL.out.2.2 HL.out.2.2
  have HS : Hid (([⟨b0, 0, 1, [S]⟩, ⟨b1, 0, 1, [S2]⟩, ⟨b2, 0, 1, [A]⟩, ⟨b3, 0, 1, [A]⟩] : List PL).map PL.S = [[S], [S2], [A], [A]]) := rfl
  have HN : Hid (([⟨b0, 0, 1, [S]⟩, ⟨b1, 0, 1, [S2]⟩, ⟨b2, 0, 1, [A]⟩, ⟨b3, 0, 1, [A]⟩] : List PL).length = 4) := rfl
  rw [hw10]
  obtain ⟨G, hG⟩ : ∃ G, s3.heap.size = G := ⟨_, rfl⟩
  rw [hG] at HP hz ⊢
  generalize ([⟨b0, 0, 1, [S]⟩, ⟨b1, 0, 1, [S2]⟩, ⟨b2, 0, 1, [A]⟩, ⟨b3, 0, 1, [A]⟩] : List PL) = L at *
  obtain ⟨w11, hw11⟩ : ∃ y, w10.alloc (.cells #[.int .i64 1, .slice (some ⟨G, 0, none⟩) 4 4] 37) = y := ⟨_, rfl⟩
  have k11 : Q w10 w11 := by rw [← hw11]; exact (Q.refl w10).cells _ _
  have HP : Hid (Pc w11 G 0 1 1 L) := HP.out.next k11
  have HQ : Hid (Q w w11) := (HQ.out.trans k10).trans k11
  have HSP : Hid (spcB 1 4 = true) := (by decide : spcB 1 4 = true)
  rw [hw11]
  clear c0 c1 c2 c3 hw10 hw11 k10 k11 kr hz hG
  refine (multiply_good _ 1 G 0 1 1 4 1 L HP.out HN.out (Nat.le_refl _) HSP.out rfl).mono ?_
  rintro e x0 ⟨g0, cap0, M0, rfl, hM0, hW0, q0⟩
  have HQ : Hid (Q w x0) := HQ.out.trans q0
  rw [HS.out, HVM.out] at hM0
  have S0 : Hid (M0.map PL.S = [[m1], [m2], [m3], [A]]) := hM0
  have N0 : Hid (M0.length = 4) := by have := congrArg List.length hM0; rw [List.length_map] at this; exact this
  have R0 : Hid (Pc x0 g0 0 1 1 M0) := hW0.out.pc
  have C0 : Hid (4 ≤ cap0) := by have := hW0.out.room; rw [N0.out] at this; exact this
  clear hM0 hW0 q0
  go_wp2_with fail
  obtain ⟨y0, hy0⟩ : ∃ y, x0.alloc (.cells #[.int .i64 1, .slice (some ⟨g0, 0, none⟩) 4 cap0] 37) = y := ⟨_, rfl⟩
  have k0 : Q x0 y0 := by rw [← hy0]; exact (Q.refl x0).cells _ _
  have HQ : Hid (Q w y0) := HQ.out.trans k0
  have R0 : Hid (Pc y0 g0 0 1 1 M0) := R0.out.next k0
  rw [hy0]
  clear hy0 k0
  refine (divide_good _ 1 g0 0 1 1 cap0 1 M0 R0.out N0.out C0.out HSP.out rfl).mono ?_
  rintro e x1 ⟨g1, cap1, M1, rfl, hM1, hW1, q1⟩
  have HQ : Hid (Q w x1) := HQ.out.trans q1
  rw [S0.out, HVD.out] at hM1
  have S1 : Hid (M1.map PL.S = [[x], [y], [junk], [A]]) := hM1
  have N1 : Hid (M1.length = 4) := by have := congrArg List.length hM1; rw [List.length_map] at this; exact this
  have R1 : Hid (Pc x1 g1 0 1 1 M1) := hW1.out.pc
  clear hM1 hW1 q1
  obtain ⟨y1, hy1⟩ : ∃ y, x1.alloc (.cells #[.int .i64 1, .slice (some ⟨g1, 0, none⟩) 4 cap1] 37) = y := ⟨_, rfl⟩
  have k1 : Q x1 y1 := by rw [← hy1]; exact (Q.refl x1).cells _ _
  have d0 : y1.cell? ⟨x1.heap.size, 0, none⟩ = some (.int .i64 1) := by rw [← hy1]; simp [go_sem]
  have d1' : y1.cell? ⟨x1.heap.size, 1, none⟩ = some (.slice (some ⟨g1, 0, none⟩) 4 cap1) := by rw [← hy1]; simp [go_sem]
  have HQ : Hid (Q w y1) := HQ.out.trans k1
  have R1 : Hid (Pc y1 g1 0 1 1 M1) := R1.out.next k1
  clear k1
  go_wp2_with fail
  clear hy1
  have HA0 : Hid (∀ z, Q y1 z → Calls Try.prog 16 #[.agg #[.int .i64 1, .slice (some ⟨g1, 0, none⟩) 4 cap1], .int .i64 0] z fun e w' => e = .returned (.int .u32 (x : Nat)) ∧ Q z w') := fun z hz => by have := at_any (cap := cap1) 1 (R1.out.next hz) N1.out rfl 0 (by decide); rw [S1.out, show pix [[x], [y], [junk], [A]] 0 0 = x from rfl] at this; exact this
  have HA1 : Hid (∀ z, Q y1 z → Calls Try.prog 16 #[.agg #[.int .i64 1, .slice (some ⟨g1, 0, none⟩) 4 cap1], .int .i64 1] z fun e w' => e = .returned (.int .u32 (y : Nat)) ∧ Q z w') := fun z hz => by have := at_any (cap := cap1) 1 (R1.out.next hz) N1.out rfl 1 (by decide); rw [S1.out, show pix [[x], [y], [junk], [A]] 1 0 = y from rfl] at this; exact this
  have HA3 : Hid (∀ z, Q y1 z → Calls Try.prog 16 #[.agg #[.int .i64 1, .slice (some ⟨g1, 0, none⟩) 4 cap1], .int .i64 3] z fun e w' => e = .returned (.int .u32 (A : Nat)) ∧ Q z w') := fun z hz => by have := at_any (cap := cap1) 1 (R1.out.next hz) N1.out rfl 3 (by decide); rw [S1.out, show pix [[x], [y], [junk], [A]] 3 0 = A from rfl] at this; exact this
  have len := enters_of Try.func16 (by kernel_rfl) rfl
  have n0 := qw_some y1
  have f0 := qw_cell d0
  have f1 := qw_cell d1'
  refine wp_region_mk [0, 2] [[1, 3, 4, 5]] 4 _ (by kernel_rfl) (by kernel_rfl) rfl (by kernel_rfl) ?_
  simp only [List.filterMap_cons, List.filterMap_nil, List.getElem?_cons_zero, List.getElem?_cons_succ]
  repeat (first | go_big_quiet_step (fail) | quiet_step (fail))
  refine wpQuiet_nil ?_
  intro z0 q0
  clear f0 f1 n0
  refine tree_call 1 rfl rfl (run_fn 16 #[.tmp 55, .const (.int .i64 0)] _ rfl len (vs := #[.agg #[.int .i64 1, .slice (some ⟨g1, 0, none⟩) 4 cap1], .int .i64 0]) (by simp [Act.eval, Act.put])) (calls_u (HA0.out z0 q0)) ?_
  rintro u z1 ⟨rfl, q1⟩
  replace q1 := q0.trans q1
  refine ⟨q1, ?_⟩
  refine tree_call 3 rfl rfl (run_fn 16 #[.tmp 57, .const (.int .i64 1)] _ rfl len (vs := #[.agg #[.int .i64 1, .slice (some ⟨g1, 0, none⟩) 4 cap1], .int .i64 1]) (by simp [Act.eval, Act.put])) (calls_u (HA1.out z1 q1)) ?_
  rintro u z2 ⟨rfl, q2⟩
  replace q2 := q1.trans q2
  refine ⟨q2, ?_⟩
  refine tree_runF 4 rfl rfl rfl (v := .int .u32 (x : Nat)) (x' := z2) (by simp [execOp, go_sem]) ?_
  refine tree_runF 5 rfl rfl rfl (v := .int .u32 (y : Nat)) (x' := z2) (by simp [execOp, go_sem]) ?_
  refine tree_nil ?_
  have HQ : Hid (Q w z2) := HQ.out.trans q2
  have HQ2 : Hid (Q y1 z2) := q2
  have d0 := q2.cell d0
  have d1' := q2.cell d1'
  clear q0 q1 q2
  go_wp2_with fail
  refine (HA3.out _ HQ2.out).mono ?_
  rintro e z3 ⟨rfl, q3⟩
  have HQ : Hid (Q w z3) := HQ.out.trans q3
  clear q3
  go_wp2_with fail
  go_ret
  exact ⟨rfl, HQ.out⟩
end Go.Proofs.Ytkgojnjlfkijiab
