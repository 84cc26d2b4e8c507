/- What the reference's Round returns at binary64 of whatever number; its Wide and Narrow. -/
import Derived.Test.YtnjagokojdpgpabDoorG264d73a3
import Derived.Test.YtnjagokojdpgpabDoorG4d223d74
import Derived.Test.YtnjagokojdpgpabDoorG6f2136d7
import Derived.Test.YtnjagokojdpgpabDoorG1cea1e42
namespace Go.Proofs.YtnjagokojdpgpabDoor
open Go.RowKit

/-- The word of binary64. -/
def roundD : RNum → Nat
  | ⟨none⟩ => 9221120237041090560
  | ⟨some (.inl s)⟩ => Ieee.double.word s 9218868437227405312
  | ⟨some (.inr (s, n, e, m))⟩ => Ieee.double.word s (rungOf Ieee.double (2 * n + m.toNat) (e - 1))
def fitsD : RNum → Prop
  | ⟨some (.inr (_, n, e, m))⟩ => blen n ≤ 6000 ∧ -5000 ≤ e ∧ e ≤ 5000 ∧ (m = true → n ≠ 0 ∧ e + 1 ≤ lastOf Ieee.double n e)
  | _ => True

set_option maxHeartbeats 4000000 in
set_option maxRecDepth 1000000 in
theorem round64_any (v : Value) (x : RNum) (w : World) (hx : NumAt w v x) (hf : fitsD x) :
    Calls Tryd.prog 32 #[.agg #[.int .i64 52, .int .i64 11], v] w fun e w' => e = .returned (.int .u64 (roundD x : Int)) ∧ Q w w' := by
  cases x using RNum.rec3 with
  | nan =>
    obtain ⟨b, e, m, rfl⟩ := hx
    go_enter Tryd.func32, Tryd.ntmps32
    go_wp2_with fail
    refine (fmade_any 52 11 9221120237041090560 (by decide) _).mono ?_
    rintro e w1 ⟨rfl, q1⟩
    go_wp2_with fail
    go_ret
    exact ⟨rfl, (((Q.refl w).cells _ _).cells _ _).trans q1⟩
  | inf s =>
    obtain ⟨e, m, rfl⟩ := hx
    have w4 : IntKind.u64.wrap 9218868437227405312 = 9218868437227405312 := by decide
    have hor := or_word_64 (neg := s) (r := 9218868437227405312) (by decide)
    rw [show ((9218868437227405312 : Nat) : Int) = 9218868437227405312 from rfl] at hor
    obtain ⟨Wd, hWd⟩ : ∃ Wd : Nat, Wd = Ieee.double.word s 9218868437227405312 := ⟨_, rfl⟩
    rw [← hWd] at hor
    have HWD : Hid _ := hWd
    clear hWd
    go_enter Tryd.func32, Tryd.ntmps32
    go_wp2_with fail
    go_region_held3 (fun w' => w'.cell? ⟨w.heap.size, 0, none⟩ = some (.int .i64 52) ∧ w'.cell? ⟨w.heap.size, 1, none⟩ = some (.int .i64 11) ∧ w'.cell? ⟨w.heap.size + 1, 1, none⟩ = some (.bool s)) (first | (simp [go_sem]; done) | go_keep) (first | (go_at_call 55; refine (sign_any 52 11 true s (by decide) _).mono ?_; rintro x v1 ⟨rfl, rfl⟩) | (go_at_call 42; refine (top_any 52 11 2047 (by decide) _).mono ?_; rintro x v1 ⟨rfl, rfl⟩))
    all_goals
      go_wp2_with fail
      go_ret
      exact ⟨ret_int (by rw [HWD.out]; rfl), (((((Q.refl w).cells _ _).cells _ _).cells _ _).cells _ _).drew⟩
  | fin s n e m =>
    obtain ⟨nv, rfl, hn⟩ := hx
    exact round64_fin s nv n e m w hn hf.1 hf.2.1 hf.2.2.1 hf.2.2.2
end Go.Proofs.YtnjagokojdpgpabDoor
/- Plain facts: sums, products and quotients of two samples, rounded to binary64 and then to binary32: it does not show. -/
namespace Go.Proofs.YtnjagokojdpgpabDoor
open Go.RowKit

/-- No sum of two samples lies near a half-way number without being one. -/
theorem sum_mid_le {s t : Bool} {m n k1 k2 Z : Nat} (hm : m < 16777216) (hn : n < 16777216) (hk : k2 ≤ k1) (h2 : 925 ≤ k2) (hZe : Z = (Ieee.signed s m k1 + Ieee.signed t n k2).natAbs) (hK : 0 < lostK Z)
    (hmod : rne Z (lostK Z) * 2 ^ lostK Z % 2 ^ max (Z.log2 - 23) 925 = 2 ^ (max (Z.log2 - 23) 925 - 1)) : rne Z (lostK Z) * 2 ^ lostK Z = Z := by
  obtain ⟨n1, n2⟩ := rne_near Z (lostK Z)
  have h0 : Z ≠ 0 := by intro h0; rw [h0] at hK; exact absurd hK (by decide)
  have hL : Z.log2 = 52 + lostK Z := by unfold lostK at *; omega
  have hd : 2 ^ k2 ∣ Z := by
    rw [hZe, ← Int.ofNat_dvd_left]
    exact Int.dvd_add (signed_dvd s m hk) (signed_dvd t n (Nat.le_refl _))
  rcases Nat.lt_or_ge Z (2 ^ (53 + k2)) with g | g
  · have hl := (Nat.log2_lt h0).2 g
    obtain ⟨o, ho⟩ := Nat.dvd_trans (Nat.pow_dvd_pow 2 (show lostK Z ≤ k2 by omega)) hd
    have e := rne_exact o (lostK Z)
    rw [Nat.mul_comm, ← ho] at e
    rw [e, Nat.mul_comm, ← ho]
  · exfalso
    have hl := (Nat.le_log2 h0).2 g
    rw [show max (Z.log2 - 23) 925 = 29 + lostK Z by omega, show 29 + lostK Z - 1 = 28 + lostK Z by omega, Nat.pow_add, Nat.pow_add, Nat.mul_mod_mul_right] at hmod
    have hE := Nat.two_pow_pos (lostK Z)
    have hc := Nat.eq_of_mul_eq_mul_right hE hmod
    have hlo := Nat.log2_self_le h0
    rw [hL, Nat.pow_add] at hlo
    have hY : n * 2 ^ k2 < 2 ^ 23 * 2 ^ lostK Z := by
      have a1 : n * 2 ^ k2 < 2 ^ 24 * 2 ^ k2 := Nat.mul_lt_mul_of_pos_right hn (Nat.two_pow_pos _)
      rw [← Nat.pow_add] at a1 ⊢
      exact Nat.lt_of_lt_of_le a1 (Nat.pow_le_pow_right (by decide) (by omega))
    have hX : Z ≤ m * 2 ^ k1 + n * 2 ^ k2 ∧ m * 2 ^ k1 ≤ Z + n * 2 ^ k2 := by
      have x1 := signed_abs s m k1
      have x2 := signed_abs t n k2
      omega
    have hk1 : 29 + lostK Z ≤ k1 := by
      rcases Nat.lt_or_ge k1 (29 + lostK Z) with j | j
      · exfalso
        have a1 : m * 2 ^ k1 ≤ 16777215 * (2 ^ 28 * 2 ^ lostK Z) := by
          rw [← Nat.pow_add]
          exact Nat.mul_le_mul (by omega) (Nat.pow_le_pow_right (by decide) (by omega))
        generalize m * 2 ^ k1 = xE at hX a1
        generalize n * 2 ^ k2 = yE at hX hY
        generalize 2 ^ lostK Z = E at hlo hY a1
        omega
      · exact j
    obtain ⟨x, hx⟩ : ∃ x, m * 2 ^ k1 = x * 2 ^ 29 * 2 ^ lostK Z := ⟨m * 2 ^ (k1 - (29 + lostK Z)), by
      rw [Nat.mul_assoc, Nat.mul_assoc, ← Nat.pow_add, ← Nat.pow_add, show k1 - (29 + lostK Z) + (29 + lostK Z) = k1 by omega]⟩
    rw [hx] at hX
    obtain ⟨c, hcc⟩ : ∃ c, c = rne Z (lostK Z) := ⟨_, rfl⟩
    rw [← hcc] at n1 n2 hc
    have u1 : c * 2 ^ lostK Z ≤ (x * 2 ^ 29 + 2 ^ 24) * 2 ^ lostK Z := by
      rw [Nat.add_mul]
      clear hc hcc hx hlo
      generalize c * 2 ^ lostK Z = cE at n1 n2 ⊢
      generalize x * 2 ^ 29 * 2 ^ lostK Z = xE at hX ⊢
      generalize n * 2 ^ k2 = yE at hX hY
      generalize 2 ^ lostK Z = E at n1 n2 hY ⊢
      omega
    have u2 : x * 2 ^ 29 * 2 ^ lostK Z ≤ (c + 2 ^ 24) * 2 ^ lostK Z := by
      rw [Nat.add_mul]
      clear hc hcc hx hlo
      generalize c * 2 ^ lostK Z = cE at n1 n2 ⊢
      generalize x * 2 ^ 29 * 2 ^ lostK Z = xE at hX ⊢
      generalize n * 2 ^ k2 = yE at hX hY
      generalize 2 ^ lostK Z = E at n1 n2 hY ⊢
      omega
    have v1 := Nat.le_of_mul_le_mul_right u1 hE
    have v2 := Nat.le_of_mul_le_mul_right u2 hE
    omega
theorem sum_mid {s t : Bool} {m n k1 k2 Z : Nat} (hm : m < 16777216) (hn : n < 16777216) (h1 : 925 ≤ k1) (h2 : 925 ≤ k2) (hZe : Z = (Ieee.signed s m k1 + Ieee.signed t n k2).natAbs) (hK : 0 < lostK Z)
    (hmod : rne Z (lostK Z) * 2 ^ lostK Z % 2 ^ max (Z.log2 - 23) 925 = 2 ^ (max (Z.log2 - 23) 925 - 1)) : rne Z (lostK Z) * 2 ^ lostK Z = Z := by
  rcases Nat.le_total k2 k1 with g | g
  · exact sum_mid_le hm hn g h2 hZe hK hmod
  · rw [Int.add_comm] at hZe
    exact sum_mid_le hn hm g h1 hZe hK hmod

/-- No quotient of two samples lies near a half-way number without being one. -/
theorem quo_mid {m n A K : Nat} (hn0 : 0 < n) (hn : n < 16777216) (hA : 37 ≤ A) (hK : K = 8 ∨ K = 9) (hd : 2 ^ (K + 28) ∣ rne (sqV m n A) K * 2 ^ K) : rne (sqV m n A) K * 2 ^ K = sqV m n A := by
  obtain ⟨n1, n2⟩ := rne_near (sqV m n A) K
  have hE : 2 ^ K ≤ 512 := by rcases hK with h | h <;> rw [h] <;> decide
  have hd36 : 2 ^ 36 ∣ rne (sqV m n A) K * 2 ^ K := Nat.dvd_trans (Nat.pow_dvd_pow 2 (by omega)) hd
  obtain ⟨C, hC⟩ : ∃ C, C = rne (sqV m n A) K * 2 ^ K := ⟨_, rfl⟩
  rw [← hC] at n1 n2 hd36 ⊢
  have dm := Nat.div_add_mod (m * 2 ^ A) n
  have rm := Nat.mod_lt (m * 2 ^ A) hn0
  have hS : sqV m n A = 2 * (m * 2 ^ A / n) + if m * 2 ^ A % n = 0 then 0 else 1 := rfl
  obtain ⟨S, hSe⟩ : ∃ S, S = sqV m n A := ⟨_, rfl⟩
  rw [← hSe] at n1 n2 hS ⊢
  obtain ⟨W, hW⟩ : ∃ W, m * 2 ^ A = 2 ^ 36 * W := by
    refine ⟨m * 2 ^ (A - 36), ?_⟩
    rw [Nat.mul_left_comm, ← Nat.pow_add, show 36 + (A - 36) = A by omega]
  obtain ⟨v, hv⟩ := hd36
  obtain ⟨q, hq⟩ : ∃ q, q = m * 2 ^ A / n := ⟨_, rfl⟩
  obtain ⟨r, hr⟩ : ∃ r, r = m * 2 ^ A % n := ⟨_, rfl⟩
  rw [← hq, ← hr] at dm hS
  rw [← hr] at rm
  -- n * S lies within n of 2 m 2^A
  have s1 : n * S = 2 * (n * q) + n * (if r = 0 then 0 else 1) := by
    rw [hS, Nat.mul_add, Nat.mul_left_comm]
  have s2 : n * (if r = 0 then 0 else 1) = if r = 0 then 0 else n := by split <;> simp
  rw [s2] at s1
  have c1 : n * C ≤ n * (S + 256) := Nat.mul_le_mul_left _ (by omega)
  have c2 : n * S ≤ n * (C + 256) := Nat.mul_le_mul_left _ (by omega)
  rw [Nat.mul_add] at c1 c2
  have e1 : n * C = 2 ^ 36 * (n * v) := by rw [hv, Nat.mul_left_comm]
  have key : n * v = 2 * W := by
    generalize n * v = nv at e1
    generalize n * C = nC at *
    generalize n * S = nS at *
    generalize n * q = nq at *
    split at s1 <;> omega
  -- so the quotient is exact
  have e2 : n * C = 2 * (m * 2 ^ A) := by rw [e1, key, hW]; omega
  have e3 : n * (C / 2) = m * 2 ^ A := by
    have : C = 2 * (C / 2) := by omega
    have e4 : n * C = 2 * (n * (C / 2)) := by rw [← Nat.mul_left_comm, ← this]
    omega
  have hr0 : r = 0 := by rw [hr, ← e3, Nat.mul_mod_right]
  have hq2 : q = C / 2 := by rw [hq, ← e3, Nat.mul_div_cancel_left _ hn0]
  rw [hS, hr0, if_pos rfl, hq2]
  omega
end Go.Proofs.YtnjagokojdpgpabDoor
/- Plain facts: the reference's sums, products and quotients in binary64, made narrow, are those of samples. -/
namespace Go.Proofs.YtnjagokojdpgpabDoor
open Go.RowKit

/-- A datum, or none, as a number of the reference; as a word of binary64. -/
def optR : Option Ieee.Datum → RNum
  | none => .nan
  | some d => datumR d
def toldW : Option Ieee.Datum → Nat
  | none => 9221120237041090560
  | some (.nan ..) => 9221120237041090560
  | some d => Ieee.double.write d
theorem roundD_fin' (s : Bool) (n : Nat) (e : Int) : roundD (.fin s n e false) = Ieee.double.nearest s n e := by
  show Ieee.double.word s (rungOf Ieee.double (2 * n + 0) (e - 1)) = _
  rw [nearest_rung, Nat.add_zero]
  have := rung_scale Ieee.double n 1 (e - 1)
  rw [Nat.pow_one, Nat.mul_comm n 2] at this
  rw [this, show e - 1 + ((1 : Nat) : Int) = e by omega]
theorem roundD_opt (o : Option Ieee.Datum) : roundD (optR o) = toldW o := by
  cases o with
  | none => rfl
  | some d =>
    cases d with
    | nan s t => rfl
    | infinity s =>
      show Ieee.double.word s 9218868437227405312 = Ieee.double.word s Ieee.double.infRung
      rw [inf64]
    | number s m p => exact roundD_fin' s m p
theorem plusFin_datum (s t : Bool) (X Y : Nat) (b : Int) :
    plusFin s t X Y b = .fin (if (if s = true then -(X : Int) else X) + (if t = true then -(Y : Int) else Y) = 0 then s && t else decide ((if s = true then -(X : Int) else X) + (if t = true then -(Y : Int) else Y) < 0))
      ((if s = true then -(X : Int) else X) + (if t = true then -(Y : Int) else Y)).natAbs b false := by
  unfold plusFin
  by_cases h : s = t
  · subst h
    rw [if_pos rfl]
    cases s
    · simp only [Bool.false_eq_true, if_false]
      rw [show ((X : Int) + (Y : Int)).natAbs = X + Y by omega]
      by_cases h0 : (X : Int) + (Y : Int) = 0
      · rw [if_pos h0]; rfl
      · rw [if_neg h0, decide_eq_false (by omega)]
    · simp only [if_true]
      rw [show (-(X : Int) + -(Y : Int)).natAbs = X + Y by omega]
      by_cases h0 : -(X : Int) + -(Y : Int) = 0
      · rw [if_pos h0]; rfl
      · rw [if_neg h0, decide_eq_true (by omega)]
  · rw [if_neg h]
    cases s <;> cases t <;> simp only [Bool.false_eq_true, if_false, if_true]
    · exact absurd rfl h
    · by_cases hxy : X = Y
      · rw [if_pos hxy, if_pos (by omega : (X : Int) + -(Y : Int) = 0), show ((X : Int) + -(Y : Int)).natAbs = 0 by omega]; rfl
      · rw [if_neg hxy]
        by_cases hlt : Y < X
        · rw [if_pos hlt, if_neg (by omega : ¬ (X : Int) + -(Y : Int) = 0), decide_eq_false (by omega), show ((X : Int) + -(Y : Int)).natAbs = X - Y by omega]
        · rw [if_neg hlt, if_neg (by omega : ¬ (X : Int) + -(Y : Int) = 0), decide_eq_true (by omega), show ((X : Int) + -(Y : Int)).natAbs = Y - X by omega]
    · by_cases hxy : X = Y
      · rw [if_pos hxy, if_pos (by omega : -(X : Int) + (Y : Int) = 0), show (-(X : Int) + (Y : Int)).natAbs = 0 by omega]; rfl
      · rw [if_neg hxy]
        by_cases hlt : Y < X
        · rw [if_pos hlt, if_neg (by omega : ¬ -(X : Int) + (Y : Int) = 0), decide_eq_true (by omega), show (-(X : Int) + (Y : Int)).natAbs = X - Y by omega]
        · rw [if_neg hlt, if_neg (by omega : ¬ -(X : Int) + (Y : Int) = 0), decide_eq_false (by omega), show (-(X : Int) + (Y : Int)).natAbs = Y - X by omega]
    · exact absurd rfl h
theorem sum_opt (d d' : Ieee.Datum) : plusR (datumR d) (datumR d') = optR (d.sum d') := by
  cases d with
  | nan s t => cases d' <;> rfl
  | infinity s =>
    cases d' with
    | nan t f => rfl
    | infinity t =>
      show (if s = t then RNum.inf s else .nan) = optR (if s = t then some (.infinity s) else none)
      by_cases h : s = t
      · rw [if_pos h, if_pos h]; rfl
      · rw [if_neg h, if_neg h]; rfl
    | number t n j => rfl
  | number s m i =>
    cases d' with
    | nan t f => rfl
    | infinity t => rfl
    | number t n j =>
      show plusFin s t (m * 2 ^ (i - min i j).toNat) (n * 2 ^ (j - min i j).toNat) (min i j) = _
      rw [plusFin_datum, ← signed_eq, ← signed_eq]
      rfl
theorem times_opt (d d' : Ieee.Datum) : timesR (datumR d) (datumR d') = optR (d.product d') := by
  cases d with
  | nan s t => cases d' <;> rfl
  | infinity s =>
    cases d' with
    | nan t f => rfl
    | infinity t =>
      show RNum.inf (s != t) = RNum.inf (s ^^ t)
      rw [bne_xor]
    | number t n j =>
      show (if zeroB (.fin t n j false) = true then RNum.nan else .inf (s != t)) = optR (if n = 0 then none else some (Ieee.Datum.infinity (s ^^ t)))
      rw [zeroB_fin, bne_xor]
      by_cases h : n = 0
      · rw [if_pos h, decide_eq_true h, if_pos rfl]; rfl
      · rw [if_neg h, decide_eq_false h, if_neg (by decide)]; rfl
  | number s m i =>
    cases d' with
    | nan t f => rfl
    | infinity t =>
      show (if zeroB (.fin s m i false) = true then RNum.nan else .inf (s != t)) = optR (if m = 0 then none else some (Ieee.Datum.infinity (t ^^ s)))
      rw [zeroB_fin, bne_xor, Bool.xor_comm]
      by_cases h : m = 0
      · rw [if_pos h, decide_eq_true h, if_pos rfl]; rfl
      · rw [if_neg h, decide_eq_false h, if_neg (by decide)]; rfl
    | number t n j =>
      show RNum.fin (s != t) (m * n) (i + j) false = .fin (s ^^ t) (m * n) (i + j) false
      rw [bne_xor]

/-- What a sample, wide, is read as. -/
theorem wideW_cases (a : Nat) : (nanN a = true ∧ (Ieee.double.read (wideW a)).isNaN = true) ∨ (rung32 a = 2139095040 ∧ Ieee.double.read (wideW a) = .infinity (sgn32 a)) ∨
    (rung32 a < 2139095040 ∧ wideW a = wideN a ∧ ∃ M P, Ieee.double.read (wideW a) = .number (sgn32 a) M P ∧ -1074 ≤ P ∧ Ieee.signed (sgn32 a) M (P + 1074).toNat = sampleZ a) := by
  cases h : nanN a
  · have e : wideW a = wideN a := by unfold wideW; rw [h]; rfl
    have h' := h
    rw [nanN_rung] at h'
    have h' := of_decide_eq_false h'
    rcases Nat.lt_or_ge (rung32 a) 2139095040 with g | g
    · obtain ⟨r, s, v⟩ := wide_fin g
      refine Or.inr (Or.inr ⟨g, e, _, _, by rw [e, read_fin64 r, s], by omega, ?_⟩)
      rw [← s, signed_read, v]
    · exact Or.inr (Or.inl ⟨by omega, by rw [e]; exact wide_read_inf (by omega)⟩)
  · have e : wideW a = 9221120237041090560 := by unfold wideW; rw [h]; rfl
    exact Or.inl ⟨rfl, by rw [e]; decide⟩
theorem made_narrow : toldD (some (Ieee.double.read 9221120237041090560)) = 2143289344 := by decide +kernel
theorem sampleZ_lt {a : Nat} (h : rung32 a < 2139095040) : (sampleZ a).natAbs < 2 ^ capJ := by
  unfold sampleZ; rw [signed_abs]
  have := mag_lt32 (rung32 a)
  have hp : plc32 (rung32 a) ≤ 253 := plc_le32 h
  exact cap_units (e := 24) (by omega) (by omega)
/-- Finite sums. -/
theorem dbl_sum_fin {a b : Nat} {t : Bool} {M N : Nat} {P Q' : Int} (ha : rung32 a < 2139095040) (hb : rung32 b < 2139095040) (hP : -1074 ≤ P) (hQ : -1074 ≤ Q')
    (hX : Ieee.signed (sgn32 a) M (P + 1074).toNat = sampleZ a) (hY : Ieee.signed t N (Q' + 1074).toNat = Ieee.signed t (mag32 (rung32 b)) (plc32 (rung32 b) + 925)) :
    toldD (some (Ieee.double.read (toldW ((Ieee.Datum.number (sgn32 a) M P).sum (.number t N Q'))))) = toldD ((Ieee.Datum.number (sgn32 a) (mag32 (rung32 a)) (-149 + (plc32 (rung32 a) : Int))).sum (.number t (mag32 (rung32 b)) (-149 + (plc32 (rung32 b) : Int)))) := by
  obtain ⟨N1, b1, e1, e2⟩ := sum_units (sgn32 a) t M N P Q' hP hQ
  obtain ⟨N2, b2, f1, f2⟩ := sum_units (sgn32 a) t (mag32 (rung32 a)) (mag32 (rung32 b)) (-149 + (plc32 (rung32 a) : Int)) (-149 + (plc32 (rung32 b) : Int)) (by omega) (by omega)
  rw [hX, hY] at e1 e2
  rw [show (-149 + (plc32 (rung32 a) : Int) + 1074).toNat = plc32 (rung32 a) + 925 by omega, show (-149 + (plc32 (rung32 b) : Int) + 1074).toNat = plc32 (rung32 b) + 925 by omega] at f1 f2
  have hZe : sampleZ a + Ieee.signed t (mag32 (rung32 b)) (plc32 (rung32 b) + 925) = Ieee.signed (sgn32 a) (mag32 (rung32 a)) (plc32 (rung32 a) + 925) + Ieee.signed t (mag32 (rung32 b)) (plc32 (rung32 b) + 925) := rfl
  rw [hZe] at e1 e2
  rw [e1, f1, toldD_num, f2]
  obtain ⟨Z, hZ⟩ : ∃ Z, Z = (Ieee.signed (sgn32 a) (mag32 (rung32 a)) (plc32 (rung32 a) + 925) + Ieee.signed t (mag32 (rung32 b)) (plc32 (rung32 b) + 925)).natAbs := ⟨_, rfl⟩
  show toldD (some (Ieee.double.read (Ieee.double.nearest _ N1 b1))) = _
  rw [nearest_rung, e2, ← hZ]
  have l1 := sampleZ_lt ha
  have l2 : (Ieee.signed t (mag32 (rung32 b)) (plc32 (rung32 b) + 925)).natAbs < 2 ^ capJ := by
    have := sampleZ_lt hb
    unfold sampleZ at this
    rw [signed_abs] at this ⊢
    exact this
  have l1' : (Ieee.signed (sgn32 a) (mag32 (rung32 a)) (plc32 (rung32 a) + 925)).natAbs < 2 ^ capJ := l1
  exact told_twice (cap_log (by rw [hZ]; omega)) (fun hK hm => sum_mid (mag_lt32 _) (mag_lt32 _) (by omega) (by omega) hZ hK hm)
theorem add_dbl (a b : Nat) : toldD (some (Ieee.double.read (toldW ((Ieee.double.read (wideW a)).sum (Ieee.double.read (wideW b)))))) = toldD ((Ieee.single.read a).sum (Ieee.single.read b)) := by
  rcases wideW_cases a with ⟨h, e⟩ | ⟨h, e⟩ | ⟨h, _, M, P, e, hP, hX⟩
  · rw [sum_nan1 e, sum_nan1 (read32_nan h)]; exact made_narrow
  · rcases wideW_cases b with ⟨k, f⟩ | ⟨k, f⟩ | ⟨k, _, N, Q', f, hQ, hY⟩
    · rw [sum_nan2 f, sum_nan2 (read32_nan k)]; exact made_narrow
    · rw [e, f, read_inf32 h, read_inf32 k]
      show toldD (some (Ieee.double.read (toldW (if sgn32 a = sgn32 b then some (Ieee.Datum.infinity (sgn32 a)) else none)))) = toldD (if sgn32 a = sgn32 b then some (Ieee.Datum.infinity (sgn32 a)) else none)
      by_cases c : sgn32 a = sgn32 b
      · rw [if_pos c]
        show toldD (some (Ieee.double.read (Ieee.double.write (.infinity (sgn32 a))))) = _
        rw [write_inf, told_inf]
        show _ = Ieee.single.word (sgn32 a) Ieee.single.infRung
        rw [inf32]
      · rw [if_neg c]; exact made_narrow
    · rw [e, f, read_inf32 h, read_fin32 k]
      show toldD (some (Ieee.double.read (Ieee.double.write (.infinity (sgn32 a))))) = Ieee.single.word (sgn32 a) Ieee.single.infRung
      rw [write_inf, told_inf, inf32]
  · rcases wideW_cases b with ⟨k, f⟩ | ⟨k, f⟩ | ⟨k, _, N, Q', f, hQ, hY⟩
    · rw [sum_nan2 f, sum_nan2 (read32_nan k)]; exact made_narrow
    · rw [e, f, read_fin32 h, read_inf32 k]
      show toldD (some (Ieee.double.read (Ieee.double.write (.infinity (sgn32 b))))) = Ieee.single.word (sgn32 b) Ieee.single.infRung
      rw [write_inf, told_inf, inf32]
    · rw [e, f, read_fin32 h, read_fin32 k]
      exact dbl_sum_fin h k hP hQ hX hY
theorem sub_dbl (a b : Nat) : toldD (some (Ieee.double.read (toldW ((Ieee.double.read (wideW a)).sum (Ieee.double.read (wideW b)).opposite)))) = toldD ((Ieee.single.read a).sum (Ieee.single.read b).opposite) := by
  rcases wideW_cases a with ⟨h, e⟩ | ⟨h, e⟩ | ⟨h, _, M, P, e, hP, hX⟩
  · rw [sum_nan1 e, sum_nan1 (read32_nan h)]; exact made_narrow
  · rcases wideW_cases b with ⟨k, f⟩ | ⟨k, f⟩ | ⟨k, _, N, Q', f, hQ, hY⟩
    · rw [sum_nan2 (opp_nan f), sum_nan2 (opp_nan (read32_nan k))]; exact made_narrow
    · rw [e, f, read_inf32 h, read_inf32 k]
      show toldD (some (Ieee.double.read (toldW (if sgn32 a = !sgn32 b then some (Ieee.Datum.infinity (sgn32 a)) else none)))) = toldD (if sgn32 a = !sgn32 b then some (Ieee.Datum.infinity (sgn32 a)) else none)
      by_cases c : sgn32 a = !sgn32 b
      · rw [if_pos c]
        show toldD (some (Ieee.double.read (Ieee.double.write (.infinity (sgn32 a))))) = _
        rw [write_inf, told_inf]
        show _ = Ieee.single.word (sgn32 a) Ieee.single.infRung
        rw [inf32]
      · rw [if_neg c]; exact made_narrow
    · rw [e, f, read_inf32 h, read_fin32 k]
      show toldD (some (Ieee.double.read (Ieee.double.write (.infinity (sgn32 a))))) = Ieee.single.word (sgn32 a) Ieee.single.infRung
      rw [write_inf, told_inf, inf32]
  · rcases wideW_cases b with ⟨k, f⟩ | ⟨k, f⟩ | ⟨k, _, N, Q', f, hQ, hY⟩
    · rw [sum_nan2 (opp_nan f), sum_nan2 (opp_nan (read32_nan k))]; exact made_narrow
    · rw [e, f, read_fin32 h, read_inf32 k]
      show toldD (some (Ieee.double.read (Ieee.double.write (.infinity (!sgn32 b))))) = Ieee.single.word (!sgn32 b) Ieee.single.infRung
      rw [write_inf, told_inf, inf32]
    · rw [e, f, read_fin32 h, read_fin32 k]
      refine dbl_sum_fin h k hP hQ hX ?_
      rw [signed_neg, signed_neg, hY]; rfl
theorem mul_dbl (a b : Nat) : toldD (some (Ieee.double.read (toldW ((Ieee.double.read (wideW a)).product (Ieee.double.read (wideW b)))))) = toldD ((Ieee.single.read a).product (Ieee.single.read b)) := by
  rcases wideW_cases a with ⟨h, e⟩ | ⟨h, e⟩ | ⟨h, ea, M, P, e, hP, hX⟩
  · rw [product_nan1 e, product_nan1 (read32_nan h)]; exact made_narrow
  · rcases wideW_cases b with ⟨k, f⟩ | ⟨k, f⟩ | ⟨k, eb, N, Q', f, hQ, hY⟩
    · rw [product_nan2 f, product_nan2 (read32_nan k)]; exact made_narrow
    · rw [e, f, read_inf32 h, read_inf32 k]
      show toldD (some (Ieee.double.read (Ieee.double.write (.infinity (sgn32 a ^^ sgn32 b))))) = Ieee.single.word (sgn32 a ^^ sgn32 b) Ieee.single.infRung
      rw [write_inf, told_inf, inf32]
    · rw [e, eb, read_fin64 (wide_fin k).1, (wide_fin k).2.1, read_inf32 h, read_fin32 k]
      show toldD (some (Ieee.double.read (toldW (if mag64 (rung64 (wideN b)) = 0 then none else some (Ieee.Datum.infinity (sgn32 a ^^ sgn32 b)))))) = toldD (if mag32 (rung32 b) = 0 then none else some (Ieee.Datum.infinity (sgn32 a ^^ sgn32 b)))
      by_cases z : mag32 (rung32 b) = 0
      · rw [if_pos z, if_pos ((wide_mag_zero k).2 z)]; exact made_narrow
      · rw [if_neg z, if_neg (fun c => z ((wide_mag_zero k).1 c))]
        show toldD (some (Ieee.double.read (Ieee.double.write (.infinity (sgn32 a ^^ sgn32 b))))) = Ieee.single.word (sgn32 a ^^ sgn32 b) Ieee.single.infRung
        rw [write_inf, told_inf, inf32]
  · rcases wideW_cases b with ⟨k, f⟩ | ⟨k, f⟩ | ⟨k, eb, N, Q', f, hQ, hY⟩
    · rw [product_nan2 f, product_nan2 (read32_nan k)]; exact made_narrow
    · rw [f, ea, read_fin64 (wide_fin h).1, (wide_fin h).2.1, read_fin32 h, read_inf32 k]
      show toldD (some (Ieee.double.read (toldW (if mag64 (rung64 (wideN a)) = 0 then none else some (Ieee.Datum.infinity (sgn32 b ^^ sgn32 a)))))) = toldD (if mag32 (rung32 a) = 0 then none else some (Ieee.Datum.infinity (sgn32 b ^^ sgn32 a)))
      by_cases z : mag32 (rung32 a) = 0
      · rw [if_pos z, if_pos ((wide_mag_zero h).2 z)]; exact made_narrow
      · rw [if_neg z, if_neg (fun c => z ((wide_mag_zero h).1 c))]
        show toldD (some (Ieee.double.read (Ieee.double.write (.infinity (sgn32 b ^^ sgn32 a))))) = Ieee.single.word (sgn32 b ^^ sgn32 a) Ieee.single.infRung
        rw [write_inf, told_inf, inf32]
    · have hp := prod_units h k
      have hp' : ((Ieee.double.read (wideN a)).product (Ieee.double.read (wideN b))).map Ieee.double.write = some (wordOf (sgn32 a ^^ sgn32 b) (prodZ a b)) := hp
      rw [ea, eb]
      have pa := plc_le32 h
      have pb := plc_le32 k
      have hlt := prod_lt a b
      obtain ⟨u1, u2, u3⟩ := units_word (s := sgn32 a ^^ sgn32 b) (m := mag32 (rung32 a) * mag32 (rung32 b)) (k := plc32 (rung32 a) + plc32 (rung32 b) + 776) (by omega) (by omega)
      have u1 : rung64 (wordOf (sgn32 a ^^ sgn32 b) (prodZ a b)) < 9218868437227405312 := u1
      have u2 : sgn64 (wordOf (sgn32 a ^^ sgn32 b) (prodZ a b)) = (sgn32 a ^^ sgn32 b) := u2
      have u3 : sval64 (wordOf (sgn32 a ^^ sgn32 b) (prodZ a b)) = prodZ a b := u3
      cases hd : (Ieee.double.read (wideN a)).product (Ieee.double.read (wideN b)) with
      | none => rw [hd] at hp'; cases hp'
      | some d =>
        rw [hd] at hp'
        have hw : toldW (some d) = wordOf (sgn32 a ^^ sgn32 b) (prodZ a b) := by
          have : Ieee.double.write d = wordOf (sgn32 a ^^ sgn32 b) (prodZ a b) := by injection hp'
          rw [← this]
          have hn := product_num hd
          cases d with
          | nan s t => exact absurd hn (by simp [Ieee.Datum.isNaN])
          | infinity s => rfl
          | number s m p => rfl
        have hv := val_abs (wordOf (sgn32 a ^^ sgn32 b) (prodZ a b))
        have hpz : (prodZ a b).natAbs = mag32 (rung32 a) * mag32 (rung32 b) * 2 ^ (plc32 (rung32 a) + plc32 (rung32 b) + 776) := by unfold prodZ; rw [signed_abs]
        rw [u3, hpz] at hv
        rw [hw, read_fin64 u1, u2, toldD_num, rung_word64, ← hv, rung_scale, read_fin32 h, read_fin32 k]
        show _ = toldD (some (.number (sgn32 a ^^ sgn32 b) (mag32 (rung32 a) * mag32 (rung32 b)) (-149 + (plc32 (rung32 a) : Int) + (-149 + (plc32 (rung32 b) : Int)))))
        rw [toldD_num]
        refine congrArg (Ieee.single.word _) (congrArg (rungOf Ieee.single _) ?_)
        omega
end Go.Proofs.YtnjagokojdpgpabDoor
/- Plain facts: the reference's quotients in binary64, made narrow, are those of samples. -/
namespace Go.Proofs.YtnjagokojdpgpabDoor
open Go.RowKit

theorem mag_zero_iff (r : Nat) : mag32 r = 0 ↔ r = 0 := by
  constructor
  · intro c
    rcases Nat.eq_zero_or_pos r with g | g
    · exact g
    · exact absurd c (mag_ne32 (by omega))
  · intro c; rw [c]; decide
theorem sq_scale {m n j1 j2 A B : Nat} (h : A + j1 = B + j2) : sqV (m * 2 ^ j1) (n * 2 ^ j2) A = sqV m n B := by
  have e1 : m * 2 ^ j1 * 2 ^ A = m * 2 ^ B * 2 ^ j2 := by
    rw [Nat.mul_assoc, Nat.mul_assoc, ← Nat.pow_add, ← Nat.pow_add, show j1 + A = B + j2 by omega]
  unfold sqV
  rw [e1, Nat.mul_div_mul_right _ _ (Nat.two_pow_pos j2), Nat.mul_mod_mul_right]
  congr 1
  by_cases k : m * 2 ^ B % n = 0
  · rw [if_pos k, k, Nat.zero_mul, if_pos rfl]
  · rw [if_neg k, if_neg]
    intro c
    rcases Nat.mul_eq_zero.1 c with c | c
    · exact k c
    · have := Nat.two_pow_pos j2; omega
theorem roundD_more (s : Bool) (m n A : Nat) (x : Int) : roundD (.fin s (m * 2 ^ A / n) (x - (A : Int)) (!decide (m * 2 ^ A % n = 0))) = Ieee.double.word s (rungOf Ieee.double (sqV m n A) (x - A - 1)) := by
  show Ieee.double.word s (rungOf Ieee.double (2 * (m * 2 ^ A / n) + (!decide (m * 2 ^ A % n = 0)).toNat) (x - (A : Int) - 1)) = _
  rw [sq_not]
theorem roundR_more (s : Bool) (m n A : Nat) (x : Int) : roundR (.fin s (m * 2 ^ A / n) (x - (A : Int)) (!decide (m * 2 ^ A % n = 0))) = Ieee.single.word s (rungOf Ieee.single (sqV m n A) (x - A - 1)) := by
  show Ieee.single.word s (rungOf Ieee.single (2 * (m * 2 ^ A / n) + (!decide (m * 2 ^ A % n = 0)).toNat) (x - (A : Int) - 1)) = _
  rw [sq_not]
theorem divR_fin {s t : Bool} {m n : Nat} {e f : Int} (hm : m ≠ 0) (hn : n ≠ 0) : divR (.fin s m e false) (.fin t n f false) = .fin (s != t) (m * 2 ^ shV m n / n) (e - f - (shV m n : Int)) (!decide (m * 2 ^ shV m n % n = 0)) := by
  unfold divR
  dsimp only
  rw [zeroB_fin, zeroB_fin, decide_eq_false hm, decide_eq_false hn, if_neg (by decide)]
theorem divR_zero {s t : Bool} {m n : Nat} {e f : Int} (h : m = 0 ∨ n = 0) : divR (.fin s m e false) (.fin t n f false) = if n = 0 then (if m = 0 then .nan else .inf (s != t)) else .fin (s != t) 0 0 false := by
  unfold divR
  dsimp only
  rw [zeroB_fin, zeroB_fin]
  simp only [decide_eq_true_eq]
  rw [if_pos h]
theorem narrow_zero (s : Bool) : toldD (some (Ieee.double.read (roundD (.fin s 0 0 false)))) = roundR (.fin s 0 0 false) := by
  rw [roundD_fin', nearest_rung, rungOf_zero, read_word64, toldD_num, rungOf_zero, roundR_fin, nearest_rung, rungOf_zero]
theorem narrow_rinf (s : Bool) : toldD (some (Ieee.double.read (roundD (.inf s)))) = roundR (.inf s) := told_inf s
/-- Two finite samples that are not 0. -/
theorem div_dbl_fin {a b : Nat} (a0 : rung32 a ≠ 0) (ha : rung32 a < 2139095040) (b0 : rung32 b ≠ 0) (hb : rung32 b < 2139095040) :
    toldD (some (Ieee.double.read (roundD (divR (datumR (Ieee.double.read (wideN a))) (datumR (Ieee.double.read (wideN b))))))) = roundR (divR (datumR (Ieee.single.read a)) (datumR (Ieee.single.read b))) := by
  obtain ⟨L1, hL1, m0, m1, e1, hp1⟩ := wide_wd a0 ha
  obtain ⟨L2, hL2, n0, n1, e2, hp2⟩ := wide_wd b0 hb
  have hm := mag_ne32 a0
  have hn := mag_ne32 b0
  have hmb := mag_lt32 (rung32 a)
  have hnb := mag_lt32 (rung32 b)
  have full : ∀ {m L : Nat}, L ≤ 23 → 2 ^ L ≤ m → m < 2 ^ (L + 1) → 4503599627370496 ≤ m * 2 ^ (52 - L) ∧ m * 2 ^ (52 - L) < 9007199254740992 := by
    intro m L hL h0 h1
    have k1 := Nat.mul_le_mul_right (2 ^ (52 - L)) h0
    have k2 := Nat.mul_lt_mul_of_pos_right h1 (Nat.two_pow_pos (52 - L))
    rw [← Nat.pow_add, show L + (52 - L) = 52 by omega] at k1
    rw [← Nat.pow_add, show L + 1 + (52 - L) = 53 by omega] at k2
    exact ⟨k1, k2⟩
  obtain ⟨f1, f2⟩ := full hL1 m0 m1
  obtain ⟨g1, g2⟩ := full hL2 n0 n1
  rw [e1, e2, read_wd f1 f2 (by omega) (by omega), read_wd g1 g2 (by omega) (by omega), read_fin32 ha, read_fin32 hb]
  show toldD (some (Ieee.double.read (roundD (divR (.fin (sgn32 a) (mag32 (rung32 a) * 2 ^ (52 - L1)) (-149 + (plc32 (rung32 a) : Int) + L1 - 52) false) (.fin (sgn32 b) (mag32 (rung32 b) * 2 ^ (52 - L2)) (-149 + (plc32 (rung32 b) : Int) + L2 - 52) false))))) =
    roundR (divR (.fin (sgn32 a) (mag32 (rung32 a)) (-149 + (plc32 (rung32 a) : Int)) false) (.fin (sgn32 b) (mag32 (rung32 b)) (-149 + (plc32 (rung32 b) : Int)) false))
  rw [divR_fin (by omega) (by omega), divR_fin hm hn, roundD_more, roundR_more]
  obtain ⟨m, hme⟩ : ∃ m, m = mag32 (rung32 a) := ⟨_, rfl⟩
  obtain ⟨n, hne⟩ : ∃ n, n = mag32 (rung32 b) := ⟨_, rfl⟩
  obtain ⟨p, hp⟩ : ∃ p : Int, p = -149 + (plc32 (rung32 a) : Int) := ⟨_, rfl⟩
  obtain ⟨q, hq⟩ : ∃ q : Int, q = -149 + (plc32 (rung32 b) : Int) := ⟨_, rfl⟩
  rw [← hme] at hm hmb m0 m1 f1 f2 ⊢
  rw [← hne] at hn hnb n0 n1 g1 g2 ⊢
  rw [← hp, ← hq]
  have hlm : m.log2 = L1 := (Nat.log2_eq_iff hm).2 ⟨m0, m1⟩
  have hln : n.log2 = L2 := (Nat.log2_eq_iff hn).2 ⟨n0, n1⟩
  have hsh : shV (m * 2 ^ (52 - L1)) (n * 2 ^ (52 - L2)) = 60 := by
    unfold shV blen
    rw [if_neg (by omega), if_neg (by omega), log2_mul_pow hm, log2_mul_pow hn, hlm, hln]
    omega
  obtain ⟨A, hA⟩ : ∃ A : Nat, A = 60 + L2 - L1 := ⟨_, rfl⟩
  rw [hsh, sq_scale (A := 60) (B := A) (by omega)]
  -- the number of digits
  have hq1 := quo_digits hm hn (d := 60) (by decide)
  rw [hlm, hln, ← hA] at hq1
  have hq2 : m * 2 ^ A / n < 2 ^ 61 := by
    rw [Nat.div_lt_iff_lt_mul (by omega)]
    have k1 := Nat.mul_lt_mul_of_pos_right m1 (Nat.two_pow_pos A)
    rw [← Nat.pow_add] at k1
    have k2 := Nat.mul_le_mul_left (2 ^ 61) n0
    rw [← Nat.pow_add] at k2
    exact Nat.lt_of_lt_of_le k1 (Nat.le_trans (Nat.pow_le_pow_right (by decide) (by omega)) k2)
  obtain ⟨S, hS⟩ : ∃ S, S = sqV m n A := ⟨_, rfl⟩
  have hS1 : 2 ^ 60 ≤ S := by rw [hS]; unfold sqV; omega
  have hS2 : S < 2 ^ 62 := by rw [hS]; unfold sqV; split <;> omega
  have hS0 : S ≠ 0 := by omega
  have hSl : S.log2 = 60 ∨ S.log2 = 61 := by
    have k1 := (Nat.le_log2 hS0).2 hS1
    have k2 := (Nat.log2_lt hS0).2 hS2
    omega
  -- in least units
  obtain ⟨k, hk⟩ : ∃ k : Nat, p - q - A - 1 = -1074 + (k : Int) := ⟨(p - q - A - 1 + 1074).toNat, by omega⟩
  have hZl : (S * 2 ^ k).log2 = S.log2 + k := log2_mul_pow hS0 k
  have hKz : lostK (S * 2 ^ k) = (S.log2 - 52) + k := by unfold lostK; rw [hZl]; omega
  have er : rne (S * 2 ^ k) (lostK (S * 2 ^ k)) = rne S (S.log2 - 52) := by rw [hKz, rne_scale]
  have htw := told_twice (s := (sgn32 a != sgn32 b)) (Z := S * 2 ^ k) (by rw [hZl]; omega) (by
    intro _ hmod
    rw [er, hKz, Nat.pow_add, ← Nat.mul_assoc] at hmod ⊢
    refine congrArg (· * 2 ^ k) ?_
    rw [hS]
    rw [hS] at hmod hSl hZl
    refine quo_mid (by omega) hnb (by omega) (by omega) ?_
    have hd : 2 ^ ((sqV m n A).log2 - 52 + 28 + k) ∣ rne (sqV m n A) ((sqV m n A).log2 - 52) * 2 ^ ((sqV m n A).log2 - 52) * 2 ^ k := by
      have hD : (sqV m n A).log2 - 52 + 28 + k ≤ max ((sqV m n A * 2 ^ k).log2 - 23) 925 - 1 := by omega
      have d1 := Nat.div_add_mod (rne (sqV m n A) ((sqV m n A).log2 - 52) * 2 ^ ((sqV m n A).log2 - 52) * 2 ^ k) (2 ^ max ((sqV m n A * 2 ^ k).log2 - 23) 925)
      rw [hmod] at d1
      rw [← d1]
      refine Nat.dvd_add (Nat.dvd_trans (Nat.pow_dvd_pow 2 ?_) (Nat.dvd_mul_right _ _)) (Nat.pow_dvd_pow 2 hD)
      omega
    rw [Nat.pow_add] at hd
    exact Nat.dvd_of_mul_dvd_mul_right (Nat.two_pow_pos k) hd)
  have eP : (p + (L1 : Int) - 52) - (q + (L2 : Int) - 52) - ((60 : Nat) : Int) - 1 = -1074 + (k : Int) := by omega
  rw [← hS, eP, ← rung_scale, htw]
  refine congrArg (Ieee.single.word _) ?_
  rw [rung_scale, ← hk, hS]
  rcases Nat.le_total A (shV m n) with g | g
  · refine (sq_link Ieee.single (p - q) (by omega) g ?_).symm
    exact Nat.le_trans (by decide) hq1
  · refine sq_link Ieee.single (p - q) (by omega) g ?_
    have h3 := quo_big hm hn
    exact Nat.le_trans (by decide) h3
theorem div_dbl (a b : Nat) : toldD (some (Ieee.double.read (roundD (divR (datumR (Ieee.double.read (wideW a))) (datumR (Ieee.double.read (wideW b))))))) = toldD ((Ieee.single.read a).quotient 25 (Ieee.single.read b)) := by
  rw [← div_link]
  rcases wideW_cases a with ⟨h, e⟩ | ⟨h, e⟩ | ⟨h, ea, M, P, e, hP, hX⟩
  · obtain ⟨s, t, e'⟩ := isNaN_cases e
    obtain ⟨s', t', f'⟩ := isNaN_cases (read32_nan h)
    rw [e', f']; exact made_narrow
  · rcases wideW_cases b with ⟨k, f⟩ | ⟨k, f⟩ | ⟨k, eb, N, Q', f, hQ, hY⟩
    · obtain ⟨s, t, e'⟩ := isNaN_cases f
      obtain ⟨s', t', f'⟩ := isNaN_cases (read32_nan k)
      rw [e, e', f', read_inf32 h]; exact made_narrow
    · rw [e, f, read_inf32 h, read_inf32 k]; exact made_narrow
    · rw [e, f, read_inf32 h, read_fin32 k]
      exact narrow_rinf _
  · rcases wideW_cases b with ⟨k, f⟩ | ⟨k, f⟩ | ⟨k, eb, N, Q', f, hQ, hY⟩
    · obtain ⟨s, t, e'⟩ := isNaN_cases f
      obtain ⟨s', t', f'⟩ := isNaN_cases (read32_nan k)
      rw [e, e', f', read_fin32 h]; exact made_narrow
    · rw [e, f, read_fin32 h, read_inf32 k]
      exact narrow_zero _
    · by_cases z : rung32 a = 0 ∨ rung32 b = 0
      · rw [ea, eb, read_fin64 (wide_fin h).1, read_fin64 (wide_fin k).1, (wide_fin h).2.1, (wide_fin k).2.1, read_fin32 h, read_fin32 k]
        have za := mag_zero_iff (rung32 a)
        have zb := mag_zero_iff (rung32 b)
        have wa := wide_mag_zero h
        have wb := wide_mag_zero k
        show toldD (some (Ieee.double.read (roundD (divR (.fin (sgn32 a) (mag64 (rung64 (wideN a))) (-1074 + (plc64 (rung64 (wideN a)) : Int)) false) (.fin (sgn32 b) (mag64 (rung64 (wideN b))) (-1074 + (plc64 (rung64 (wideN b)) : Int)) false))))) =
          roundR (divR (.fin (sgn32 a) (mag32 (rung32 a)) (-149 + (plc32 (rung32 a) : Int)) false) (.fin (sgn32 b) (mag32 (rung32 b)) (-149 + (plc32 (rung32 b) : Int)) false))
        rw [divR_zero (by rw [wa, wb, za, zb]; exact z), divR_zero (by rw [za, zb]; exact z)]
        simp only [wa, wb]
        split
        · split
          · exact made_narrow
          · exact narrow_rinf _
        · exact narrow_zero _
      · rw [ea, eb]
        exact div_dbl_fin (fun c => z (Or.inl c)) h (fun c => z (Or.inr c)) k
end Go.Proofs.YtnjagokojdpgpabDoor
/- What the reference's TimesNum and DivNum return of samples made wide; that what comes out fits. -/
namespace Go.Proofs.YtnjagokojdpgpabDoor
open Go.RowKit

/-- Numbers of samples made wide. -/
def wideR : RNum → Prop
  | ⟨some (.inr (_, n, e, m))⟩ => n < 9007199254740992 ∧ -1074 ≤ e ∧ e ≤ 80 ∧ m = false ∧ (n ≠ 0 → -210 ≤ e)
  | _ => True
theorem wideR_of (a : Nat) : wideR (datumR (Ieee.double.read (wideW a))) := by
  rcases wideW_cases a with ⟨h, e⟩ | ⟨h, e⟩ | ⟨h, ea, M, P, e, hP, hX⟩
  · obtain ⟨s, t, e'⟩ := isNaN_cases e
    rw [e']; exact trivial
  · rw [e]; exact trivial
  · rw [ea]
    by_cases z : rung32 a = 0
    · rw [wide_zero z, read_word64]
      exact ⟨by omega, by omega, by omega, rfl, fun c => absurd rfl c⟩
    · obtain ⟨L, hL, m0, m1, e1, hp⟩ := wide_wd z h
      have k1 := Nat.mul_le_mul_right (2 ^ (52 - L)) m0
      have k2 := Nat.mul_lt_mul_of_pos_right m1 (Nat.two_pow_pos (52 - L))
      rw [← Nat.pow_add, show L + (52 - L) = 52 by omega] at k1
      rw [← Nat.pow_add, show L + 1 + (52 - L) = 53 by omega] at k2
      rw [e1, read_wd k1 k2 (by omega) (by omega)]
      exact ⟨k2, by omega, by omega, rfl, fun _ => by omega⟩
theorem wideR_small {x : RNum} (h : wideR x) : small x := by
  cases x using RNum.rec3 with
  | nan => exact trivial
  | inf s => exact trivial
  | fin s n e m => exact ⟨by have := blen_le (n := n) (k := 53) h.1; omega, by have := h.2.1; omega, by have := h.2.2.1; omega⟩
theorem wideR_opp {x : RNum} (h : wideR x) : wideR (oppR x) := by cases x using RNum.rec3 <;> exact h
theorem plus_fitsD {x y : RNum} (hx : wideR x) (hy : wideR y) : fitsD (plusR x y) := by
  cases x using RNum.rec3 with
  | nan => exact trivial
  | inf s =>
    cases y using RNum.rec3 with
    | nan => exact trivial
    | inf t => show fitsD (if s = t then .inf s else .nan); split <;> exact trivial
    | fin t k f g => exact trivial
  | fin s n e m =>
    cases y using RNum.rec3 with
    | nan => exact trivial
    | inf t => exact trivial
    | fin t k f g =>
      obtain ⟨a1, a2, a3, rfl, _⟩ := hx
      obtain ⟨b1, b2, b3, rfl, _⟩ := hy
      show fitsD (plusFin s t (n * 2 ^ (e - min e f).toNat) (k * 2 ^ (f - min e f).toNat) (min e f))
      rw [plusFin_datum]
      obtain ⟨J, hJ⟩ : ∃ J : Nat, J = 1200 := ⟨_, rfl⟩
      have up : ∀ {z : Nat} {d : Nat}, z < 9007199254740992 → d ≤ J → z * 2 ^ d < 2 ^ (53 + J) := by
        intro z d hz hd
        have k1 : z * 2 ^ d < 2 ^ 53 * 2 ^ d := Nat.mul_lt_mul_of_pos_right hz (Nat.two_pow_pos _)
        rw [← Nat.pow_add] at k1
        exact Nat.lt_of_lt_of_le k1 (Nat.pow_le_pow_right (by decide) (by omega))
      have u1 := up (d := (e - min e f).toNat) a1 (by omega)
      have u2 := up (d := (f - min e f).toNat) b1 (by omega)
      refine ⟨?_, by omega, by omega, fun h => by cases h⟩
      generalize n * 2 ^ (e - min e f).toNat = X at u1
      generalize k * 2 ^ (f - min e f).toNat = Y at u2
      have e54 : 2 ^ (53 + J + 1) = 2 * 2 ^ (53 + J) := by rw [Nat.pow_succ]; omega
      have hs : ((if s = true then -(X : Int) else X) + (if t = true then -(Y : Int) else Y)).natAbs < 2 ^ (53 + J + 1) := by
        rw [e54]
        generalize 2 ^ (53 + J) = B at u1 u2
        split <;> split <;> omega
      have := blen_le hs
      omega
theorem times_fitsD {x y : RNum} (hx : wideR x) (hy : wideR y) : fitsD (timesR x y) := by
  cases x using RNum.rec3 with
  | nan => exact trivial
  | inf s =>
    cases y using RNum.rec3 with
    | nan => exact trivial
    | inf t => exact trivial
    | fin t k f g => show fitsD (if zeroB (.fin t k f g) = true then .nan else .inf (s != t)); split <;> exact trivial
  | fin s n e m =>
    cases y using RNum.rec3 with
    | nan => exact trivial
    | inf t => show fitsD (if zeroB (.fin s n e m) = true then .nan else .inf (s != t)); split <;> exact trivial
    | fin t k f g =>
      obtain ⟨a1, a2, a3, rfl, _⟩ := hx
      obtain ⟨b1, b2, b3, rfl, _⟩ := hy
      refine ⟨?_, by omega, by omega, fun h => by cases h⟩
      have : n * k < 2 ^ 53 * 2 ^ 53 := Nat.mul_lt_mul_of_lt_of_le a1 (Nat.le_of_lt b1) (by decide)
      rw [← Nat.pow_add] at this
      have := blen_le this
      omega
theorem div_fitsD {x y : RNum} (hx : wideR x) (hy : wideR y) : fitsD (divR x y) := by
  cases x using RNum.rec3 with
  | nan => exact trivial
  | inf s =>
    cases y using RNum.rec3 with
    | nan => exact trivial
    | inf t => exact trivial
    | fin t k f g => exact trivial
  | fin s n e m =>
    cases y using RNum.rec3 with
    | nan => exact trivial
    | inf t => exact ⟨by decide, by decide, by decide, fun h => by cases h⟩
    | fin t k f g =>
      obtain ⟨a1, a2, a3, rfl, a5⟩ := hx
      obtain ⟨b1, b2, b3, rfl, b5⟩ := hy
      by_cases hz : n = 0 ∨ k = 0
      · rw [divR_zero hz]
        split
        · split <;> exact trivial
        · exact ⟨by decide, by decide, by decide, fun h => by cases h⟩
      · have n0 : n ≠ 0 := fun c => hz (Or.inl c)
        have k0 : k ≠ 0 := fun c => hz (Or.inr c)
        rw [divR_fin n0 k0]
        have hsh : shV n k ≤ 120 := by
          unfold shV
          have c2 := blen_le (n := k) (k := 53) b1
          omega
        have hbig := quo_big n0 k0
        have d1 := a5 n0
        have d2 := b5 k0
        have hq : n * 2 ^ shV n k / k < 2 ^ 200 := by
          refine Nat.lt_of_le_of_lt (Nat.div_le_self _ _) ?_
          have k1 : n * 2 ^ shV n k < 2 ^ 53 * 2 ^ shV n k := Nat.mul_lt_mul_of_pos_right a1 (Nat.two_pow_pos _)
          rw [← Nat.pow_add] at k1
          exact Nat.lt_of_lt_of_le k1 (Nat.pow_le_pow_right (by decide) (by omega))
        refine ⟨by have := blen_le hq; omega, by omega, by omega, fun _ => ⟨by omega, ?_⟩⟩
        unfold lastOf
        have : 59 ≤ (n * 2 ^ shV n k / k).log2 := (Nat.le_log2 (by omega)).2 hbig
        rw [frac64]
        omega
end Go.Proofs.YtnjagokojdpgpabDoor
