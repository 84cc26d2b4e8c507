/- What the reference's TimesNum and DivNum return of samples made wide; that what comes out fits. -/
import Derived.Test.YtpoilgiplhogjaaG013c46e7
import Derived.Test.YtpoilgiplhogjaaG95fd830e
import Derived.Test.YtpoilgiplhogjaaG8cf4c4db
namespace Go.Proofs.Ytpoilgiplhogjaa
open Go.RowKit

/-- Numbers of samples made wide. -/
def wideR : RNum → Prop
  | ⟨some (.inr (_, n, e, m))⟩ => n < 9007199254740992 ∧ -1074 ≤ e ∧ e ≤ 80 ∧ m = false ∧ (n ≠ 0 → -210 ≤ e)
  | _ => True
theorem wideR_of (a : Nat) : wideR (datumR (Ieee.double.read (wideW a))) := by
  rcases wideW_cases a with ⟨h, e⟩ | ⟨h, e⟩ | ⟨h, ea, M, P, e, hP, hX⟩
  · obtain ⟨s, t, e'⟩ := isNaN_cases e
    rw [e']; exact trivial
  · rw [e]; exact trivial
  · rw [ea]
    by_cases z : rung32 a = 0
    · rw [wide_zero z, read_word64]
      exact ⟨by omega, by omega, by omega, rfl, fun c => absurd rfl c⟩
    · obtain ⟨L, hL, m0, m1, e1, hp⟩ := wide_wd z h
      have k1 := Nat.mul_le_mul_right (2 ^ (52 - L)) m0
      have k2 := Nat.mul_lt_mul_of_pos_right m1 (Nat.two_pow_pos (52 - L))
      rw [← Nat.pow_add, show L + (52 - L) = 52 by omega] at k1
      rw [← Nat.pow_add, show L + 1 + (52 - L) = 53 by omega] at k2
      rw [e1, read_wd k1 k2 (by omega) (by omega)]
      exact ⟨k2, by omega, by omega, rfl, fun _ => by omega⟩
theorem wideR_small {x : RNum} (h : wideR x) : small x := by
  cases x using RNum.rec3 with
  | nan => exact trivial
  | inf s => exact trivial
  | fin s n e m => exact ⟨by have := blen_le (n := n) (k := 53) h.1; omega, by have := h.2.1; omega, by have := h.2.2.1; omega⟩
theorem wideR_opp {x : RNum} (h : wideR x) : wideR (oppR x) := by cases x using RNum.rec3 <;> exact h
theorem plus_fitsD {x y : RNum} (hx : wideR x) (hy : wideR y) : fitsD (plusR x y) := by
  cases x using RNum.rec3 with
  | nan => exact trivial
  | inf s =>
    cases y using RNum.rec3 with
    | nan => exact trivial
    | inf t => show fitsD (if s = t then .inf s else .nan); split <;> exact trivial
    | fin t k f g => exact trivial
  | fin s n e m =>
    cases y using RNum.rec3 with
    | nan => exact trivial
    | inf t => exact trivial
    | fin t k f g =>
      obtain ⟨a1, a2, a3, rfl, _⟩ := hx
      obtain ⟨b1, b2, b3, rfl, _⟩ := hy
      show fitsD (plusFin s t (n * 2 ^ (e - min e f).toNat) (k * 2 ^ (f - min e f).toNat) (min e f))
      rw [plusFin_datum]
      obtain ⟨J, hJ⟩ : ∃ J : Nat, J = 1200 := ⟨_, rfl⟩
      have up : ∀ {z : Nat} {d : Nat}, z < 9007199254740992 → d ≤ J → z * 2 ^ d < 2 ^ (53 + J) := by
        intro z d hz hd
        have k1 : z * 2 ^ d < 2 ^ 53 * 2 ^ d := Nat.mul_lt_mul_of_pos_right hz (Nat.two_pow_pos _)
        rw [← Nat.pow_add] at k1
        exact Nat.lt_of_lt_of_le k1 (Nat.pow_le_pow_right (by decide) (by omega))
      have u1 := up (d := (e - min e f).toNat) a1 (by omega)
      have u2 := up (d := (f - min e f).toNat) b1 (by omega)
      refine ⟨?_, by omega, by omega, fun h => by cases h⟩
      generalize n * 2 ^ (e - min e f).toNat = X at u1
      generalize k * 2 ^ (f - min e f).toNat = Y at u2
      have e54 : 2 ^ (53 + J + 1) = 2 * 2 ^ (53 + J) := by rw [Nat.pow_succ]; omega
      have hs : ((if s = true then -(X : Int) else X) + (if t = true then -(Y : Int) else Y)).natAbs < 2 ^ (53 + J + 1) := by
        rw [e54]
        generalize 2 ^ (53 + J) = B at u1 u2
        split <;> split <;> omega
      have := blen_le hs
      omega
theorem times_wide (va vb : Value) (x y : RNum) (w : World) (hx : NumAt w va x) (hy : NumAt w vb y) (fx : wideR x) (fy : wideR y) :
    Calls Try.prog 14 #[va, vb] w fun e w' => ∃ v, e = .returned v ∧ NumAt w' v (timesR x y) ∧ Q w w' := by
  cases x using RNum.rec3 with
  | nan => exact times_nan1 va vb y w hx hy
  | inf s =>
    cases y using RNum.rec3 with
    | nan => exact times_nan2 va vb _ w hx hy (fun k s' p L C e m h => by
        obtain ⟨e', m', h'⟩ := hx
        rw [h'] at h
        intro hk
        rw [hk] at h
        simp at h)
    | inf t => exact times_infinf va vb s t w hx hy
    | fin t n f g => exact times_inffin va vb s t n f g w hx hy
  | fin s n e m =>
    cases y using RNum.rec3 with
    | nan => exact times_nan2 va vb _ w hx hy (fun k s' p L C e' m' h => by
        obtain ⟨nv, h', hn⟩ := hx
        rw [h'] at h
        intro hk
        rw [hk] at h
        simp at h)
    | inf t => exact times_fininf va vb s t n e m w hx hy
    | fin t k f g =>
      obtain ⟨nv, rfl, hn⟩ := hx
      obtain ⟨kv, rfl, hk⟩ := hy
      have b1 := blen_le (n := n) (k := 53) fx.1
      have b2 := blen_le (n := k) (k := 53) fy.1
      exact times_fin s t m g nv kv n k e f w hn hk (by omega) (by have := fx.2.1; omega) (by have := fx.2.2.1; omega) (by omega) (by have := fy.2.1; omega) (by have := fy.2.2.1; omega)
theorem times_fitsD {x y : RNum} (hx : wideR x) (hy : wideR y) : fitsD (timesR x y) := by
  cases x using RNum.rec3 with
  | nan => exact trivial
  | inf s =>
    cases y using RNum.rec3 with
    | nan => exact trivial
    | inf t => exact trivial
    | fin t k f g => show fitsD (if zeroB (.fin t k f g) = true then .nan else .inf (s != t)); split <;> exact trivial
  | fin s n e m =>
    cases y using RNum.rec3 with
    | nan => exact trivial
    | inf t => show fitsD (if zeroB (.fin s n e m) = true then .nan else .inf (s != t)); split <;> exact trivial
    | fin t k f g =>
      obtain ⟨a1, a2, a3, rfl, _⟩ := hx
      obtain ⟨b1, b2, b3, rfl, _⟩ := hy
      refine ⟨?_, by omega, by omega, fun h => by cases h⟩
      have : n * k < 2 ^ 53 * 2 ^ 53 := Nat.mul_lt_mul_of_lt_of_le a1 (Nat.le_of_lt b1) (by decide)
      rw [← Nat.pow_add] at this
      have := blen_le this
      omega
theorem div_wide (va vb : Value) (x y : RNum) (w : World) (hx : NumAt w va x) (hy : NumAt w vb y) (fx : wideR x) (fy : wideR y) :
    Calls Try.prog 16 #[va, vb] w fun e w' => ∃ v, e = .returned v ∧ NumAt w' v (divR x y) ∧ Q w w' := by
  cases x using RNum.rec3 with
  | nan => exact div_nan1 va vb y w hx hy
  | inf s =>
    cases y using RNum.rec3 with
    | nan => exact div_nan2 va vb _ w hx hy (fun k s' p L C e m h => by
        obtain ⟨e', m', h'⟩ := hx
        rw [h'] at h
        intro hk
        rw [hk] at h
        simp at h)
    | inf t => exact div_infinf va vb s t w hx hy
    | fin t n f g => exact div_inffin va vb s t n f g w hx hy
  | fin s n e m =>
    cases y using RNum.rec3 with
    | nan => exact div_nan2 va vb _ w hx hy (fun k s' p L C e' m' h => by
        obtain ⟨nv, h', hn⟩ := hx
        rw [h'] at h
        intro hk
        rw [hk] at h
        simp at h)
    | inf t => exact div_fininf va vb s t n e m w hx hy
    | fin t k f g =>
      obtain ⟨a1, a2, a3, rfl, a5⟩ := fx
      obtain ⟨b1, b2, b3, rfl, b5⟩ := fy
      by_cases hz : n = 0 ∨ k = 0
      · have hz' : zeroB (.fin s n e false) = true ∨ zeroB (.fin t k f false) = true := by rw [zeroB_fin, zeroB_fin]; simpa using hz
        have := div_nought va vb s t n k e f false false w hx hy hz'
        rw [divR_zero hz]
        rw [zeroB_fin, zeroB_fin] at this
        simp only [decide_eq_true_eq] at this
        exact this
      · rw [divR_fin (fun c => hz (Or.inl c)) (fun c => hz (Or.inr c))]
        obtain ⟨nv, rfl, hn⟩ := hx
        obtain ⟨kv, rfl, hk⟩ := hy
        have c1 := blen_le (n := n) (k := 53) a1
        have c2 := blen_le (n := k) (k := 53) b1
        have d1 := a5 (fun c => hz (Or.inl c))
        have d2 := b5 (fun c => hz (Or.inr c))
        exact div_fin s t nv kv n k e f w hn hk (fun c => hz (Or.inl c)) (fun c => hz (Or.inr c)) (by omega) (by omega) (by omega) (by omega) (by omega) (by omega)
theorem div_fitsD {x y : RNum} (hx : wideR x) (hy : wideR y) : fitsD (divR x y) := by
  cases x using RNum.rec3 with
  | nan => exact trivial
  | inf s =>
    cases y using RNum.rec3 with
    | nan => exact trivial
    | inf t => exact trivial
    | fin t k f g => exact trivial
  | fin s n e m =>
    cases y using RNum.rec3 with
    | nan => exact trivial
    | inf t => exact ⟨by decide, by decide, by decide, fun h => by cases h⟩
    | fin t k f g =>
      obtain ⟨a1, a2, a3, rfl, a5⟩ := hx
      obtain ⟨b1, b2, b3, rfl, b5⟩ := hy
      by_cases hz : n = 0 ∨ k = 0
      · rw [divR_zero hz]
        split
        · split <;> exact trivial
        · exact ⟨by decide, by decide, by decide, fun h => by cases h⟩
      · have n0 : n ≠ 0 := fun c => hz (Or.inl c)
        have k0 : k ≠ 0 := fun c => hz (Or.inr c)
        rw [divR_fin n0 k0]
        have hsh : shV n k ≤ 120 := by
          unfold shV
          have c2 := blen_le (n := k) (k := 53) b1
          omega
        have hbig := quo_big n0 k0
        have d1 := a5 n0
        have d2 := b5 k0
        have hq : n * 2 ^ shV n k / k < 2 ^ 200 := by
          refine Nat.lt_of_le_of_lt (Nat.div_le_self _ _) ?_
          have k1 : n * 2 ^ shV n k < 2 ^ 53 * 2 ^ shV n k := Nat.mul_lt_mul_of_pos_right a1 (Nat.two_pow_pos _)
          rw [← Nat.pow_add] at k1
          exact Nat.lt_of_lt_of_le k1 (Nat.pow_le_pow_right (by decide) (by omega))
        refine ⟨by have := blen_le hq; omega, by omega, by omega, fun _ => ⟨by omega, ?_⟩⟩
        unfold lastOf
        have : 59 ≤ (n * 2 ^ shV n k / k).log2 := (Nat.le_log2 (by omega)).2 hbig
        rw [frac64]
        omega
end Go.Proofs.Ytpoilgiplhogjaa
/- What the statement on rounding twice asks of the calls of its last region. -/
namespace Go.Proofs.Ytpoilgiplhogjaa
open Go.RowKit
set_option linter.unusedVariables false
set_option linter.unusedSimpArgs false

theorem dbl_env4 {a0 : Act} {w : World} {A B pf : Nat} (hA : A < 4294967296) (hB : B < 4294967296) (h0 : a0.tmps[0]? = some (.int .u32 (A : Nat))) (h1 : a0.tmps[1]? = some (.int .u32 (B : Nat))) (h5 : a0.tmps[5]? = some (ptrV pf)) (fb : FBox w pf) :
    Env4 a0 w A B (wideW A) (wideW B) pf (datumR (Ieee.double.read (wideW A))) (datumR (Ieee.double.read (wideW B))) := by
  have lt : ∀ a, wideW a < 18446744073709551616 := fun a => by
    unfold wideW wideN; split
    · decide
    · exact write64_lt _
  exact ⟨h0, h1, h5, fb, fun x => cwide_any A hA x, fun x => cwide_any B hB x, fun x => by rw [← numOf_datum]; exact of64_any _ x (lt A), fun x => by rw [← numOf_datum]; exact of64_any _ x (lt B)⟩
theorem dbl_env7 {a0 : Act} {w : World} {A B pf V6 V7 V8 : Nat} (hA : A < 4294967296) (hB : B < 4294967296) (h0 : a0.tmps[0]? = some (.int .u32 (A : Nat))) (h1 : a0.tmps[1]? = some (.int .u32 (B : Nat))) (h5 : a0.tmps[5]? = some (ptrV pf)) (h6 : a0.tmps[6]? = some (ptrV V6)) (h7 : a0.tmps[7]? = some (ptrV V7)) (h8 : a0.tmps[8]? = some (ptrV V8)) (fb : FBox w pf)
    (bX : NBox w V6 (datumR (Ieee.double.read (wideW A)))) (bY : NBox w V7 (datumR (Ieee.double.read (wideW B)))) (bZ : NBox w V8 (oppR (datumR (Ieee.double.read (wideW B))))) :
    ∃ S1 S2 S3 S4 W1 W2 W3 W4 X Y Z N1 N2 N3 N4, Env7 a0 w A B pf V6 V7 V8 S1 S2 S3 S4 W1 W2 W3 W4 X Y Z N1 N2 N3 N4 := by
  have wA := wideR_of A
  have wB := wideR_of B
  have wC := wideR_opp wB
  refine ⟨_, _, _, _, _, _, _, _, _, _, _, _, _, _, _, ⟨h0, h1, h5, h6, h7, h8, fb, bX, bY, bZ, fun x => cadd_any A B x, fun va vb x ha hb => plusnum_any va vb _ _ x ha hb (wideR_small wA) (wideR_small wB), fun v x hv => round64_any v _ x hv (plus_fitsD wA wB), fun x => ?_,
    fun x => csub_any A B x, fun va vb x ha hb => plusnum_any va vb _ _ x ha hb (wideR_small wA) (wideR_small wC), fun v x hv => round64_any v _ x hv (plus_fitsD wA wC), fun x => ?_,
    fun x => cmul_any A B x, fun va vb x ha hb => times_wide va vb _ _ x ha hb wA wB, fun v x hv => round64_any v _ x hv (times_fitsD wA wB), fun x => ?_,
    fun x => cdiv_any A B hA hB x, fun va vb x ha hb => div_wide va vb _ _ x ha hb wA wB, fun v x hv => round64_any v _ x hv (div_fitsD wA wB), fun x => ?_⟩⟩
  · have h := cnarrow_any (roundD (plusR (datumR (Ieee.double.read (wideW A))) (datumR (Ieee.double.read (wideW B))))) x
    rw [show toldD (some (Ieee.double.read (roundD (plusR (datumR (Ieee.double.read (wideW A))) (datumR (Ieee.double.read (wideW B))))))) = toldD ((Ieee.single.read A).sum (Ieee.single.read B)) by rw [sum_opt, roundD_opt, add_dbl]] at h
    exact h
  · have h := cnarrow_any (roundD (plusR (datumR (Ieee.double.read (wideW A))) (oppR (datumR (Ieee.double.read (wideW B)))))) x
    rw [show toldD (some (Ieee.double.read (roundD (plusR (datumR (Ieee.double.read (wideW A))) (oppR (datumR (Ieee.double.read (wideW B)))))))) = toldD ((Ieee.single.read A).sum (Ieee.single.read B).opposite) by rw [opp_link, sum_opt, roundD_opt, sub_dbl]] at h
    exact h
  · have h := cnarrow_any (roundD (timesR (datumR (Ieee.double.read (wideW A))) (datumR (Ieee.double.read (wideW B))))) x
    rw [show toldD (some (Ieee.double.read (roundD (timesR (datumR (Ieee.double.read (wideW A))) (datumR (Ieee.double.read (wideW B))))))) = toldD ((Ieee.single.read A).product (Ieee.single.read B)) by rw [times_opt, roundD_opt, mul_dbl]] at h
    exact h
  · have h := cnarrow_any (roundD (divR (datumR (Ieee.double.read (wideW A))) (datumR (Ieee.double.read (wideW B))))) x
    rw [show toldD (some (Ieee.double.read (roundD (divR (datumR (Ieee.double.read (wideW A))) (datumR (Ieee.double.read (wideW B))))))) = toldD ((Ieee.single.read A).quotient 25 (Ieee.single.read B)) by rw [div_dbl]] at h
    exact h
theorem dbl_region7 {id : Nat} {l : List Oper} {R : Exit → Act → World → Prop} {a0 : Act} {w : World} {A B pf V6 V7 V8 : Nat} (hl : l = ops7) (hsz : a0.tmps.size = 71) (hA : A < 4294967296) (hB : B < 4294967296) (h0 : a0.tmps[0]? = some (.int .u32 (A : Nat))) (h1 : a0.tmps[1]? = some (.int .u32 (B : Nat))) (h5 : a0.tmps[5]? = some (ptrV pf)) (h6 : a0.tmps[6]? = some (ptrV V6)) (h7 : a0.tmps[7]? = some (ptrV V7)) (h8 : a0.tmps[8]? = some (ptrV V8)) (fb : FBox w pf)
    (bX : NBox w V6 (datumR (Ieee.double.read (wideW A)))) (bY : NBox w V7 (datumR (Ieee.double.read (wideW B)))) (bZ : NBox w V8 (oppR (datumR (Ieee.double.read (wideW B)))))
    (hR : ∀ a x, Q w x → a.tmps.size = 71 → a.defers = a0.defers → a.tmps[4]? = some (.bool true) → R .normal a x) :
    (Code.region id l.toArray true).wp Try.prog R a0 w := by
  obtain ⟨S1, S2, S3, S4, W1, W2, W3, W4, X, Y, Z, N1, N2, N3, N4, E⟩ := dbl_env7 hA hB h0 h1 h5 h6 h7 h8 fb bX bY bZ
  exact region7 hl hsz E hR
end Go.Proofs.Ytpoilgiplhogjaa
