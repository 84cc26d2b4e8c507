/- What the reference's DivNum and Div return of whatever samples. -/
import Derived.Test.YtgpkcclapkdndaaDivN
import Derived.Test.YtgpkcclapkdndaaDivO
import Derived.Test.YtgpkcclapkdndaaRefB
namespace Go.Proofs.Ytgpkcclapkdndaa
open Go.RowKit

/-- The quotient, cut behind its digits, and whether something is left. -/
def divR : RNum → RNum → RNum
  | ⟨none⟩, _ => .nan
  | ⟨some (.inl _)⟩, ⟨none⟩ => .nan
  | ⟨some (.inr _)⟩, ⟨none⟩ => .nan
  | ⟨some (.inl _)⟩, ⟨some (.inl _)⟩ => .nan
  | ⟨some (.inl s)⟩, ⟨some (.inr (t, _))⟩ => .inf (s != t)
  | ⟨some (.inr (s, _))⟩, ⟨some (.inl t)⟩ => .fin (s != t) 0 0 false
  | ⟨some (.inr (s, n, e, m))⟩, ⟨some (.inr (t, k, f, g))⟩ =>
    if zeroB (.fin s n e m) = true ∨ zeroB (.fin t k f g) = true then (if zeroB (.fin t k f g) = true then (if zeroB (.fin s n e m) = true then .nan else .inf (s != t)) else .fin (s != t) 0 0 false)
    else .fin (s != t) (n * 2 ^ shV n k / k) (e - f - (shV n k : Int)) (!decide (n * 2 ^ shV n k % k = 0))

theorem divnum_any (va vb : Value) (x y : RNum) (w : World) (hx : NumAt w va x) (hy : NumAt w vb y) (fx : few x) (fy : few y) :
    Calls Try.prog 46 #[va, vb] w fun e w' => ∃ v, e = .returned v ∧ NumAt w' v (divR x y) ∧ Q w w' := by
  cases x using RNum.rec3 with
  | nan => exact div_nan1 va vb y w hx hy
  | inf s =>
    cases y using RNum.rec3 with
    | nan => exact div_nan2 va vb _ w hx hy (fun k s' p L C e m h => by
        obtain ⟨e', m', h'⟩ := hx
        rw [h'] at h
        intro hk
        rw [hk] at h
        simp at h)
    | inf t => exact div_infinf va vb s t w hx hy
    | fin t n f g => exact div_inffin va vb s t n f g w hx hy
  | fin s n e m =>
    cases y using RNum.rec3 with
    | nan => exact div_nan2 va vb _ w hx hy (fun k s' p L C e' m' h => by
        obtain ⟨nv, h', hn⟩ := hx
        rw [h'] at h
        intro hk
        rw [hk] at h
        simp at h)
    | inf t => exact div_fininf va vb s t n e m w hx hy
    | fin t k f g =>
      show Calls Try.prog 46 #[va, vb] w fun x w' => ∃ v, x = .returned v ∧ NumAt w' v (if zeroB (.fin s n e m) = true ∨ zeroB (.fin t k f g) = true then (if zeroB (.fin t k f g) = true then (if zeroB (.fin s n e m) = true then .nan else .inf (s != t)) else .fin (s != t) 0 0 false) else .fin (s != t) (n * 2 ^ shV n k / k) (e - f - (shV n k : Int)) (!decide (n * 2 ^ shV n k % k = 0))) ∧ Q w w'
      by_cases hz : zeroB (.fin s n e m) = true ∨ zeroB (.fin t k f g) = true
      · rw [if_pos hz]; exact div_nought va vb s t n k e f m g w hx hy hz
      · rw [if_neg hz]
        obtain ⟨a1, a2, a3, rfl⟩ := fx
        obtain ⟨b1, b2, b3, rfl⟩ := fy
        obtain ⟨nv, rfl, hn⟩ := hx
        obtain ⟨kv, rfl, hk⟩ := hy
        have n0 : n ≠ 0 := fun c => hz (Or.inl (by rw [c]; rfl))
        have k0 : k ≠ 0 := fun c => hz (Or.inr (by rw [c]; rfl))
        exact div_fin s t nv kv n k e f w hn hk n0 k0 a1 (by omega) (by omega) b1 (by omega) (by omega)

/-- The quotient has 60 digits and more. -/
theorem quo_big {n k : Nat} (n0 : n ≠ 0) (k0 : k ≠ 0) : 2 ^ 59 ≤ n * 2 ^ shV n k / k := by
  have hA := blen_mul_pow n0 (shV n k)
  have h1 := blen_lt k
  have h2 : 2 ^ (n * 2 ^ shV n k).log2 ≤ n * 2 ^ shV n k := Nat.log2_self_le (Nat.mul_ne_zero n0 (by have := Nat.two_pow_pos (shV n k); omega))
  have h3 : (n * 2 ^ shV n k).log2 + 1 = blen n + shV n k := by
    rw [← hA]; unfold blen
    rw [if_neg (Nat.mul_ne_zero n0 (by have := Nat.two_pow_pos (shV n k); omega))]
  rw [Nat.le_div_iff_mul_le (by omega)]
  have h4 : 2 ^ 59 * k ≤ 2 ^ 59 * 2 ^ blen k := Nat.mul_le_mul_left _ (by omega)
  rw [← Nat.pow_add] at h4
  have h5 : 2 ^ (59 + blen k) ≤ 2 ^ (n * 2 ^ shV n k).log2 := Nat.pow_le_pow_right (by decide) (by unfold shV at h3 ⊢; omega)
  omega
theorem divR_fits {x y : RNum} (fx : few x) (fy : few y) : fits (divR x y) := by
  cases x using RNum.rec3 with
  | nan => exact trivial
  | inf s => cases y using RNum.rec3 <;> exact trivial
  | fin s n e m =>
    cases y using RNum.rec3 with
    | nan => exact trivial
    | inf t => exact ⟨by decide, by decide, by decide, fun h => by cases h⟩
    | fin t k f g =>
      show fits (if zeroB (.fin s n e m) = true ∨ zeroB (.fin t k f g) = true then (if zeroB (.fin t k f g) = true then (if zeroB (.fin s n e m) = true then .nan else .inf (s != t)) else .fin (s != t) 0 0 false) else .fin (s != t) (n * 2 ^ shV n k / k) (e - f - (shV n k : Int)) (!decide (n * 2 ^ shV n k % k = 0)))
      obtain ⟨a1, a2, a3, rfl⟩ := fx
      obtain ⟨b1, b2, b3, rfl⟩ := fy
      by_cases hz : zeroB (.fin s n e false) = true ∨ zeroB (.fin t k f false) = true
      · rw [if_pos hz]
        split
        · split <;> exact trivial
        · exact ⟨by decide, by decide, by decide, fun h => by cases h⟩
      · rw [if_neg hz]
        have n0 : n ≠ 0 := fun c => hz (Or.inl (by rw [c]; rfl))
        have k0 : k ≠ 0 := fun c => hz (Or.inr (by rw [c]; rfl))
        have hq := quo_big n0 k0
        have hsh : shV n k ≤ 560 := by unfold shV; omega
        have hle : n * 2 ^ shV n k / k ≤ n * 2 ^ shV n k := Nat.div_le_self _ _
        have hbl : blen (n * 2 ^ shV n k / k) ≤ blen n + shV n k := blen_le (Nat.lt_of_le_of_lt hle (by rw [← blen_mul_pow n0]; exact blen_lt _))
        have hp : (0 : Nat) < 2 ^ 59 := by decide
        have hne : n * 2 ^ shV n k / k ≠ 0 := by omega
        refine ⟨by omega, by omega, by omega, fun _ => ⟨hne, ?_⟩⟩
        have hl : 59 ≤ (n * 2 ^ shV n k / k).log2 := (Nat.le_log2 hne).2 hq
        unfold lastOf
        rw [single_frac]
        omega

set_option maxHeartbeats 2000000 in
theorem rdiv_any (a b : Nat) (w : World) (ha : a < 4294967296) (hb : b < 4294967296) :
    Calls Try.prog 17 #[.int .u32 a, .int .u32 b] w fun e w' => e = .returned (.int .u32 (roundR (divR (numOf Ieee.single a) (numOf Ieee.single b)) : Int)) ∧ Q w w' := by
  go_enter Try.func17, Try.ntmps17
  go_wp2_with fail
  refine (num_any a _ ha).mono ?_
  rintro e w1 ⟨v1, rfl, hv1, q1⟩
  go_wp2_with fail
  refine (num_any b _ hb).mono ?_
  rintro e w2 ⟨v2, rfl, hv2, q2⟩
  go_wp2_with fail
  refine (divnum_any v1 v2 _ _ _ (q2.num hv1) hv2 (numOf_few a) (numOf_few b)).mono ?_
  rintro e w3 ⟨v3, rfl, hv3, q3⟩
  go_wp2_with fail
  refine (rbits_any v3 _ _ hv3 (divR_fits (numOf_few a) (numOf_few b))).mono ?_
  rintro e w4 ⟨rfl, q4⟩
  go_wp2_with fail
  go_ret
  exact ⟨rfl, ((q1.trans q2).trans q3).trans q4⟩
end Go.Proofs.Ytgpkcclapkdndaa
