/- What the reference's Wide and Narrow return. -/
import Derived.Test.YtgpkcclapkdndabFormE
import Derived.Test.YtgpkcclapkdndabWholeL
namespace Go.Proofs.Ytgpkcclapkdndab
open Go.RowKit

theorem numOf_fitsD (a : Nat) : fitsD (numOf Ieee.single a) := by
  rw [numOf_datum]
  cases h : nanN a
  · rcases cases32 h with g | g
    · rw [read_fin32 g]
      have := mag_lt32 (rung32 a)
      have hp := plc_le32 g
      exact ⟨by have := blen_le (n := mag32 (rung32 a)) (k := 24) this; omega, by omega, by omega, fun h => by cases h⟩
    · rw [read_inf32 g]; exact trivial
  · obtain ⟨s, t, e⟩ := isNaN_cases (read32_nan h)
    rw [e]; exact trivial
theorem roundD_fin (s : Bool) (n : Nat) (e : Int) : roundD (.fin s n e false) = Ieee.double.nearest s n e := by
  show Ieee.double.word s (rungOf Ieee.double (2 * n + 0) (e - 1)) = _
  rw [nearest_rung, Nat.add_zero]
  have := rung_scale Ieee.double n 1 (e - 1)
  rw [Nat.pow_one, Nat.mul_comm n 2] at this
  rw [this, show e - 1 + ((1 : Nat) : Int) = e by omega]
theorem wide_told (a : Nat) : roundD (numOf Ieee.single a) = wideW a := by
  rw [numOf_datum]
  unfold wideW wideN
  cases h : nanN a
  · rw [if_neg (by decide)]
    rcases cases32 h with g | g
    · rw [read_fin32 g]; exact roundD_fin _ _ _
    · rw [read_inf32 g]
      show Ieee.double.word _ 9218868437227405312 = Ieee.double.word _ Ieee.double.infRung
      rw [inf64]
  · obtain ⟨s, t, e⟩ := isNaN_cases (read32_nan h)
    rw [e, if_pos rfl]; rfl
theorem numOf_fits64 (x : Nat) : fits (numOf Ieee.double x) := by
  rw [numOf_datum]
  cases h : nan64 x
  · rw [nan64_rung] at h
    have h := of_decide_eq_false h
    rcases Nat.lt_or_ge (rung64 x) 9218868437227405312 with g | g
    · rw [read_fin64 g]
      have := mag_lt64 (rung64 x)
      have hp : plc64 (rung64 x) ≤ 2046 := by unfold plc64; omega
      exact ⟨by have := blen_le (n := mag64 (rung64 x)) (k := 53) this; omega, by omega, by omega, fun h => by cases h⟩
    · rw [read_inf64 (by omega)]; exact trivial
  · obtain ⟨s, t, e⟩ := isNaN_cases (read64_nan h)
    rw [e]; exact trivial
theorem narrow_told (x : Nat) : roundR (numOf Ieee.double x) = toldD (some (Ieee.double.read x)) := by
  rw [numOf_datum]
  cases h : Ieee.double.read x with
  | nan s t => rfl
  | infinity s =>
    show Ieee.single.word s 2139095040 = Ieee.single.word s Ieee.single.infRung
    rw [inf32]
  | number s m p => exact roundR_fin s m p

set_option maxHeartbeats 2000000 in
theorem rwide_any (a : Nat) (ha : a < 4294967296) (w : World) : Calls Try.prog 17 #[.int .u32 a] w fun e w' => e = .returned (.int .u64 (wideW a : Nat)) ∧ Q w w' := by
  have hf := numOf_fitsD a
  rw [← wide_told]
  have HF : Hid _ := hf
  clear hf
  obtain ⟨R, hR⟩ : ∃ R, R = roundD (numOf Ieee.single a) := ⟨_, rfl⟩
  have HR : Hid _ := hR
  rw [← hR]
  clear hR
  go_enter Try.func17, Try.ntmps17
  go_wp2_with fail
  refine (f64_any _).mono ?_
  rintro e w1 ⟨rfl, q1⟩
  go_wp2_with fail
  refine (num_any a _ ha).mono ?_
  rintro e w2 ⟨v2, rfl, hv2, q2⟩
  have HV : Hid _ := hv2
  clear hv2
  go_wp2_with fail
  refine (round64_any v2 _ _ HV.out HF.out).mono ?_
  rintro e w3 ⟨rfl, q3⟩
  go_wp2_with fail
  go_ret
  exact ⟨ret_int (by rw [HR.out]), (q1.trans q2).trans q3⟩
set_option maxHeartbeats 2000000 in
theorem rnarrow_any (x : Nat) (hx : x < 18446744073709551616) (w : World) : Calls Try.prog 19 #[.int .u64 x] w fun e w' => e = .returned (.int .u32 (toldD (some (Ieee.double.read x)) : Nat)) ∧ Q w w' := by
  rw [← narrow_told]
  have HF : Hid _ := numOf_fits64 x
  go_enter Try.func19, Try.ntmps19
  go_wp2_with fail
  refine (f64_any _).mono ?_
  rintro e w1 ⟨rfl, q1⟩
  go_wp2_with fail
  refine (of64_any x _ hx).mono ?_
  rintro e w2 ⟨v2, rfl, hv2, q2⟩
  have HV : Hid _ := hv2
  clear hv2
  go_wp2_with fail
  refine (rbits_any v2 _ _ HV.out HF.out).mono ?_
  rintro e w3 ⟨rfl, q3⟩
  go_wp2_with fail
  go_ret
  exact ⟨rfl, (q1.trans q2).trans q3⟩
end Go.Proofs.Ytgpkcclapkdndab
