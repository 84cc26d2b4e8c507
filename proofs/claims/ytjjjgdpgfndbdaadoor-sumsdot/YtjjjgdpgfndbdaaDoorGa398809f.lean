/- What the reference's Wide and Narrow return. -/
import Derived.Test.YtjjjgdpgfndbdaaDoorGeaa71697
import Derived.Test.YtjjjgdpgfndbdaaDoorG4765934c
import Derived.Test.YtjjjgdpgfndbdaaDoorG66aa5247
namespace Go.Proofs.YtjjjgdpgfndbdaaDoor
open Go.RowKit

theorem numOf_fitsD (a : Nat) : fitsD (numOf Ieee.single a) := by
  rw [numOf_datum]
  cases h : nanN a
  · rcases cases32 h with g | g
    · rw [read_fin32 g]
      have := mag_lt32 (rung32 a)
      have hp := plc_le32 g
      exact ⟨by have := blen_le (n := mag32 (rung32 a)) (k := 24) this; omega, by omega, by omega, fun h => by cases h⟩
    · rw [read_inf32 g]; exact trivial
  · obtain ⟨s, t, e⟩ := isNaN_cases (read32_nan h)
    rw [e]; exact trivial
theorem roundD_fin (s : Bool) (n : Nat) (e : Int) : roundD (.fin s n e false) = Ieee.double.nearest s n e := by
  show Ieee.double.word s (rungOf Ieee.double (2 * n + 0) (e - 1)) = _
  rw [nearest_rung, Nat.add_zero]
  have := rung_scale Ieee.double n 1 (e - 1)
  rw [Nat.pow_one, Nat.mul_comm n 2] at this
  rw [this, show e - 1 + ((1 : Nat) : Int) = e by omega]
theorem wide_told (a : Nat) : roundD (numOf Ieee.single a) = wideW a := by
  rw [numOf_datum]
  unfold wideW wideN
  cases h : nanN a
  · rw [if_neg (by decide)]
    rcases cases32 h with g | g
    · rw [read_fin32 g]; exact roundD_fin _ _ _
    · rw [read_inf32 g]
      show Ieee.double.word _ 9218868437227405312 = Ieee.double.word _ Ieee.double.infRung
      rw [inf64]
  · obtain ⟨s, t, e⟩ := isNaN_cases (read32_nan h)
    rw [e, if_pos rfl]; rfl
theorem numOf_fits64 (x : Nat) : fits (numOf Ieee.double x) := by
  rw [numOf_datum]
  cases h : nan64 x
  · rw [nan64_rung] at h
    have h := of_decide_eq_false h
    rcases Nat.lt_or_ge (rung64 x) 9218868437227405312 with g | g
    · rw [read_fin64 g]
      have := mag_lt64 (rung64 x)
      have hp : plc64 (rung64 x) ≤ 2046 := by unfold plc64; omega
      exact ⟨by have := blen_le (n := mag64 (rung64 x)) (k := 53) this; omega, by omega, by omega, fun h => by cases h⟩
    · rw [read_inf64 (by omega)]; exact trivial
  · obtain ⟨s, t, e⟩ := isNaN_cases (read64_nan h)
    rw [e]; exact trivial
theorem narrow_told (x : Nat) : roundR (numOf Ieee.double x) = toldD (some (Ieee.double.read x)) := by
  rw [numOf_datum]
  cases h : Ieee.double.read x with
  | nan s t => rfl
  | infinity s =>
    show Ieee.single.word s 2139095040 = Ieee.single.word s Ieee.single.infRung
    rw [inf32]
  | number s m p => exact roundR_fin s m p

set_option maxHeartbeats 2000000 in
theorem rwide_any (a : Nat) (ha : a < 4294967296) (w : World) : Calls Tryd.prog 42 #[.int .u32 a] w fun e w' => e = .returned (.int .u64 (wideW a : Nat)) ∧ Q w w' := by
  have hf := numOf_fitsD a
  rw [← wide_told]
  have HF : Hid _ := hf
  clear hf
  obtain ⟨R, hR⟩ : ∃ R, R = roundD (numOf Ieee.single a) := ⟨_, rfl⟩
  have HR : Hid _ := hR
  rw [← hR]
  clear hR
  go_enter Tryd.func42, Tryd.ntmps42
  go_wp2_with fail
  refine (f64_any _).mono ?_
  rintro e w1 ⟨rfl, q1⟩
  go_wp2_with fail
  refine (num_any a _ ha).mono ?_
  rintro e w2 ⟨v2, rfl, hv2, q2⟩
  have HV : Hid _ := hv2
  clear hv2
  go_wp2_with fail
  refine (round64_any v2 _ _ HV.out HF.out).mono ?_
  rintro e w3 ⟨rfl, q3⟩
  go_wp2_with fail
  go_ret
  exact ⟨ret_int (by rw [HR.out]), (q1.trans q2).trans q3⟩
set_option maxHeartbeats 2000000 in
theorem rnarrow_any (x : Nat) (hx : x < 18446744073709551616) (w : World) : Calls Tryd.prog 55 #[.int .u64 x] w fun e w' => e = .returned (.int .u32 (toldD (some (Ieee.double.read x)) : Nat)) ∧ Q w w' := by
  rw [← narrow_told]
  have HF : Hid _ := numOf_fits64 x
  go_enter Tryd.func55, Tryd.ntmps55
  go_wp2_with fail
  refine (f64_any _).mono ?_
  rintro e w1 ⟨rfl, q1⟩
  go_wp2_with fail
  refine (of64_any x _ hx).mono ?_
  rintro e w2 ⟨v2, rfl, hv2, q2⟩
  have HV : Hid _ := hv2
  clear hv2
  go_wp2_with fail
  refine (rbits_any v2 _ _ HV.out HF.out).mono ?_
  rintro e w3 ⟨rfl, q3⟩
  go_wp2_with fail
  go_ret
  exact ⟨rfl, (q1.trans q2).trans q3⟩
end Go.Proofs.YtjjjgdpgfndbdaaDoor
/- What the reference's IsNaN, key, Less, Equal, Least and Greatest return of whatever samples. -/
namespace Go.Proofs.YtjjjgdpgfndbdaaDoor
open Go.RowKit

theorem nanN_cases (b : Nat) : (numOf Ieee.single b = .nan ∧ nanN b = true) ∨ ((∃ s, numOf Ieee.single b = .inf s) ∧ nanN b = false) ∨ ((∃ s n e, numOf Ieee.single b = .fin s n e false) ∧ nanN b = false) := by
  unfold nanN
  by_cases h1 : b / 8388608 % 256 = 255
  · by_cases h2 : b % 8388608 = 0
    · exact Or.inr (Or.inl ⟨⟨_, numOf_inf h1 h2⟩, decide_eq_false (by omega)⟩)
    · exact Or.inl ⟨numOf_nan h1 h2, decide_eq_true (by omega)⟩
  · by_cases h3 : b / 8388608 % 256 = 0
    · exact Or.inr (Or.inr ⟨⟨_, _, _, numOf_small h3⟩, decide_eq_false (by omega)⟩)
    · exact Or.inr (Or.inr ⟨⟨_, _, _, numOf_norm h3 h1⟩, decide_eq_false (by omega)⟩)

theorem field_kind (k : Int) (s : Bool) (p : Option Addr) (L C : Nat) (e : Int) (m : Bool) (w : World) :
    Sem.run Tryd.prog (Instr.field 80 (.agg #[.int .i64 k, .bool s, .slice p L C, .int .i64 e, .bool m]) 0) w = .ok (.int .i64 k) w := by kernel_rfl

set_option maxHeartbeats 1000000 in
theorem risnan_any (a : Nat) (w : World) (ha : a < 4294967296) :
    Calls Tryd.prog 65 #[.int .u32 a] w fun e w' => e = .returned (.bool (nanN a)) ∧ Q w w' := by
  rcases nanN_cases a with ⟨hn, hb⟩ | ⟨⟨s, hn⟩, hb⟩ | ⟨⟨s, n, e, hn⟩, hb⟩
  all_goals
    rw [hb]
    have HN : Hid _ := hn
    clear hn hb
    have hfk := field_kind
    go_enter Tryd.func65, Tryd.ntmps65
    go_wp2_with fail
    refine (num_any a _ ha).mono ?_
    rintro x w1 ⟨v1, rfl, hv1, q1⟩
    rw [HN.out] at hv1
  · obtain ⟨b, ee, m, rfl⟩ := hv1
    go_wp2_with fail
    go_ret
    exact ⟨rfl, q1⟩
  · obtain ⟨ee, m, rfl⟩ := hv1
    go_wp2_with fail
    go_ret
    exact ⟨rfl, q1⟩
  · obtain ⟨nv, rfl, p, bb, L, C, rfl, hI⟩ := hv1
    go_wp2_with fail
    go_ret
    exact ⟨rfl, q1⟩

/-- Rises with the value. -/
def keyR (a : Nat) : Int := if a < 2147483648 then (a : Int) else -((a - 2147483648 : Nat) : Int)
def leastR (a b : Nat) : Nat := if keyR a < keyR b ∨ (keyR a = keyR b ∧ 2147483648 ≤ a) then a else b
def greatestR (a b : Nat) : Nat := if keyR b < keyR a ∨ (keyR a = keyR b ∧ a < 2147483648) then a else b
end Go.Proofs.YtjjjgdpgfndbdaaDoor
