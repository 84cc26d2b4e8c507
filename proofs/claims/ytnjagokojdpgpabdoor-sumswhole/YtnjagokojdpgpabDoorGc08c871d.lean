/- What the reference's Wide and Narrow return. -/
import Derived.Test.YtnjagokojdpgpabDoorG48dbb172
import Derived.Test.YtnjagokojdpgpabDoorGbecceb31
import Derived.Test.YtnjagokojdpgpabDoorG6f2136d7
namespace Go.Proofs.YtnjagokojdpgpabDoor
open Go.RowKit

theorem numOf_fitsD (a : Nat) : fitsD (numOf Ieee.single a) := by
  rw [numOf_datum]
  cases h : nanN a
  · rcases cases32 h with g | g
    · rw [read_fin32 g]
      have := mag_lt32 (rung32 a)
      have hp := plc_le32 g
      exact ⟨by have := blen_le (n := mag32 (rung32 a)) (k := 24) this; omega, by omega, by omega, fun h => by cases h⟩
    · rw [read_inf32 g]; exact trivial
  · obtain ⟨s, t, e⟩ := isNaN_cases (read32_nan h)
    rw [e]; exact trivial
theorem roundD_fin (s : Bool) (n : Nat) (e : Int) : roundD (.fin s n e false) = Ieee.double.nearest s n e := by
  show Ieee.double.word s (rungOf Ieee.double (2 * n + 0) (e - 1)) = _
  rw [nearest_rung, Nat.add_zero]
  have := rung_scale Ieee.double n 1 (e - 1)
  rw [Nat.pow_one, Nat.mul_comm n 2] at this
  rw [this, show e - 1 + ((1 : Nat) : Int) = e by omega]
theorem wide_told (a : Nat) : roundD (numOf Ieee.single a) = wideW a := by
  rw [numOf_datum]
  unfold wideW wideN
  cases h : nanN a
  · rw [if_neg (by decide)]
    rcases cases32 h with g | g
    · rw [read_fin32 g]; exact roundD_fin _ _ _
    · rw [read_inf32 g]
      show Ieee.double.word _ 9218868437227405312 = Ieee.double.word _ Ieee.double.infRung
      rw [inf64]
  · obtain ⟨s, t, e⟩ := isNaN_cases (read32_nan h)
    rw [e, if_pos rfl]; rfl
theorem numOf_fits64 (x : Nat) : fits (numOf Ieee.double x) := by
  rw [numOf_datum]
  cases h : nan64 x
  · rw [nan64_rung] at h
    have h := of_decide_eq_false h
    rcases Nat.lt_or_ge (rung64 x) 9218868437227405312 with g | g
    · rw [read_fin64 g]
      have := mag_lt64 (rung64 x)
      have hp : plc64 (rung64 x) ≤ 2046 := by unfold plc64; omega
      exact ⟨by have := blen_le (n := mag64 (rung64 x)) (k := 53) this; omega, by omega, by omega, fun h => by cases h⟩
    · rw [read_inf64 (by omega)]; exact trivial
  · obtain ⟨s, t, e⟩ := isNaN_cases (read64_nan h)
    rw [e]; exact trivial
theorem narrow_told (x : Nat) : roundR (numOf Ieee.double x) = toldD (some (Ieee.double.read x)) := by
  rw [numOf_datum]
  cases h : Ieee.double.read x with
  | nan s t => rfl
  | infinity s =>
    show Ieee.single.word s 2139095040 = Ieee.single.word s Ieee.single.infRung
    rw [inf32]
  | number s m p => exact roundR_fin s m p

end Go.Proofs.YtnjagokojdpgpabDoor
/- What the reference's IsNaN, key, Less, Equal, Least and Greatest return of whatever samples. -/
namespace Go.Proofs.YtnjagokojdpgpabDoor
open Go.RowKit

theorem nanN_cases (b : Nat) : (numOf Ieee.single b = .nan ∧ nanN b = true) ∨ ((∃ s, numOf Ieee.single b = .inf s) ∧ nanN b = false) ∨ ((∃ s n e, numOf Ieee.single b = .fin s n e false) ∧ nanN b = false) := by
  unfold nanN
  by_cases h1 : b / 8388608 % 256 = 255
  · by_cases h2 : b % 8388608 = 0
    · exact Or.inr (Or.inl ⟨⟨_, numOf_inf h1 h2⟩, decide_eq_false (by omega)⟩)
    · exact Or.inl ⟨numOf_nan h1 h2, decide_eq_true (by omega)⟩
  · by_cases h3 : b / 8388608 % 256 = 0
    · exact Or.inr (Or.inr ⟨⟨_, _, _, numOf_small h3⟩, decide_eq_false (by omega)⟩)
    · exact Or.inr (Or.inr ⟨⟨_, _, _, numOf_norm h3 h1⟩, decide_eq_false (by omega)⟩)

theorem field_kind (k : Int) (s : Bool) (p : Option Addr) (L C : Nat) (e : Int) (m : Bool) (w : World) :
    Sem.run Tryd.prog (Instr.field 38 (.agg #[.int .i64 k, .bool s, .slice p L C, .int .i64 e, .bool m]) 0) w = .ok (.int .i64 k) w := by kernel_rfl

/-- Rises with the value. -/
def keyR (a : Nat) : Int := if a < 2147483648 then (a : Int) else -((a - 2147483648 : Nat) : Int)
def leastR (a b : Nat) : Nat := if keyR a < keyR b ∨ (keyR a = keyR b ∧ 2147483648 ≤ a) then a else b
def greatestR (a b : Nat) : Nat := if keyR b < keyR a ∨ (keyR a = keyR b ∧ a < 2147483648) then a else b
end Go.Proofs.YtnjagokojdpgpabDoor
