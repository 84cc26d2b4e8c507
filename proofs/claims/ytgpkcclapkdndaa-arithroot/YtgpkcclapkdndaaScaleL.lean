/- Plain facts: a sample times a power of two: by way of binary64 and by the reference. -/
import Derived.Test.YtgpkcclapkdndaaScaleP
import Derived.Test.YtgpkcclapkdndaaRefA
import Derived.Test.YtgpkcclapkdndaaLinkA
namespace Go.Proofs.Ytgpkcclapkdndaa
open Go.RowKit

theorem scaleR_link {a : Nat} (d n : Int) (hd : d = n ∨ (300 ≤ d ∧ 300 ≤ n) ∨ (d ≤ -300 ∧ n ≤ -300)) : roundR (scaleR d (numOf Ieee.single a)) = scaleV a n := by
  rw [numOf_datum]
  cases h : nanN a
  · have h' := h
    rw [nanN_rung] at h'
    have h' := of_decide_eq_false h'
    rcases Nat.lt_or_ge (rung32 a) 2139095040 with g | g
    · rw [read_fin32 g]
      have e1 : scaleR d (datumR (.number (sgn32 a) (mag32 (rung32 a)) (-149 + (plc32 (rung32 a) : Int)))) = .fin (sgn32 a) (mag32 (rung32 a)) (-149 + (plc32 (rung32 a) : Int) + d) false := rfl
      rw [e1, roundR_fin, nearest_rung]
      by_cases z : rung32 a = 0
      · rw [scaleV_zero z, z, show mag32 0 = 0 from by decide, rungOf_zero]
      · rw [scaleV_fin z g]
        refine congrArg (Ieee.single.word (sgn32 a)) ?_
        have hm := mag_ne32 z
        have hm1 := mag_lt32 (rung32 a)
        have hp : plc32 (rung32 a) ≤ 253 := by unfold plc32; omega
        rcases hd with rfl | ⟨d0, d1⟩ | ⟨d0, d1⟩
        · rfl
        · rw [rung_big hm (by omega), rung_big hm (by omega)]
        · rw [rung_small hm1 (by omega), rung_small hm1 (by omega)]
    · rw [read_inf32 (by omega), scaleV_inf (by omega)]; rfl
  · obtain ⟨s, t, e⟩ := isNaN_cases (read32_nan h)
    rw [e, scaleV_nan h]; rfl
end Go.Proofs.Ytgpkcclapkdndaa
