/- The program's Unlike and the document's, side by side. -/
import Derived.Test.YtkgfohodahkmmaaPlX
namespace Go.Proofs.Ytkgfohodahkmmaa
open Go.RowKit
set_option linter.unusedVariables false
set_option linter.unusedSimpArgs false

theorem both_unlike (W H : Int) (S : List Nat) (hn : S.length ≤ 9223372036854775807) (W2 H2 : Int) (S2 : List Nat) (hn2 : S2.length ≤ 9223372036854775807) : ∃ (r0 r1 r2 r3 : Int) (ok : Bool), (∀ w v v2, USl w v S → USl w v2 S2 → Calls Try.prog 36 #[.agg #[.int .i64 W, .int .i64 H, v], .agg #[.int .i64 W2, .int .i64 H2, v2]] w fun e w' => e = .returned (.tuple #[.agg #[.int .i64 r0, .int .i64 r1, .int .i64 r2, .int .i64 r3], .bool ok]) ∧ Q w w') ∧
    ∀ w v v2, USl w v S → USl w v2 S2 → Calls Try.prog 37 #[.agg #[.int .i64 W, .int .i64 H, v], .agg #[.int .i64 W2, .int .i64 H2, v2]] w fun e w' => e = .returned (.tuple #[.agg #[.int .i64 r0, .int .i64 r1, .int .i64 r2, .int .i64 r3], .bool ok]) ∧ Q w w' := by
  by_cases h : UnOk W H S W2 H2 S2
  · obtain ⟨rfl, rfl, h1, h2, hne⟩ := h
    obtain ⟨a, b, rfl, rfl, hs, hl⟩ := chk_zero h1
    have hl2 : S2.length = a * b := by
      obtain ⟨a', b', e1, e2, _, e3⟩ := chk_zero h2
      have e1 : a = a' := by omega
      have e2 : b = b' := by omega
      rw [e3, e1, e2]
    have g1 : 1 ≤ S.length := by rw [hl]; exact hs.pos
    have g2 : 1 ≤ S2.length := by rw [hl2]; exact hs.pos
    refine ⟨(unR S S2 a b (a * b)).x0, (unR S S2 a b (a * b)).y0, (unR S S2 a b (a * b)).x1, (unR S S2 a b (a * b)).y1, true, fun w v v2 hv hv2 => ?_, fun w v v2 hv hv2 => ?_⟩
    · obtain ⟨g, o, cap, rfl, hc, hu⟩ := hv.some g1
      obtain ⟨g', o', cap', rfl, hc', hu'⟩ := hv2.some g2
      exact unlike_yes hs hl g o cap hl2 g' o' cap' hc hc' hne w hu hu'
    · obtain ⟨g, o, cap, rfl, hc, hu⟩ := hv.some g1
      obtain ⟨g', o', cap', rfl, hc', hu'⟩ := hv2.some g2
      exact runlike_yes hs hl g o cap hl2 g' o' cap' hc hc' hne w hu hu'
  · exact ⟨0, 0, 0, 0, false, fun w v v2 hv hv2 => unlike_no W H v S W2 H2 v2 S2 w hv hv2 hn hn2 h, fun w v v2 hv hv2 => runlike_no W H v S W2 H2 v2 S2 w hv hv2 hn hn2 h⟩
end Go.Proofs.Ytkgfohodahkmmaa
