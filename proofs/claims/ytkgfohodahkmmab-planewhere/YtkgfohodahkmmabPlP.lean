/- Errors as numbers; answers held against the document's. -/
import Derived.Test.YtkgfohodahkmmabPlO
namespace Go.Proofs.Ytkgfohodahkmmab
open Go.RowKit
set_option linter.unusedVariables false
set_option linter.unusedSimpArgs false

theorem num_any (r : Int) (w : World) : Calls Try.prog 8 #[.int .i64 r] w fun e w' => e = .returned (.int .i64 r) ∧ w' = w := by
  go_enter Try.func8, Try.ntmps8
  go_wp2_with fail
  go_ret
  exact ⟨rfl, rfl⟩
end Go.Proofs.Ytkgfohodahkmmab
