/- What the reference's small functions of a form return: F32, top, bias, sign, Made. -/
import Derived.Test.YtmgpaheobhfioaaDoorGf0fb5e8b
import Derived.RegionTactic
import Derived.ChangeAlike
import Derived.Deep.QuietTactic
import Derived.BigQuiet
import Derived.Deep.RegionWith
import Derived.Deep.RegionHeld3
namespace Go.Proofs.YtmgpaheobhfioaaDoor
open Go.RowKit

set_option maxHeartbeats 800000 in
theorem f32_any (w : World) : Calls Tryd.prog 16 #[] w fun e w' => e = .returned (.agg #[.int .i64 23, .int .i64 8]) ∧ Q w w' := by
  go_enter Tryd.func16, Tryd.ntmps16
  go_wp2
  exact bodyPost_ret (v := .agg #[.int .i64 23, .int .i64 8]) (by simp [results, Tryd.results16, go_sem]) rfl ⟨rfl, (Q.refl w).cells _ _⟩

set_option maxHeartbeats 800000 in
theorem top_any (F E T : Int) (h : (F = 23 ∧ E = 8 ∧ T = 255) ∨ (F = 52 ∧ E = 11 ∧ T = 2047)) (w : World) :
    Calls Tryd.prog 42 #[.agg #[.int .i64 F, .int .i64 E]] w fun e w' => e = .returned (.int .u64 T) ∧ w' = w.alloc (.cells #[.int .i64 F, .int .i64 E] 45) := by
  rcases h with ⟨rfl, rfl, rfl⟩ | ⟨rfl, rfl, rfl⟩
  all_goals
    go_enter Tryd.func42, Tryd.ntmps42
    go_wp2
    go_ret
    exact ⟨rfl, rfl⟩

set_option maxHeartbeats 800000 in
theorem bias_any (F E B : Int) (h : (F = 23 ∧ E = 8 ∧ B = 150) ∨ (F = 52 ∧ E = 11 ∧ B = 1075)) (w : World) :
    Calls Tryd.prog 43 #[.agg #[.int .i64 F, .int .i64 E]] w fun e w' => e = .returned (.int .i64 B) ∧ w' = (w.alloc (.cells #[.int .i64 F, .int .i64 E] 45)).drew := by
  rcases h with ⟨rfl, rfl, rfl⟩ | ⟨rfl, rfl, rfl⟩
  all_goals
    go_enter Tryd.func43, Tryd.ntmps43
    go_wp2
    go_region
    all_goals
      go_wp2
      go_ret
      exact ⟨rfl, rfl⟩

/-- The sign's bit. -/
def signV (d neg : Bool) : Int := if neg = true then (if d = true then 9223372036854775808 else 2147483648) else 0
set_option maxHeartbeats 800000 in
theorem sign_any (F E : Int) (d neg : Bool) (h : (F = 23 ∧ E = 8 ∧ d = false) ∨ (F = 52 ∧ E = 11 ∧ d = true)) (w : World) :
    Calls Tryd.prog 73 #[.agg #[.int .i64 F, .int .i64 E], .bool neg] w fun e w' => e = .returned (.int .u64 (signV d neg)) ∧ w' = w.alloc (.cells #[.int .i64 F, .int .i64 E] 45) := by
  rcases h with ⟨rfl, rfl, rfl⟩ | ⟨rfl, rfl, rfl⟩ <;> cases neg
  all_goals
    go_enter Tryd.func73, Tryd.ntmps73
    go_wp2
    go_ret
    exact ⟨rfl, rfl⟩

set_option maxHeartbeats 1600000 in
theorem fmade_any (F E M : Int) (h : (F = 23 ∧ E = 8 ∧ M = 2143289344) ∨ (F = 52 ∧ E = 11 ∧ M = 9221120237041090560)) (w : World) :
    Calls Tryd.prog 72 #[.agg #[.int .i64 F, .int .i64 E]] w fun e w' => e = .returned (.int .u64 M) ∧ Q w w' := by
  rcases h with ⟨rfl, rfl, rfl⟩ | ⟨rfl, rfl, rfl⟩
  · have h1 : IntKind.i64.wrap 22 = 22 := by decide
    have h2 : IntKind.u64.wrap 2139095040 = 2139095040 := by decide
    have h3 : IntKind.u64.wrap 4194304 = 4194304 := by decide
    have h4 : bits .or .u64 2139095040 4194304 = 2143289344 := by decide
    go_enter Tryd.func72, Tryd.ntmps72
    go_wp2_with fail
    go_region_held3 (fun w' => w'.cell? ⟨w.heap.size, 0, none⟩ = some (.int .i64 23) ∧ w'.cell? ⟨w.heap.size, 1, none⟩ = some (.int .i64 8)) (go_keep) (first | (go_at_call 42; refine (top_any 23 8 255 (by decide) _).mono ?_; rintro e w1 ⟨rfl, rfl⟩))
    all_goals
      go_wp2
      go_ret
      exact ⟨rfl, (((Q.refl w).cells _ _).cells _ _).drew⟩
  · have h1 : IntKind.i64.wrap 51 = 51 := by decide
    have h2 : IntKind.u64.wrap 9218868437227405312 = 9218868437227405312 := by decide
    have h3 : IntKind.u64.wrap 2251799813685248 = 2251799813685248 := by decide
    have h4 : bits .or .u64 9218868437227405312 2251799813685248 = 9221120237041090560 := by decide
    go_enter Tryd.func72, Tryd.ntmps72
    go_wp2_with fail
    go_region_held3 (fun w' => w'.cell? ⟨w.heap.size, 0, none⟩ = some (.int .i64 52) ∧ w'.cell? ⟨w.heap.size, 1, none⟩ = some (.int .i64 11)) (go_keep) (first | (go_at_call 42; refine (top_any 52 11 2047 (by decide) _).mono ?_; rintro e w1 ⟨rfl, rfl⟩))
    all_goals
      go_wp2
      go_ret
      exact ⟨rfl, (((Q.refl w).cells _ _).cells _ _).drew⟩
end Go.Proofs.YtmgpaheobhfioaaDoor
