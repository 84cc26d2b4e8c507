/- Errors as numbers; answers held against the document's. -/
import Derived.Test.YtkgfohodahkmmaaPlO
namespace Go.Proofs.Ytkgfohodahkmmaa
open Go.RowKit
set_option linter.unusedVariables false
set_option linter.unusedSimpArgs false

theorem num_any (r : Int) (w : World) : Calls Try.prog 16 #[.int .i64 r] w fun e w' => e = .returned (.int .i64 r) ∧ w' = w := by
  go_enter Try.func16, Try.ntmps16
  go_wp2_with fail
  go_ret
  exact ⟨rfl, rfl⟩
set_option maxHeartbeats 1000000 in
set_option maxRecDepth 100000 in
/-- Two answers that are the same. -/
theorem same_yes (W H : Int) (v v' : Value) (r : Int) (S : List Nat) (w : World) (hS : USl w v S) (hS' : USl w v' S) (hn : S.length ≤ 9223372036854775807) :
    Calls Try.prog 15 #[.agg #[.int .i64 W, .int .i64 H, v], .int .i64 r, .agg #[.int .i64 W, .int .i64 H, v'], .int .i64 r] w fun e w' => e = .returned (.bool true) ∧ Q w w' := by
  obtain ⟨a, cap, ev⟩ := hS.form
  obtain ⟨a', cap', ev'⟩ := hS'.form
  subst ev ev'
  obtain ⟨w1, hw1⟩ : ∃ w1, (w.alloc (.cells #[.int .i64 W, .int .i64 H, .slice a S.length cap] 25)).alloc (.cells #[.int .i64 W, .int .i64 H, .slice a' S.length cap'] 25) = w1 := ⟨_, rfl⟩
  have Q1 : Hid (Q w w1) := by rw [← hw1]; exact ((Q.refl w).cells _ _).cells _ _
  have z00 : w1.cell? ⟨w.heap.size, 0, none⟩ = some (.int .i64 W) := by rw [← hw1]; simp [go_sem]
  have z01 : w1.cell? ⟨w.heap.size, 1, none⟩ = some (.int .i64 H) := by rw [← hw1]; simp [go_sem]
  have z02 : w1.cell? ⟨w.heap.size, 2, none⟩ = some (.slice a S.length cap) := by rw [← hw1]; simp [go_sem]
  have z10 : w1.cell? ⟨w.heap.size + 1, 0, none⟩ = some (.int .i64 W) := by rw [← hw1]; simp [go_sem]
  have z11 : w1.cell? ⟨w.heap.size + 1, 1, none⟩ = some (.int .i64 H) := by rw [← hw1]; simp [go_sem]
  have z12 : w1.cell? ⟨w.heap.size + 1, 2, none⟩ = some (.slice a' S.length cap') := by rw [← hw1]; simp [go_sem]
  have A := requal_any W H _ S W H _ S w1 (hS.next Q1.out) (hS'.next Q1.out) hn hn
  rw [eqB_true.2 ⟨rfl, rfl, rfl⟩] at A
  have B := num_any r w1
  have hb : (r == r) = true := by simp
  clear hS hS' hn
  go_enter Try.func15, Try.ntmps15
  go_wp2_with fail
  refine B.mono ?_
  rintro e w2 ⟨rfl, rfl⟩
  clear hw1
  go_wp2_with fail
  refine A.mono ?_
  rintro e w3 ⟨rfl, q3⟩
  go_wp2_with fail
  go_ret
  exact ⟨rfl, Q1.out.trans q3⟩
end Go.Proofs.Ytkgfohodahkmmaa
