/- The chapter's examples. -/
import Derived.Test.YtkgfohodahkmmaaPlM
namespace Go.Proofs.Ytkgfohodahkmmaa
open Go.RowKit
set_option linter.unusedVariables false
set_option linter.unusedSimpArgs false

set_option maxHeartbeats 1000000 in
set_option maxRecDepth 100000 in
theorem is_any (W H : Int) (v : Value) (S : List Nat) (W' H' : Int) (v' : Value) (S' : List Nat) (w : World) (hS : USl w v S) (hS' : USl w v' S') (hn : S.length ≤ 9223372036854775807) (hn' : S'.length ≤ 9223372036854775807) :
    Calls Try.prog 40 #[.agg #[.int .i64 W, .int .i64 H, v], .int .i64 W', .int .i64 H', v'] w fun e w' => e = .returned (.bool (eqB W H S W' H' S')) ∧ Q w w' := by
  obtain ⟨a, cap, ev⟩ := hS.form
  obtain ⟨a', cap', ev'⟩ := hS'.form
  subst ev ev'
  have Q0 : Hid (∀ c t, Q w (w.alloc (.cells c t))) := fun c t => (Q.refl w).cells c t
  have A := fun c t => requal_any W H _ S W' H' _ S' (w.alloc (.cells c t)) (hS.next (Q0.out c t)) (hS'.next (Q0.out c t)) hn hn'
  clear hS hS' hn hn'
  go_enter Try.func40, Try.ntmps40
  go_wp2_with fail
  refine (A _ _).mono ?_
  rintro e w1 ⟨rfl, q1⟩
  go_wp2_with fail
  go_ret
  exact ⟨rfl, (Q0.out _ _).trans q1⟩
/-- A plane put into a variable. -/
def boxed (w : World) (W H : Int) (v : Value) : World := w.alloc (.cells #[.int .i64 W, .int .i64 H, v] 25)
theorem boxed_q (w : World) (W H : Int) (v : Value) : Q w (boxed w W H v) := (Q.refl w).cells _ _
theorem boxed_0 (w : World) (W H : Int) (v : Value) : (boxed w W H v).cell? ⟨w.heap.size, 0, none⟩ = some (.int .i64 W) := by unfold boxed; simp [go_sem]
theorem boxed_1 (w : World) (W H : Int) (v : Value) : (boxed w W H v).cell? ⟨w.heap.size, 1, none⟩ = some (.int .i64 H) := by unfold boxed; simp [go_sem]
theorem boxed_2 (w : World) (W H : Int) (v : Value) : (boxed w W H v).cell? ⟨w.heap.size, 2, none⟩ = some v := by unfold boxed; simp [go_sem]
theorem row_uis {w : World} {g : Nat} {S : List Nat} (h : ∀ i, i < S.length → w.cell? ⟨g, i, none⟩ = some (.int .u32 (S.getD i 0 : Nat))) : UIs w g 0 S := fun i hi => by rw [Nat.zero_add]; exact h i hi
theorem k_turn (g : Nat) (w : World) (hu : UIs w g 0 [1, 2, 3, 4, 5, 6]) : Calls Try.prog 30 #[.agg #[.int .i64 2, .int .i64 3, .slice (some ⟨g, 0, none⟩) 6 6], .int .i64 1] w fun e w' => ∃ g', e = .returned (.tuple #[.agg #[.int .i64 3, .int .i64 2, .slice (some ⟨g', 0, none⟩) 6 6], .int .i64 0]) ∧ Q w w' ∧ UIs w' g' 0 [5, 3, 1, 6, 4, 2] := by
  have h := turn_good (a := 2) (b := 3) ⟨by decide, by decide, by decide, by decide, by decide⟩ (S := [1, 2, 3, 4, 5, 6]) rfl g 0 6 1 (q := 1) (by decide) w hu
  refine h.mono ?_
  rintro e w' ⟨g', rfl, ho⟩
  refine ⟨g', rfl, ho.q, ?_⟩
  exact ho.cells
theorem k_trans (g : Nat) (w : World) (hu : UIs w g 0 [1, 2, 3, 4, 5, 6]) : Calls Try.prog 28 #[.agg #[.int .i64 2, .int .i64 3, .slice (some ⟨g, 0, none⟩) 6 6]] w fun e w' => ∃ g', e = .returned (.tuple #[.agg #[.int .i64 3, .int .i64 2, .slice (some ⟨g', 0, none⟩) 6 6], .int .i64 0]) ∧ Q w w' ∧ UIs w' g' 0 [1, 3, 5, 2, 4, 6] := by
  have h := trans_any (a := 2) (b := 3) ⟨by decide, by decide, by decide, by decide, by decide⟩ (S := [1, 2, 3, 4, 5, 6]) rfl g 0 6 w hu
  refine h.mono ?_
  rintro e w' ⟨g', rfl, ho⟩
  refine ⟨g', rfl, ho.q, ?_⟩
  exact ho.cells
theorem k_crop (g : Nat) (w : World) (hu : UIs w g 0 [1, 2, 3, 4, 5, 6]) : Calls Try.prog 22 #[.agg #[.int .i64 2, .int .i64 3, .slice (some ⟨g, 0, none⟩) 6 6], .agg #[.int .i64 1, .int .i64 0, .int .i64 2, .int .i64 2]] w fun e w' => ∃ g', e = .returned (.tuple #[.agg #[.int .i64 1, .int .i64 2, .slice (some ⟨g', 0, none⟩) 2 2], .int .i64 0]) ∧ Q w w' ∧ UIs w' g' 0 [2, 4] := by
  have h := crop_good (a := 2) (b := 3) ⟨by decide, by decide, by decide, by decide, by decide⟩ (S := [1, 2, 3, 4, 5, 6]) rfl g 0 6 (x0 := 1) (y0 := 0) (c := 1) (d := 2) ⟨by decide, by decide, by decide, by decide⟩ 2 2 (by decide) (by decide) w hu
  refine h.mono ?_
  rintro e w' ⟨g', rfl, ho⟩
  refine ⟨g', rfl, ho.q, ?_⟩
  exact ho.cells
theorem k_paste (g g2 : Nat) (w : World) (hu : UIs w g 0 [1, 2, 3, 4, 5, 6]) (hu2 : UIs w g2 0 [9, 9]) : Calls Try.prog 24 #[.agg #[.int .i64 2, .int .i64 3, .slice (some ⟨g, 0, none⟩) 6 6], .agg #[.int .i64 1, .int .i64 2, .slice (some ⟨g2, 0, none⟩) 2 2], .int .i64 1, .int .i64 (-1)] w fun e w' => ∃ g', e = .returned (.tuple #[.agg #[.int .i64 2, .int .i64 3, .slice (some ⟨g', 0, none⟩) 6 6], .int .i64 0]) ∧ Q w w' ∧ UIs w' g' 0 [1, 9, 3, 4, 5, 6] := by
  have h := paste_good (a := 2) (b := 3) ⟨by decide, by decide, by decide, by decide, by decide⟩ (S := [1, 2, 3, 4, 5, 6]) rfl g 0 6 (c := 1) (d := 2) ⟨by decide, by decide, by decide, by decide, by decide⟩ (T := [9, 9]) rfl g2 0 2 1 (-1) w hu hu2
  refine h.mono ?_
  rintro e w' ⟨g', rfl, ho⟩
  exact ⟨g', rfl, ho.q, ho.cells⟩
theorem k_ext (g : Nat) (w : World) (hu : UIs w g 0 [1, 2, 3, 4, 5, 6]) : Calls Try.prog 35 #[.agg #[.int .i64 2, .int .i64 3, .slice (some ⟨g, 0, none⟩) 6 6], .int .i64 2, .int .i64 1, .int .i64 0, .int .i64 0, .int .i64 0] w fun e w' => ∃ g', e = .returned (.tuple #[.agg #[.int .i64 3, .int .i64 3, .slice (some ⟨g', 0, none⟩) 9 9], .int .i64 0]) ∧ Q w w' ∧ UIs w' g' 0 [2, 1, 2, 4, 3, 4, 6, 5, 6] := by
  have h := ext_good (a := 2) (b := 3) ⟨by decide, by decide, by decide, by decide, by decide⟩ (S := [1, 2, 3, 4, 5, 6]) rfl g 0 6 2 1 0 0 0 (by decide) (by decide) (by decide) (by decide) (by decide) ⟨by decide, by decide, by decide, by decide, by decide⟩ w hu
  refine h.mono ?_
  rintro e w' ⟨g', rfl, ho⟩
  exact ⟨g', rfl, ho.q, ho.cells⟩
end Go.Proofs.Ytkgfohodahkmmaa
