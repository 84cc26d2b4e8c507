/- The chapter's examples: known. -/
import Derived.Test.YtnlphjekillciaaG0afff326
import Derived.Test.YtnlphjekillciaaGd0637e8d
namespace Go.Proofs.Ytnlphjekillciaa
open Go.RowKit
set_option linter.unusedVariables false
set_option linter.unusedSimpArgs false

theorem usl_lit {W w' : World} {M : Array Value} {t : TypeId} {xs : List Nat} (hM : M = (xs.map fun x : Nat => Value.int .u32 (x : Nat)).toArray) (q : Q (W.alloc (.cells M t)) w') : USl w' (.slice (some ⟨W.heap.size, 0, none⟩) xs.length xs.length) xs := by
  have hb : (W.alloc (.cells M t)).heap[W.heap.size]? = some (.cells M t (0, 0)) := heap_alloc_new W _
  have h : UIs (W.alloc (.cells M t)) W.heap.size 0 xs := fun i hi => by
    rw [Nat.zero_add, cell_of_row _ _ i _ t (0, 0) hb, hM, List.getElem?_toArray, List.getElem?_map, List.getElem?_eq_getElem hi, List.getD_eq_getElem?_getD, List.getElem?_eq_getElem hi]
    rfl
  exact (h.next q).usl (Nat.le_refl _)
theorem lit_bd {xs : List Nat} (h : ∀ x ∈ xs, x < 4294967296) (i : Nat) : xs.getD i 0 < 4294967296 := by
  rw [List.getD_eq_getElem?_getD]
  cases g : xs[i]? with
  | none => show 0 < 4294967296; decide
  | some x => exact h x (List.mem_of_getElem? g)
set_option maxHeartbeats 4000000 in
set_option maxRecDepth 100000 in
theorem known10_any (w : World) : Calls Try.prog 9 #[] w fun e w' => e = .returned (.bool true) ∧ Q w w' := by
  have HC1 : Hid (∀ W : World, Calls Try.prog 11 #[.slice (some ⟨W.heap.size, 0, none⟩) 2 2, .int .i64 2, .int .i64 4] (W.alloc (.cells #[.int .u32 0, .int .u32 1065353216] 30)) fun e w' => ∃ b, e = .returned (.tuple #[.slice (some ⟨b, 0, none⟩) 4 4, .int .i64 0]) ∧ Own (W.alloc (.cells #[.int .u32 0, .int .u32 1065353216] 30)) w' b [0, 1048576000, 1061158912, 1065353216]) := fun W => by
    have := row_good (.slice (some ⟨W.heap.size, 0, none⟩) 2 2) [0, 1065353216] 2 4 (W.alloc (.cells #[.int .u32 0, .int .u32 1065353216] 30)) (usl_lit (xs := [0, 1065353216]) rfl (Q.refl _)) (lit_bd (by decide)) (by decide)
    rw [row1] at this
    exact this
  have HC2 : Hid (∀ W : World, Calls Try.prog 11 #[.slice (some ⟨W.heap.size, 0, none⟩) 3 3, .int .i64 1, .int .i64 2] (W.alloc (.cells #[.int .u32 1065353216, .int .u32 1073741824, .int .u32 1082130432] 30)) fun e w' => ∃ b, e = .returned (.tuple #[.slice (some ⟨b, 0, none⟩) 2 2, .int .i64 0]) ∧ Own (W.alloc (.cells #[.int .u32 1065353216, .int .u32 1073741824, .int .u32 1082130432] 30)) w' b [1065353216, 1077936128]) := fun W => by
    have := row_good (.slice (some ⟨W.heap.size, 0, none⟩) 3 3) [1065353216, 1073741824, 1082130432] 1 2 (W.alloc (.cells #[.int .u32 1065353216, .int .u32 1073741824, .int .u32 1082130432] 30)) (usl_lit (xs := [1065353216, 1073741824, 1082130432]) rfl (Q.refl _)) (lit_bd (by decide)) (by decide)
    rw [row2] at this
    exact this
  have HC3 : Hid (∀ W : World, Calls Try.prog 11 #[.slice none 0 0, .int .i64 1, .int .i64 1] W fun e w' => e = .returned (.tuple #[.slice none 0 0, .int .i64 100]) ∧ Q W w') := fun W => row_bad (.slice none 0 0) [] 1 1 W (Or.inr ⟨_, _, rfl, rfl⟩) (by decide) (by decide)
  have HC4 : Hid (∀ W : World, Calls Try.prog 16 #[.agg #[.int .i64 2, .int .i64 2, .slice (some ⟨W.heap.size, 0, none⟩) 4 4], .int .i64 1, .int .i64 1, .int .i64 1] (W.alloc (.cells #[.int .u32 0, .int .u32 1065353216, .int .u32 1073741824, .int .u32 1077936128] 30)) fun e w' => ∃ g, e = .returned (.tuple #[.agg #[.int .i64 1, .int .i64 1, .slice (some ⟨g, 0, none⟩) 1 1], .int .i64 0]) ∧ URow w' g [1069547520] ∧ Q (W.alloc (.cells #[.int .u32 0, .int .u32 1065353216, .int .u32 1073741824, .int .u32 1077936128] 30)) w') := fun W => by
    have := plane_good 1 2 2 1 1 (.slice (some ⟨W.heap.size, 0, none⟩) 4 4) [0, 1065353216, 1073741824, 1077936128] (W.alloc (.cells #[.int .u32 0, .int .u32 1065353216, .int .u32 1073741824, .int .u32 1077936128] 30)) (usl_lit (xs := [0, 1065353216, 1073741824, 1077936128]) rfl (Q.refl _)) rfl (lit_bd (by decide)) (by decide) ⟨by decide, by decide, by decide, by decide, by decide⟩ ⟨by decide, by decide, by decide, by decide, by decide⟩
    rw [pln1] at this
    exact this.mono fun e w' ⟨g, h1, h2, _, h4⟩ => ⟨g, h1, h2, h4⟩
  have HC5 : Hid (∀ W : World, Calls Try.prog 20 #[.agg #[.int .i64 2, .int .i64 1, .slice (some ⟨W.heap.size, 0, none⟩) 2 2], .int .i64 2, .int .i64 4, .int .i64 1, .agg #[.int .i64 1, .int .i64 0, .int .i64 3, .int .i64 1]] (W.alloc (.cells #[.int .u32 0, .int .u32 1065353216] 30)) fun e w' => ∃ g, e = .returned (.tuple #[.agg #[.int .i64 2, .int .i64 1, .slice (some ⟨g, 0, none⟩) 2 2], .int .i64 0]) ∧ URow w' g [1048576000, 1061158912] ∧ Q (W.alloc (.cells #[.int .u32 0, .int .u32 1065353216] 30)) w') := fun W => by
    have := part_good 2 2 1 4 1 1 0 2 1 3 1 (.slice (some ⟨W.heap.size, 0, none⟩) 2 2) [0, 1065353216] (W.alloc (.cells #[.int .u32 0, .int .u32 1065353216] 30)) (usl_lit (xs := [0, 1065353216]) rfl (Q.refl _)) rfl (lit_bd (by decide)) (by decide) ⟨by decide, by decide, by decide, by decide, by decide⟩ ⟨by decide, by decide, by decide, by decide, by decide⟩ rfl rfl (by decide) (by decide) (by decide) (by decide)
    rw [prt1] at this
    exact this.mono fun e w' ⟨g, h1, h2, _, h4⟩ => ⟨g, h1, h2, h4⟩
  have HC6 : Hid (∀ W : World, Calls Try.prog 22 #[.int .i64 2, .int .i64 2, .int .i64 4, .int .i64 0, .int .i64 2] W fun e w' => e = .returned (.tuple #[.int .i64 0, .int .i64 2, .int .i64 0]) ∧ Q W w') := fun W => by
    have := need_good 2 2 4 0 2 2 W rfl (by decide) (by decide) (by decide) (by decide) (by decide) (by decide)
    refine this.mono fun e w' ⟨h1, h2⟩ => ⟨h1.trans ?_, h2⟩
    show Ending.returned (.tuple #[.int .i64 (fstS ((List.range 2).map fun (k : Nat) => tpA 2 2 4 ((0 + k : Nat) : Int)) 2), .int .i64 (endS ((List.range 2).map fun (k : Nat) => tpA 2 2 4 ((0 + k : Nat) : Int)) 2), .int .i64 0]) = _
    rw [ned1.1, ned1.2]
  have HWd : Hid (∀ (v : Value) (xs : List Nat) (W w' : World) (M : Array Value), USl w' v xs → M = (xs.map fun x : Nat => Value.int .u32 (x : Nat)).toArray → w' = W.alloc (.cells M 30) → xs.length ≤ 100 → Calls Try.prog 12 #[v, .slice (some ⟨W.heap.size, 0, none⟩) xs.length xs.length] w' fun e w'' => e = .returned (.bool true) ∧ Q w' w'') := fun v xs W w' M h hM hw hl => by
    subst hw
    exact words_eq _ _ xs _ h (usl_lit hM (Q.refl _)) (by omega)
  go_enter Try.func9, Try.ntmps9
  go_wp2_with fail
  refine (HC1.out w).mono ?_
  rintro e w1 ⟨b1, rfl, o1⟩
  have H1 : Hid (USl w1 (.slice (some ⟨b1, 0, none⟩) 4 4) [0, 1048576000, 1061158912, 1065353216] ∧ Q w w1) := ⟨o1.cells.usl (cap := 4) (by decide), ((Q.refl w).cells _ _).trans o1.q⟩
  clear o1
  go_wp2_with fail
  refine (HC2.out w1).mono ?_
  rintro e w2 ⟨b2, rfl, o2⟩
  have H2 : Hid (USl w2 (.slice (some ⟨b1, 0, none⟩) 4 4) [0, 1048576000, 1061158912, 1065353216] ∧ USl w2 (.slice (some ⟨b2, 0, none⟩) 2 2) [1065353216, 1077936128] ∧ Q w w2) := by
    have q := ((Q.refl w1).cells _ _).trans o2.q
    exact ⟨H1.out.1.next q, o2.cells.usl (cap := 2) (by decide), H1.out.2.trans q⟩
  clear o2
  go_wp2_with fail
  refine (HC3.out w2).mono ?_
  rintro e w3 ⟨rfl, q3⟩
  have H3 : Hid (USl w3 (.slice (some ⟨b1, 0, none⟩) 4 4) [0, 1048576000, 1061158912, 1065353216] ∧ USl w3 (.slice (some ⟨b2, 0, none⟩) 2 2) [1065353216, 1077936128] ∧ Q w w3) := ⟨H2.out.1.next q3, H2.out.2.1.next q3, H2.out.2.2.trans q3⟩
  clear q3
  go_wp2_with fail
  refine (HC4.out w3).mono ?_
  rintro e w4 ⟨b4, rfl, u4, q4⟩
  obtain ⟨w5, hw5⟩ : ∃ w5, w4.alloc (.cells #[.int .i64 1, .int .i64 1, .slice (some ⟨b4, 0, none⟩) 1 1] 33) = w5 := ⟨_, rfl⟩
  have H5 : Hid (USl w5 (.slice (some ⟨b1, 0, none⟩) 4 4) [0, 1048576000, 1061158912, 1065353216] ∧ USl w5 (.slice (some ⟨b2, 0, none⟩) 2 2) [1065353216, 1077936128] ∧ USl w5 (.slice (some ⟨b4, 0, none⟩) 1 1) [1069547520] ∧ w5.cell? ⟨w4.heap.size, 2, none⟩ = some (.slice (some ⟨b4, 0, none⟩) 1 1) ∧ Q w w5) := by
    have q5 : Q w4 w5 := by rw [← hw5]; exact (Q.refl w4).cells _ _
    have q := (((Q.refl w3).cells _ _).trans q4).trans q5
    refine ⟨H3.out.1.next q, H3.out.2.1.next q, (u4.next q5).uis.usl (cap := 1) (by decide), ?_, H3.out.2.2.trans q⟩
    rw [← hw5]; simp [go_sem]
  clear u4 q4
  go_wp2_with fail
  refine (HC5.out w5).mono ?_
  rintro e w6 ⟨b6, rfl, u6, q6⟩
  obtain ⟨w7, hw7⟩ : ∃ w7, w6.alloc (.cells #[.int .i64 2, .int .i64 1, .slice (some ⟨b6, 0, none⟩) 2 2] 33) = w7 := ⟨_, rfl⟩
  have H7 : Hid (USl w7 (.slice (some ⟨b1, 0, none⟩) 4 4) [0, 1048576000, 1061158912, 1065353216] ∧ USl w7 (.slice (some ⟨b2, 0, none⟩) 2 2) [1065353216, 1077936128] ∧ USl w7 (.slice (some ⟨b4, 0, none⟩) 1 1) [1069547520] ∧ USl w7 (.slice (some ⟨b6, 0, none⟩) 2 2) [1048576000, 1061158912] ∧ w7.cell? ⟨w4.heap.size, 2, none⟩ = some (.slice (some ⟨b4, 0, none⟩) 1 1) ∧ w7.cell? ⟨w6.heap.size, 2, none⟩ = some (.slice (some ⟨b6, 0, none⟩) 2 2) ∧ Q w w7) := by
    have q7 : Q w6 w7 := by rw [← hw7]; exact (Q.refl w6).cells _ _
    have q := (((Q.refl w5).cells _ _).trans q6).trans q7
    refine ⟨H5.out.1.next q, H5.out.2.1.next q, H5.out.2.2.1.next q, (u6.next q7).uis.usl (cap := 2) (by decide), q.cell H5.out.2.2.2.1, ?_, H5.out.2.2.2.2.trans q⟩
    rw [← hw7]; simp [go_sem]
  clear u6 q6 hw5
  go_wp2_with fail
  refine (HC6.out w7).mono ?_
  rintro e w8 ⟨rfl, q8⟩
  have H8 : Hid (USl w8 (.slice (some ⟨b1, 0, none⟩) 4 4) [0, 1048576000, 1061158912, 1065353216] ∧ USl w8 (.slice (some ⟨b2, 0, none⟩) 2 2) [1065353216, 1077936128] ∧ USl w8 (.slice (some ⟨b4, 0, none⟩) 1 1) [1069547520] ∧ USl w8 (.slice (some ⟨b6, 0, none⟩) 2 2) [1048576000, 1061158912] ∧ w8.cell? ⟨w4.heap.size, 2, none⟩ = some (.slice (some ⟨b4, 0, none⟩) 1 1) ∧ w8.cell? ⟨w6.heap.size, 2, none⟩ = some (.slice (some ⟨b6, 0, none⟩) 2 2) ∧ Q w w8) := ⟨H7.out.1.next q8, H7.out.2.1.next q8, H7.out.2.2.1.next q8, H7.out.2.2.2.1.next q8, q8.cell H7.out.2.2.2.2.1, q8.cell H7.out.2.2.2.2.2.1, H7.out.2.2.2.2.2.2.trans q8⟩
  clear q8 hw7
  go_wp2_with fail
  refine (HWd.out (.slice (some ⟨b1, 0, none⟩) 4 4) [0, 1048576000, 1061158912, 1065353216] w8 _ _ ((H8.out.1).next ((Q.refl w8).cells _ _)) rfl rfl (by decide)).mono ?_
  rintro e w9 ⟨rfl, q9⟩
  have H9 : Hid (USl w9 (.slice (some ⟨b2, 0, none⟩) 2 2) [1065353216, 1077936128] ∧ USl w9 (.slice (some ⟨b4, 0, none⟩) 1 1) [1069547520] ∧ USl w9 (.slice (some ⟨b6, 0, none⟩) 2 2) [1048576000, 1061158912] ∧ w9.cell? ⟨w4.heap.size, 2, none⟩ = some (.slice (some ⟨b4, 0, none⟩) 1 1) ∧ w9.cell? ⟨w6.heap.size, 2, none⟩ = some (.slice (some ⟨b6, 0, none⟩) 2 2) ∧ Q w w9) := by
    have q := ((Q.refl w8).cells _ _).trans q9
    exact ⟨H8.out.2.1.next q, H8.out.2.2.1.next q, H8.out.2.2.2.1.next q, q.cell H8.out.2.2.2.2.1, q.cell H8.out.2.2.2.2.2.1, H8.out.2.2.2.2.2.2.trans q⟩
  clear q9
  go_wp2_with fail
  refine (HWd.out (.slice (some ⟨b2, 0, none⟩) 2 2) [1065353216, 1077936128] w9 _ _ ((H9.out.1).next ((Q.refl w9).cells _ _)) rfl rfl (by decide)).mono ?_
  rintro e w10 ⟨rfl, q10⟩
  have H10 : Hid (USl w10 (.slice (some ⟨b4, 0, none⟩) 1 1) [1069547520] ∧ USl w10 (.slice (some ⟨b6, 0, none⟩) 2 2) [1048576000, 1061158912] ∧ w10.cell? ⟨w6.heap.size, 2, none⟩ = some (.slice (some ⟨b6, 0, none⟩) 2 2) ∧ Q w w10) := by
    have q := ((Q.refl w9).cells _ _).trans q10
    exact ⟨H9.out.2.1.next q, H9.out.2.2.1.next q, q.cell H9.out.2.2.2.2.1, H9.out.2.2.2.2.2.trans q⟩
  have z4 : w10.cell? ⟨w4.heap.size, 2, none⟩ = some (.slice (some ⟨b4, 0, none⟩) 1 1) := (((Q.refl w9).cells _ _).trans q10).cell H9.out.2.2.2.1
  clear q10
  go_wp2_with fail
  refine (HWd.out (.slice (some ⟨b4, 0, none⟩) 1 1) [1069547520] w10 _ _ ((H10.out.1).next ((Q.refl w10).cells _ _)) rfl rfl (by decide)).mono ?_
  rintro e w11 ⟨rfl, q11⟩
  have H11 : Hid (USl w11 (.slice (some ⟨b6, 0, none⟩) 2 2) [1048576000, 1061158912] ∧ Q w w11) := by
    have q := ((Q.refl w10).cells _ _).trans q11
    exact ⟨H10.out.2.1.next q, H10.out.2.2.2.trans q⟩
  have z6 : w11.cell? ⟨w6.heap.size, 2, none⟩ = some (.slice (some ⟨b6, 0, none⟩) 2 2) := (((Q.refl w10).cells _ _).trans q11).cell H10.out.2.2.1
  clear q11 z4
  go_wp2_with fail
  refine (HWd.out (.slice (some ⟨b6, 0, none⟩) 2 2) [1048576000, 1061158912] w11 _ _ ((H11.out.1).next ((Q.refl w11).cells _ _)) rfl rfl (by decide)).mono ?_
  rintro e w12 ⟨rfl, q12⟩
  have H12 : Hid (Q w w12) := H11.out.2.trans (((Q.refl w11).cells _ _).trans q12)
  clear q12 z6
  go_wp2_with fail
  go_ret
  exact ⟨rfl, H12.out⟩
end Go.Proofs.Ytnlphjekillciaa
/- The statement ScaleConstant: its walk. -/
namespace Go.Proofs.Ytnlphjekillciaa
open Go.RowKit
set_option linter.unusedVariables false
set_option linter.unusedSimpArgs false

theorem plnE_ok {pw ph : Int} {n : Nat} {kind W H : Int} (hE : plnE pw ph n kind W H = 0) : SizeB W H ∧ tapE kind pw W 0 = 0 ∧ tapE kind ph H 0 = 0 := by
  unfold plnE at hE
  split at hE
  · split at hE
    · rename_i hs
      split at hE
      · rename_i h; exact ⟨sizeB_true.1 hs, h, hE⟩
      · rename_i h; exact absurd hE h
    · cases hE
  · rename_i h; exact absurd hE h
structure Bk2 (W0 wx : World) (B g : Nat) (W H m : Nat) (F : Nat → Nat) : Prop where
  o0 : wx.cell? ⟨B, 0, none⟩ = some (.int .i64 (W : Int))
  o1 : wx.cell? ⟨B, 1, none⟩ = some (.int .i64 (H : Int))
  o2 : wx.cell? ⟨B, 2, none⟩ = some (.slice (some ⟨g, 0, none⟩) m m)
  row : URow wx g (tabN m F)
  q : Q W0 wx
set_option maxHeartbeats 4000000 in
set_option maxRecDepth 100000 in
theorem sconst_walk (W0 : World) (x : Nat) (hx : x < 4294967296) (a b kind W H : Int) :
    Calls Try.prog 7 #[.int .u32 (x : Int), .int .i64 a, .int .i64 b, .int .i64 kind, .int .i64 W, .int .i64 H] W0 fun e w' => e = .returned (.bool true) ∧ Q W0 w' := by
  have C0 := known10_any W0
  have CF : Hid (∀ w : World, Calls Try.prog 23 #[.int .u32 (x : Int)] w fun e w' => e = .returned (.bool (decide (rung32 x < 2139095040))) ∧ w' = w) := fun w => finite_any x hx w
  rcases Nat.lt_or_ge (rung32 x) 2139095040 with hf | hf
  rotate_left
  · rw [decide_eq_false (by omega)] at CF
    clear hf
    go_enter Try.func7, Try.ntmps7
    go_wp2_with fail
    refine C0.mono ?_
    rintro e w0 ⟨rfl, q0⟩
    have HQ0 : Hid (Q W0 w0) := q0
    clear C0 q0
    go_wp2_with fail
    refine (CF.out w0).mono ?_
    rintro e w1 ⟨rfl, hw⟩
    obtain rfl := hw.symm
    clear hw
    go_wp2_with fail
    go_ret
    exact ⟨rfl, HQ0.out⟩
  rw [decide_eq_true hf] at CF
  rcases Int.lt_or_le a 1 with h1 | h1
  · clear hf
    go_enter Try.func7, Try.ntmps7
    go_wp2_with fail
    refine C0.mono ?_
    rintro e w0 ⟨rfl, q0⟩
    have HQ0 : Hid (Q W0 w0) := q0
    clear C0 q0
    go_wp2_with fail
    refine (CF.out w0).mono ?_
    rintro e w1 ⟨rfl, hw⟩
    obtain rfl := hw.symm
    clear hw
    go_wp2_with fail
    go_ret
    exact ⟨rfl, HQ0.out⟩
  rcases Int.lt_or_le b 1 with h2 | h2
  · clear hf
    go_enter Try.func7, Try.ntmps7
    go_wp2_with fail
    refine C0.mono ?_
    rintro e w0 ⟨rfl, q0⟩
    have HQ0 : Hid (Q W0 w0) := q0
    clear C0 q0
    go_wp2_with fail
    refine (CF.out w0).mono ?_
    rintro e w1 ⟨rfl, hw⟩
    obtain rfl := hw.symm
    clear hw
    go_wp2_with fail
    go_ret
    exact ⟨rfl, HQ0.out⟩
  rcases Int.lt_or_le 60 a with h3 | h3
  · clear hf
    go_enter Try.func7, Try.ntmps7
    go_wp2_with fail
    refine C0.mono ?_
    rintro e w0 ⟨rfl, q0⟩
    have HQ0 : Hid (Q W0 w0) := q0
    clear C0 q0
    go_wp2_with fail
    refine (CF.out w0).mono ?_
    rintro e w1 ⟨rfl, hw⟩
    obtain rfl := hw.symm
    clear hw
    go_wp2_with fail
    go_ret
    exact ⟨rfl, HQ0.out⟩
  rcases Int.lt_or_le 60 b with h4 | h4
  · clear hf
    go_enter Try.func7, Try.ntmps7
    go_wp2_with fail
    refine C0.mono ?_
    rintro e w0 ⟨rfl, q0⟩
    have HQ0 : Hid (Q W0 w0) := q0
    clear C0 q0
    go_wp2_with fail
    refine (CF.out w0).mono ?_
    rintro e w1 ⟨rfl, hw⟩
    obtain rfl := hw.symm
    clear hw
    go_wp2_with fail
    go_ret
    exact ⟨rfl, HQ0.out⟩
  have CS : Hid (∀ w : World, Calls Try.prog 13 #[.agg #[.int .i64 0, .int .i64 0, .slice none 0 0], .int .i64 W, .int .i64 H] w fun e w' => e = .returned (.bool (smlB W H)) ∧ Q w w') := fun w => small_any W H w
  cases hs : smlB W H with
  | false =>
    rw [hs] at CS
    clear hf
    go_enter Try.func7, Try.ntmps7
    go_wp2_with fail
    refine C0.mono ?_
    rintro e w0 ⟨rfl, q0⟩
    have HQ0 : Hid (Q W0 w0) := q0
    clear C0 q0
    go_wp2_with fail
    refine (CF.out w0).mono ?_
    rintro e w1 ⟨rfl, hw⟩
    obtain rfl := hw.symm
    clear hw
    go_wp2_with fail
    refine (CS.out _).mono ?_
    rintro e w2 ⟨rfl, q2⟩
    have HQ2 : Hid (Q W0 w2) := HQ0.out.trans q2
    clear q2
    go_wp2_with fail
    go_ret
    exact ⟨rfl, HQ2.out⟩
  | true =>
    rw [hs] at CS
    obtain ⟨pa, rfl⟩ : ∃ n : Nat, a = (n : Int) := ⟨a.toNat, by omega⟩
    obtain ⟨pb, rfl⟩ : ∃ n : Nat, b = (n : Int) := ⟨b.toNat, by omega⟩
    have HSZ : Hid (Size pa pb ∧ pa * pb ≤ 3600) := by
      have : pa * pb ≤ 60 * 60 := Nat.mul_le_mul (by omega) (by omega)
      exact ⟨⟨by omega, by omega, by omega, by omega, by omega⟩, this⟩
    obtain ⟨n, hn⟩ : ∃ n, pa * pb = n := ⟨_, rfl⟩
    have hp : (pa : Int) * (pb : Int) = (n : Int) := by rw [← hn]; exact (Int.natCast_mul pa pb).symm
    have hn1 : 1 ≤ n := by rw [← hn]; exact HSZ.out.1.pos
    have hn2 : n ≤ 3600 := by rw [← hn]; exact HSZ.out.2
    have HN : Hid (pa * pb = n) := hn
    have HF : Hid (rung32 x < 2139095040) := hf
    clear hf hn
    go_enter Try.func7, Try.ntmps7
    go_wp2_with fail
    refine C0.mono ?_
    rintro e w0 ⟨rfl, q0⟩
    have HQ0 : Hid (Q W0 w0) := q0
    clear C0 q0
    go_wp2_with fail
    refine (CF.out w0).mono ?_
    rintro e w1 ⟨rfl, hw⟩
    obtain rfl := hw.symm
    clear hw
    go_wp2_with fail
    refine (CS.out _).mono ?_
    rintro e w2 ⟨rfl, q2⟩
    have HQ2 : Hid (Q W0 w2) := HQ0.out.trans q2
    clear q2 HQ0 CS CF
    go_wp2_with fail
    go_loopg [14] n (fun m s14 wr => ∃ (i : Nat) (v : Value), s14 = .int .i64 (i : Int) ∧ i + m = n ∧ Hid (Gp w2 wr w2.heap.size (pa : Int) (pb : Int) v (List.replicate i x) i))
    case atStart =>
      refine ⟨0, .slice none 0 0, rfl, by omega, ?_⟩
      show Gp _ _ _ _ _ _ _ _
      refine ⟨rfl, World.ownsRow_nil _ _ _ _, by simp [Value.ownBlock], by simp [go_sem], by simp [go_sem], by simp [go_sem], fun j => by simp [go_sem], ?_, Nat.le_refl _⟩
      first
        | exact (Q.refl w2).cells _ _
        | exact ((((Q.refl w2).cells _ _).set (Nat.le_refl _) _).set (Nat.le_refl _) _).set (Nat.le_refl _) _
    case round =>
      obtain ⟨i, v, rfl, hi, HG⟩ := hrel
      by_cases hlt : i < n
      · have hlt' : (i : Int) < (n : Int) := by omega
        have c2 := HG.out.c2
        have f2 := HG.out.fz 2
        obtain ⟨g, c, x2, hr, cx, cf, hg2⟩ := HG.out.app x (by omega)
        have HG2 : Hid _ := hg2
        have fx := cf 2
        clear hg2 cf
        go_wp2_with (at_builtin; go_must (refine wpList_appK (.tmp 57) (.tmp 59) 23 rfl rfl (by simp [Act.eval, Act.put]) (by simp [Act.eval, Act.put]) hr ?_))
        generalize x2.setCell ⟨w2.heap.size, 2, none⟩ (.slice (some ⟨g, 0, none⟩) (i + 1) c) = w8 at *
        go_roundg (n - (i + 1))
        case measure => go_light; omega
        case rel => go_light; exact ⟨i + 1, _, by go_num, by omega, by show Gp _ _ _ _ _ _ _ _; rw [List.replicate_succ']; exact HG2.out⟩
      · obtain rfl : i = n := by omega
        have hge : ¬ (i : Int) < (i : Int) := by omega
        have hU := own_uslS HG.out.own HG.out.len
        obtain ⟨ad, c, hv⟩ := hU.form
        rw [List.length_replicate] at hv
        subst hv
        have HU : Hid _ := hU
        have c0 := HG.out.c0
        have c1 := HG.out.c1
        have c2 := HG.out.c2
        have HQ3 : Hid (Q W0 wr) := HQ2.out.trans HG.out.q
        have HB : Hid (w2.heap.size < wr.heap.size) := World.block_lt_of_cell? _ _ c0
        clear hU HG
        by_cases hE : plnE pa pb i kind W H = 0
        · obtain ⟨hSB, hT1, hT2⟩ := plnE_ok hE
          obtain ⟨pw, rfl⟩ : ∃ n : Nat, W = (n : Int) := ⟨W.toNat, by unfold SizeB at hSB; omega⟩
          obtain ⟨ph, rfl⟩ : ∃ n : Nat, H = (n : Int) := ⟨H.toNat, by unfold SizeB at hSB; omega⟩
          have hpm : (pw : Int) * (ph : Int) = ((pw * ph : Nat) : Int) := (Int.natCast_mul pw ph).symm
          have hWH : Size pw ph := by
            unfold SizeB at hSB
            rw [hpm] at hSB
            exact ⟨by omega, by omega, by omega, by omega, by omega⟩
          have CP := plane_good kind pa pb pw ph (.slice ad i c) (List.replicate i x) wr HU.out (by rw [List.length_replicate, HN.out]) (fun j => by
            rw [List.getD_eq_getElem?_getD, List.getElem?_replicate]
            split
            · exact hx
            · exact Nat.zero_lt_succ _) (by rw [List.length_replicate]; exact hE) HSZ.out.1 hWH
          have HV : Hid (∀ j, j < pw * ph → (whlV kind pa pb pw ph (List.replicate i x) (j % pw) (j / pw) = x ∨ (x = 2147483648 ∧ whlV kind pa pb pw ph (List.replicate i x) (j % pw) (j / pw) = 0 ∧ kind = 3))) := fun j hj => by
            have hX : tapE kind pa pw ((j % pw : Nat) : Int) = 0 := tapE_at hT1 (by have := Nat.mod_lt j (show 0 < pw by have := hWH.a1; omega); omega)
            have hY : tapE kind pb ph ((j / pw : Nat) : Int) = 0 := tapE_at hT2 (by have := Nat.div_lt_of_lt_mul hj; omega)
            obtain ⟨u1, u2⟩ := whl_const (S := List.replicate i x) hX hY (fun k hk => by rw [List.getD_eq_getElem?_getD, List.getElem?_replicate, if_pos (by rw [← HN.out]; exact hk)]; rfl) HF.out hx
            by_cases hk3 : kind = 3
            · rcases u1 with u1 | ⟨u3, u4⟩
              · exact Or.inl u1
              · exact Or.inr ⟨u3, u4, hk3⟩
            · exact Or.inl (u2 hk3)
          obtain ⟨F, hF⟩ : ∃ F, (fun j => whlV kind pa pb pw ph (List.replicate i x) (j % pw) (j / pw)) = F := ⟨_, rfl⟩
          rw [hF] at CP
          have HV2 : Hid (∀ j, j < pw * ph → (F j = x ∨ (x = 2147483648 ∧ F j = 0 ∧ kind = 3))) := by rw [← hF]; exact HV.out
          have hm2 : pw * ph ≤ 65536 := hWH.ab
          generalize pw * ph = m at *
          have hb1 := hWH.a2
          have hb2 := hWH.b2
          clear hF HV hWH hSB hT1 hT2 hE
          go_wp2_with fail
          refine CP.mono ?_
          rintro e w5 ⟨g, rfl, hu, hl, q5⟩
          have HW : Hid (URow w5 g (tabN m F) ∧ Q W0 w5) := ⟨hu, HQ3.out.trans q5⟩
          clear CP hu hl q5 c0 c1 c2
          have hww : ((pw : Int) == (pw : Int)) = true := by simp
          have hhh : ((ph : Int) == (ph : Int)) = true := by simp
          have hmm : ((m : Int) == (m : Int)) = true := by simp
          go_wp2_with fail
          go_loopg [17] m (fun k s17 wx => ∃ j : Nat, s17 = .int .i64 (j : Int) ∧ j + k = m ∧ Hid (Bk2 W0 wx w5.heap.size g pw ph m F))
          case atStart =>
            refine ⟨0, rfl, by omega, ?_⟩
            show Bk2 _ _ _ _ _ _ _ _
            exact ⟨by simp [go_sem], by simp [go_sem], by simp [go_sem], HW.out.1.next ((Q.refl w5).cells _ _), HW.out.2.cells _ _⟩
          case round =>
            obtain ⟨j, rfl, hj, HX⟩ := hrel
            have o0 := HX.out.o0
            have o1 := HX.out.o1
            have o2 := HX.out.o2
            by_cases hlt : j < m
            · have hlt' : (j : Int) < (m : Int) := by omega
              have ck := HX.out.row.cell j _ (tabN_at hlt)
              rcases HV2.out j hlt with e1 | ⟨e1, e2, e3⟩
              · rw [e1] at ck
                have hne : ((x : Int) != (x : Int)) = false := by simp
                clear e1
                go_wp2_with fail
                go_roundg (m - (j + 1))
                case measure => go_light; omega
                case rel => go_light; exact ⟨j + 1, by go_num, by omega, HX⟩
              · rw [e2] at ck
                subst e1 e3
                have hn0 : (((0 : Nat) : Int) != ((2147483648 : Nat) : Int)) = true := by decide
                clear e2
                go_wp2_with fail
                go_roundg (m - (j + 1))
                case measure => go_light; omega
                case rel => go_light; exact ⟨j + 1, by go_num, by omega, HX⟩
            · obtain rfl : j = m := by omega
              have hge2 : ¬ (j : Int) < (j : Int) := by omega
              go_wp2_with fail
              go_ret
              exact ⟨rfl, HX.out.q⟩
        · have CP := plane_bad pa pb ad i c kind W H (by omega) hE wr
          generalize plnE pa pb i kind W H = E at *
          have hE0 : (E != 0) = true := by simpa using hE
          clear hE
          go_wp2_with fail
          refine CP.mono ?_
          rintro e w5 ⟨rfl, q5⟩
          have HQ5 : Hid (Q W0 w5) := HQ3.out.trans q5
          clear q5 CP
          go_wp2_with fail
          go_ret
          first
            | exact ⟨rfl, HQ5.out.cells _ _⟩
            | exact ⟨rfl, (((HQ5.out.cells _ _).set HQ5.out.1.size _).set HQ5.out.1.size _).set HQ5.out.1.size _⟩
end Go.Proofs.Ytnlphjekillciaa
