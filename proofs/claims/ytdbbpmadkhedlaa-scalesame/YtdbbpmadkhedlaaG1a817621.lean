/- The chapter's examples: known. -/
import Derived.Test.YtdbbpmadkhedlaaG41ff8f43
import Derived.Test.YtdbbpmadkhedlaaGd414b444
import Derived.Test.YtdbbpmadkhedlaaGa28e08de
import Derived.Test.YtdbbpmadkhedlaaG17fb7a69
import Derived.Test.YtdbbpmadkhedlaaG582a762c
namespace Go.Proofs.Ytdbbpmadkhedlaa
open Go.RowKit
set_option linter.unusedVariables false
set_option linter.unusedSimpArgs false

theorem usl_lit {W w' : World} {M : Array Value} {t : TypeId} {xs : List Nat} (hM : M = (xs.map fun x : Nat => Value.int .u32 (x : Nat)).toArray) (q : Q (W.alloc (.cells M t)) w') : USl w' (.slice (some ⟨W.heap.size, 0, none⟩) xs.length xs.length) xs := by
  have hb : (W.alloc (.cells M t)).heap[W.heap.size]? = some (.cells M t (0, 0)) := heap_alloc_new W _
  have h : UIs (W.alloc (.cells M t)) W.heap.size 0 xs := fun i hi => by
    rw [Nat.zero_add, cell_of_row _ _ i _ t (0, 0) hb, hM, List.getElem?_toArray, List.getElem?_map, List.getElem?_eq_getElem hi, List.getD_eq_getElem?_getD, List.getElem?_eq_getElem hi]
    rfl
  exact (h.next q).usl (Nat.le_refl _)
theorem lit_bd {xs : List Nat} (h : ∀ x ∈ xs, x < 4294967296) (i : Nat) : xs.getD i 0 < 4294967296 := by
  rw [List.getD_eq_getElem?_getD]
  cases g : xs[i]? with
  | none => show 0 < 4294967296; decide
  | some x => exact h x (List.mem_of_getElem? g)
set_option maxHeartbeats 4000000 in
set_option maxRecDepth 100000 in
theorem known10_any (w : World) : Calls Try.prog 9 #[] w fun e w' => e = .returned (.bool true) ∧ Q w w' := by
  have HC1 : Hid (∀ W : World, Calls Try.prog 15 #[.slice (some ⟨W.heap.size, 0, none⟩) 2 2, .int .i64 2, .int .i64 4] (W.alloc (.cells #[.int .u32 0, .int .u32 1065353216] 34)) fun e w' => ∃ b, e = .returned (.tuple #[.slice (some ⟨b, 0, none⟩) 4 4, .int .i64 0]) ∧ Own (W.alloc (.cells #[.int .u32 0, .int .u32 1065353216] 34)) w' b [0, 1048576000, 1061158912, 1065353216]) := fun W => by
    have := row_good (.slice (some ⟨W.heap.size, 0, none⟩) 2 2) [0, 1065353216] 2 4 (W.alloc (.cells #[.int .u32 0, .int .u32 1065353216] 34)) (usl_lit (xs := [0, 1065353216]) rfl (Q.refl _)) (lit_bd (by decide)) (by decide)
    rw [row1] at this
    exact this
  have HC2 : Hid (∀ W : World, Calls Try.prog 15 #[.slice (some ⟨W.heap.size, 0, none⟩) 3 3, .int .i64 1, .int .i64 2] (W.alloc (.cells #[.int .u32 1065353216, .int .u32 1073741824, .int .u32 1082130432] 34)) fun e w' => ∃ b, e = .returned (.tuple #[.slice (some ⟨b, 0, none⟩) 2 2, .int .i64 0]) ∧ Own (W.alloc (.cells #[.int .u32 1065353216, .int .u32 1073741824, .int .u32 1082130432] 34)) w' b [1065353216, 1077936128]) := fun W => by
    have := row_good (.slice (some ⟨W.heap.size, 0, none⟩) 3 3) [1065353216, 1073741824, 1082130432] 1 2 (W.alloc (.cells #[.int .u32 1065353216, .int .u32 1073741824, .int .u32 1082130432] 34)) (usl_lit (xs := [1065353216, 1073741824, 1082130432]) rfl (Q.refl _)) (lit_bd (by decide)) (by decide)
    rw [row2] at this
    exact this
  have HC3 : Hid (∀ W : World, Calls Try.prog 15 #[.slice none 0 0, .int .i64 1, .int .i64 1] W fun e w' => e = .returned (.tuple #[.slice none 0 0, .int .i64 100]) ∧ Q W w') := fun W => row_bad (.slice none 0 0) [] 1 1 W (Or.inr ⟨_, _, rfl, rfl⟩) (by decide) (by decide)
  have HC4 : Hid (∀ W : World, Calls Try.prog 11 #[.agg #[.int .i64 2, .int .i64 2, .slice (some ⟨W.heap.size, 0, none⟩) 4 4], .int .i64 1, .int .i64 1, .int .i64 1] (W.alloc (.cells #[.int .u32 0, .int .u32 1065353216, .int .u32 1073741824, .int .u32 1077936128] 34)) fun e w' => ∃ g, e = .returned (.tuple #[.agg #[.int .i64 1, .int .i64 1, .slice (some ⟨g, 0, none⟩) 1 1], .int .i64 0]) ∧ URow w' g [1069547520] ∧ Q (W.alloc (.cells #[.int .u32 0, .int .u32 1065353216, .int .u32 1073741824, .int .u32 1077936128] 34)) w') := fun W => by
    have := plane_good 1 2 2 1 1 (.slice (some ⟨W.heap.size, 0, none⟩) 4 4) [0, 1065353216, 1073741824, 1077936128] (W.alloc (.cells #[.int .u32 0, .int .u32 1065353216, .int .u32 1073741824, .int .u32 1077936128] 34)) (usl_lit (xs := [0, 1065353216, 1073741824, 1077936128]) rfl (Q.refl _)) rfl (lit_bd (by decide)) (by decide) ⟨by decide, by decide, by decide, by decide, by decide⟩ ⟨by decide, by decide, by decide, by decide, by decide⟩
    rw [pln1] at this
    exact this.mono fun e w' ⟨g, h1, h2, _, h4⟩ => ⟨g, h1, h2, h4⟩
  have HC5 : Hid (∀ W : World, Calls Try.prog 14 #[.agg #[.int .i64 2, .int .i64 1, .slice (some ⟨W.heap.size, 0, none⟩) 2 2], .int .i64 2, .int .i64 4, .int .i64 1, .agg #[.int .i64 1, .int .i64 0, .int .i64 3, .int .i64 1]] (W.alloc (.cells #[.int .u32 0, .int .u32 1065353216] 34)) fun e w' => ∃ g, e = .returned (.tuple #[.agg #[.int .i64 2, .int .i64 1, .slice (some ⟨g, 0, none⟩) 2 2], .int .i64 0]) ∧ URow w' g [1048576000, 1061158912] ∧ Q (W.alloc (.cells #[.int .u32 0, .int .u32 1065353216] 34)) w') := fun W => by
    have := part_good 2 2 1 4 1 1 0 2 1 3 1 (.slice (some ⟨W.heap.size, 0, none⟩) 2 2) [0, 1065353216] (W.alloc (.cells #[.int .u32 0, .int .u32 1065353216] 34)) (usl_lit (xs := [0, 1065353216]) rfl (Q.refl _)) rfl (lit_bd (by decide)) (by decide) ⟨by decide, by decide, by decide, by decide, by decide⟩ ⟨by decide, by decide, by decide, by decide, by decide⟩ rfl rfl (by decide) (by decide) (by decide) (by decide)
    rw [prt1] at this
    exact this.mono fun e w' ⟨g, h1, h2, _, h4⟩ => ⟨g, h1, h2, h4⟩
  have HC6 : Hid (∀ W : World, Calls Try.prog 12 #[.int .i64 2, .int .i64 2, .int .i64 4, .int .i64 0, .int .i64 2] W fun e w' => e = .returned (.tuple #[.int .i64 0, .int .i64 2, .int .i64 0]) ∧ Q W w') := fun W => by
    have := need_good 2 2 4 0 2 2 W rfl (by decide) (by decide) (by decide) (by decide) (by decide) (by decide)
    refine this.mono fun e w' ⟨h1, h2⟩ => ⟨h1.trans ?_, h2⟩
    show Ending.returned (.tuple #[.int .i64 (fstS ((List.range 2).map fun (k : Nat) => tpA 2 2 4 ((0 + k : Nat) : Int)) 2), .int .i64 (endS ((List.range 2).map fun (k : Nat) => tpA 2 2 4 ((0 + k : Nat) : Int)) 2), .int .i64 0]) = _
    rw [ned1.1, ned1.2]
  have HWd : Hid (∀ (v : Value) (xs : List Nat) (W w' : World) (M : Array Value), USl w' v xs → M = (xs.map fun x : Nat => Value.int .u32 (x : Nat)).toArray → w' = W.alloc (.cells M 34) → xs.length ≤ 100 → Calls Try.prog 25 #[v, .slice (some ⟨W.heap.size, 0, none⟩) xs.length xs.length] w' fun e w'' => e = .returned (.bool true) ∧ Q w' w'') := fun v xs W w' M h hM hw hl => by
    subst hw
    exact words_eq _ _ xs _ h (usl_lit hM (Q.refl _)) (by omega)
  go_enter Try.func9, Try.ntmps9
  go_wp2_with fail
  refine (HC1.out w).mono ?_
  rintro e w1 ⟨b1, rfl, o1⟩
  have H1 : Hid (USl w1 (.slice (some ⟨b1, 0, none⟩) 4 4) [0, 1048576000, 1061158912, 1065353216] ∧ Q w w1) := ⟨o1.cells.usl (cap := 4) (by decide), ((Q.refl w).cells _ _).trans o1.q⟩
  clear o1
  go_wp2_with fail
  refine (HC2.out w1).mono ?_
  rintro e w2 ⟨b2, rfl, o2⟩
  have H2 : Hid (USl w2 (.slice (some ⟨b1, 0, none⟩) 4 4) [0, 1048576000, 1061158912, 1065353216] ∧ USl w2 (.slice (some ⟨b2, 0, none⟩) 2 2) [1065353216, 1077936128] ∧ Q w w2) := by
    have q := ((Q.refl w1).cells _ _).trans o2.q
    exact ⟨H1.out.1.next q, o2.cells.usl (cap := 2) (by decide), H1.out.2.trans q⟩
  clear o2
  go_wp2_with fail
  refine (HC3.out w2).mono ?_
  rintro e w3 ⟨rfl, q3⟩
  have H3 : Hid (USl w3 (.slice (some ⟨b1, 0, none⟩) 4 4) [0, 1048576000, 1061158912, 1065353216] ∧ USl w3 (.slice (some ⟨b2, 0, none⟩) 2 2) [1065353216, 1077936128] ∧ Q w w3) := ⟨H2.out.1.next q3, H2.out.2.1.next q3, H2.out.2.2.trans q3⟩
  clear q3
  go_wp2_with fail
  refine (HC4.out w3).mono ?_
  rintro e w4 ⟨b4, rfl, u4, q4⟩
  obtain ⟨w5, hw5⟩ : ∃ w5, w4.alloc (.cells #[.int .i64 1, .int .i64 1, .slice (some ⟨b4, 0, none⟩) 1 1] 33) = w5 := ⟨_, rfl⟩
  have H5 : Hid (USl w5 (.slice (some ⟨b1, 0, none⟩) 4 4) [0, 1048576000, 1061158912, 1065353216] ∧ USl w5 (.slice (some ⟨b2, 0, none⟩) 2 2) [1065353216, 1077936128] ∧ USl w5 (.slice (some ⟨b4, 0, none⟩) 1 1) [1069547520] ∧ w5.cell? ⟨w4.heap.size, 2, none⟩ = some (.slice (some ⟨b4, 0, none⟩) 1 1) ∧ Q w w5) := by
    have q5 : Q w4 w5 := by rw [← hw5]; exact (Q.refl w4).cells _ _
    have q := (((Q.refl w3).cells _ _).trans q4).trans q5
    refine ⟨H3.out.1.next q, H3.out.2.1.next q, (u4.next q5).uis.usl (cap := 1) (by decide), ?_, H3.out.2.2.trans q⟩
    rw [← hw5]; simp [go_sem]
  clear u4 q4
  go_wp2_with fail
  refine (HC5.out w5).mono ?_
  rintro e w6 ⟨b6, rfl, u6, q6⟩
  obtain ⟨w7, hw7⟩ : ∃ w7, w6.alloc (.cells #[.int .i64 2, .int .i64 1, .slice (some ⟨b6, 0, none⟩) 2 2] 33) = w7 := ⟨_, rfl⟩
  have H7 : Hid (USl w7 (.slice (some ⟨b1, 0, none⟩) 4 4) [0, 1048576000, 1061158912, 1065353216] ∧ USl w7 (.slice (some ⟨b2, 0, none⟩) 2 2) [1065353216, 1077936128] ∧ USl w7 (.slice (some ⟨b4, 0, none⟩) 1 1) [1069547520] ∧ USl w7 (.slice (some ⟨b6, 0, none⟩) 2 2) [1048576000, 1061158912] ∧ w7.cell? ⟨w4.heap.size, 2, none⟩ = some (.slice (some ⟨b4, 0, none⟩) 1 1) ∧ w7.cell? ⟨w6.heap.size, 2, none⟩ = some (.slice (some ⟨b6, 0, none⟩) 2 2) ∧ Q w w7) := by
    have q7 : Q w6 w7 := by rw [← hw7]; exact (Q.refl w6).cells _ _
    have q := (((Q.refl w5).cells _ _).trans q6).trans q7
    refine ⟨H5.out.1.next q, H5.out.2.1.next q, H5.out.2.2.1.next q, (u6.next q7).uis.usl (cap := 2) (by decide), q.cell H5.out.2.2.2.1, ?_, H5.out.2.2.2.2.trans q⟩
    rw [← hw7]; simp [go_sem]
  clear u6 q6 hw5
  go_wp2_with fail
  refine (HC6.out w7).mono ?_
  rintro e w8 ⟨rfl, q8⟩
  have H8 : Hid (USl w8 (.slice (some ⟨b1, 0, none⟩) 4 4) [0, 1048576000, 1061158912, 1065353216] ∧ USl w8 (.slice (some ⟨b2, 0, none⟩) 2 2) [1065353216, 1077936128] ∧ USl w8 (.slice (some ⟨b4, 0, none⟩) 1 1) [1069547520] ∧ USl w8 (.slice (some ⟨b6, 0, none⟩) 2 2) [1048576000, 1061158912] ∧ w8.cell? ⟨w4.heap.size, 2, none⟩ = some (.slice (some ⟨b4, 0, none⟩) 1 1) ∧ w8.cell? ⟨w6.heap.size, 2, none⟩ = some (.slice (some ⟨b6, 0, none⟩) 2 2) ∧ Q w w8) := ⟨H7.out.1.next q8, H7.out.2.1.next q8, H7.out.2.2.1.next q8, H7.out.2.2.2.1.next q8, q8.cell H7.out.2.2.2.2.1, q8.cell H7.out.2.2.2.2.2.1, H7.out.2.2.2.2.2.2.trans q8⟩
  clear q8 hw7
  go_wp2_with fail
  refine (HWd.out (.slice (some ⟨b1, 0, none⟩) 4 4) [0, 1048576000, 1061158912, 1065353216] w8 _ _ ((H8.out.1).next ((Q.refl w8).cells _ _)) rfl rfl (by decide)).mono ?_
  rintro e w9 ⟨rfl, q9⟩
  have H9 : Hid (USl w9 (.slice (some ⟨b2, 0, none⟩) 2 2) [1065353216, 1077936128] ∧ USl w9 (.slice (some ⟨b4, 0, none⟩) 1 1) [1069547520] ∧ USl w9 (.slice (some ⟨b6, 0, none⟩) 2 2) [1048576000, 1061158912] ∧ w9.cell? ⟨w4.heap.size, 2, none⟩ = some (.slice (some ⟨b4, 0, none⟩) 1 1) ∧ w9.cell? ⟨w6.heap.size, 2, none⟩ = some (.slice (some ⟨b6, 0, none⟩) 2 2) ∧ Q w w9) := by
    have q := ((Q.refl w8).cells _ _).trans q9
    exact ⟨H8.out.2.1.next q, H8.out.2.2.1.next q, H8.out.2.2.2.1.next q, q.cell H8.out.2.2.2.2.1, q.cell H8.out.2.2.2.2.2.1, H8.out.2.2.2.2.2.2.trans q⟩
  clear q9
  go_wp2_with fail
  refine (HWd.out (.slice (some ⟨b2, 0, none⟩) 2 2) [1065353216, 1077936128] w9 _ _ ((H9.out.1).next ((Q.refl w9).cells _ _)) rfl rfl (by decide)).mono ?_
  rintro e w10 ⟨rfl, q10⟩
  have H10 : Hid (USl w10 (.slice (some ⟨b4, 0, none⟩) 1 1) [1069547520] ∧ USl w10 (.slice (some ⟨b6, 0, none⟩) 2 2) [1048576000, 1061158912] ∧ w10.cell? ⟨w6.heap.size, 2, none⟩ = some (.slice (some ⟨b6, 0, none⟩) 2 2) ∧ Q w w10) := by
    have q := ((Q.refl w9).cells _ _).trans q10
    exact ⟨H9.out.2.1.next q, H9.out.2.2.1.next q, q.cell H9.out.2.2.2.2.1, H9.out.2.2.2.2.2.trans q⟩
  have z4 : w10.cell? ⟨w4.heap.size, 2, none⟩ = some (.slice (some ⟨b4, 0, none⟩) 1 1) := (((Q.refl w9).cells _ _).trans q10).cell H9.out.2.2.2.1
  clear q10
  go_wp2_with fail
  refine (HWd.out (.slice (some ⟨b4, 0, none⟩) 1 1) [1069547520] w10 _ _ ((H10.out.1).next ((Q.refl w10).cells _ _)) rfl rfl (by decide)).mono ?_
  rintro e w11 ⟨rfl, q11⟩
  have H11 : Hid (USl w11 (.slice (some ⟨b6, 0, none⟩) 2 2) [1048576000, 1061158912] ∧ Q w w11) := by
    have q := ((Q.refl w10).cells _ _).trans q11
    exact ⟨H10.out.2.1.next q, H10.out.2.2.2.trans q⟩
  have z6 : w11.cell? ⟨w6.heap.size, 2, none⟩ = some (.slice (some ⟨b6, 0, none⟩) 2 2) := (((Q.refl w10).cells _ _).trans q11).cell H10.out.2.2.1
  clear q11 z4
  go_wp2_with fail
  refine (HWd.out (.slice (some ⟨b6, 0, none⟩) 2 2) [1048576000, 1061158912] w11 _ _ ((H11.out.1).next ((Q.refl w11).cells _ _)) rfl rfl (by decide)).mono ?_
  rintro e w12 ⟨rfl, q12⟩
  have H12 : Hid (Q w w12) := H11.out.2.trans (((Q.refl w11).cells _ _).trans q12)
  clear q12 z6
  go_wp2_with fail
  go_ret
  exact ⟨rfl, H12.out⟩
end Go.Proofs.Ytdbbpmadkhedlaa
/- The statement ScaleConstant: its walk. -/
namespace Go.Proofs.Ytdbbpmadkhedlaa
open Go.RowKit
set_option linter.unusedVariables false
set_option linter.unusedSimpArgs false

theorem plnE_ok {pw ph : Int} {n : Nat} {kind W H : Int} (hE : plnE pw ph n kind W H = 0) : SizeB W H ∧ tapE kind pw W 0 = 0 ∧ tapE kind ph H 0 = 0 := by
  unfold plnE at hE
  split at hE
  · split at hE
    · rename_i hs
      split at hE
      · rename_i h; exact ⟨sizeB_true.1 hs, h, hE⟩
      · rename_i h; exact absurd hE h
    · cases hE
  · rename_i h; exact absurd hE h
structure Bk2 (W0 wx : World) (B g : Nat) (W H m : Nat) (F : Nat → Nat) : Prop where
  o0 : wx.cell? ⟨B, 0, none⟩ = some (.int .i64 (W : Int))
  o1 : wx.cell? ⟨B, 1, none⟩ = some (.int .i64 (H : Int))
  o2 : wx.cell? ⟨B, 2, none⟩ = some (.slice (some ⟨g, 0, none⟩) m m)
  row : URow wx g (tabN m F)
  q : Q W0 wx
end Go.Proofs.Ytdbbpmadkhedlaa
/- The statement ScaleExtremes: its walk. -/
namespace Go.Proofs.Ytdbbpmadkhedlaa
open Go.RowKit
set_option linter.unusedVariables false
set_option linter.unusedSimpArgs false

theorem plnE_full {pw ph : Int} {n : Nat} {kind W H : Int} (hE : plnE pw ph n kind W H = 0) : ∃ pa pb WW HH : Nat, pw = (pa : Int) ∧ ph = (pb : Int) ∧ Size pa pb ∧ n = pa * pb ∧ W = (WW : Int) ∧ H = (HH : Int) ∧ Size WW HH ∧ tapE kind pa WW 0 = 0 ∧ tapE kind pb HH 0 = 0 := by
  obtain ⟨hs, t1, t2⟩ := plnE_ok hE
  have hc : chk pw ph n = 0 := by
    unfold plnE at hE
    split at hE
    · assumption
    · rename_i h; exact absurd hE h
  obtain ⟨a, b, rfl, rfl, h1, h2⟩ := chk_zero hc
  obtain ⟨c, d, rfl, rfl, h3⟩ := hs.nat
  exact ⟨a, b, c, d, rfl, rfl, h1, h2, rfl, rfl, h3, t1, t2⟩
theorem over_lt (X : Nat) : overW X < 4294967296 := by
  unfold overW
  split
  · decide
  · exact toldD_lt _
theorem whl_lt (kind : Int) (pa pb W H : Nat) (S : List Nat) (X Y : Nat) : whlV kind pa pb W H S X Y < 4294967296 := over_lt _
/-- A plane in a box. -/
structure Pbx (W0 x : World) (B : Nat) (pw ph : Int) (sv : Value) : Prop where
  c0 : x.cell? ⟨B, 0, none⟩ = some (.int .i64 pw)
  c1 : x.cell? ⟨B, 1, none⟩ = some (.int .i64 ph)
  c2 : x.cell? ⟨B, 2, none⟩ = some sv
  q : Q W0 x
theorem Pbx.next {W0 x y : World} {B : Nat} {pw ph : Int} {sv : Value} (h : Pbx W0 x B pw ph sv) (q : Q x y) : Pbx W0 y B pw ph sv := ⟨q.cell h.c0, q.cell h.c1, q.cell h.c2, h.q.trans q⟩
theorem Bk2.next {W0 x y : World} {B g W H m : Nat} {F : Nat → Nat} (h : Bk2 W0 x B g W H m F) (q : Q x y) : Bk2 W0 y B g W H m F := ⟨q.cell h.o0, q.cell h.o1, q.cell h.o2, h.row.next q, h.q.trans q⟩
/-- The least and the greatest by now. -/
structure LoHi (S : List Nat) (i : Nat) (lo hi : Int) : Prop where
  fin : ∀ j, j < i → rung32 (S.getD j 0) < 2139095040
  le : ∀ j, j < i → lo ≤ srung32 (S.getD j 0) ∧ srung32 (S.getD j 0) ≤ hi
  at_ : 0 < i → ∃ a b, lo = srung32 (S.getD a 0) ∧ hi = srung32 (S.getD b 0) ∧ a < i ∧ b < i
  bd : -1099511627776 ≤ lo ∧ lo ≤ 1099511627776 ∧ -1099511627776 ≤ hi ∧ hi ≤ 1099511627776
  z : i = 0 → lo = 1099511627776 ∧ hi = -1099511627776
theorem LoHi.step {S : List Nat} {i : Nat} {lo hi : Int} (h : LoHi S i lo hi) (hf : rung32 (S.getD i 0) < 2139095040) : LoHi S (i + 1) (min lo (srung32 (S.getD i 0))) (max hi (srung32 (S.getD i 0))) := by
  have b := fin_srung hf
  refine ⟨fun j hj => ?_, fun j hj => ?_, fun _ => ?_, ?_, fun e => by omega⟩
  · by_cases e : j = i
    · subst e; exact hf
    · exact h.fin j (by omega)
  · by_cases e : j = i
    · subst e; omega
    · have := h.le j (by omega); omega
  · rcases Nat.eq_zero_or_pos i with e | e
    · have := h.z e
      exact ⟨i, i, by omega, by omega, by omega, by omega⟩
    · obtain ⟨a, b, h1, h2, h3, h4⟩ := h.at_ e
      refine ⟨if lo ≤ srung32 (S.getD i 0) then a else i, if srung32 (S.getD i 0) ≤ hi then b else i, ?_, ?_, ?_, ?_⟩
      · split <;> omega
      · split <;> omega
      · split <;> omega
      · split <;> omega
  · have := h.bd; omega
structure Ex1 (W0 x : World) (B Bq g pa pb W H m : Nat) (sv : Value) (F : Nat → Nat) (S : List Nat) (i : Nat) (lo hi : Int) : Prop where
  p : Pbx W0 x B (pa : Int) (pb : Int) sv
  k : Bk2 W0 x Bq g W H m F
  l : LoHi S i lo hi
end Go.Proofs.Ytdbbpmadkhedlaa
/- Appending to a list without room: what lies where, and that all the new room is there. -/
namespace Go.Proofs.Ytdbbpmadkhedlaa
open Go.RowKit

theorem run_app_room {P : Program} (w : World) (t ty e : TypeId) (i : TypeInfo) (z : Value) (ht : P.underlying t = some (.slice e)) (hi : P.info? e = some i) (hz : i.zero = some z) (hzs : z.cells.size = i.size)
    (v : Value) (hv : v = .slice none 0 0 ∨ ∃ b, v = .slice (some b) 0 0) (ad : Addr) (m c : Nat) (news : List Value) (hl : news.length = m * i.size) (hnews : ∀ j u, news[j]? = some u → w.cell? (ad.add j) = some u)
    (h0 : 0 < m) (h63 : m ≤ 1125899906842624) (hby : m * i.bytes ≤ 140737488355328) :
    ∃ cap w', (Builtin.append_ #[t, t] ty #[v, .slice (some ad) m c]).run P w = .ok (.slice (some ⟨w.heap.size, 0, none⟩) m cap) w' ∧ Q w w' ∧ m ≤ cap ∧ cap ≤ maxLen ∧ w'.heap.size = w.heap.size + 1 ∧
      (∀ j u, news[j]? = some u → w'.cell? ⟨w.heap.size, j, none⟩ = some u) ∧ (∀ j, j < cap * i.size → ∃ u, w'.cell? ⟨w.heap.size, j, none⟩ = some u) ∧ ∀ j, w'.frozen? ⟨w.heap.size, j, none⟩ = false := by
  have hmm : m ≤ maxLen := by unfold maxLen; omega
  have fin : ∀ (n : Nat) (cs : Array Value), (∀ (j : Nat) (u : Value), news[j]? = some u → cs[j]? = some u) → cs.size = n * i.size → Q w (w.drew.alloc (.cells cs e)) ∧ (w.drew.alloc (.cells cs e)).heap.size = w.heap.size + 1 ∧
      (∀ (j : Nat) (u : Value), news[j]? = some u → (w.drew.alloc (.cells cs e)).cell? ⟨w.heap.size, j, none⟩ = some u) ∧ (∀ j, j < n * i.size → ∃ u, (w.drew.alloc (.cells cs e)).cell? ⟨w.heap.size, j, none⟩ = some u) ∧ ∀ j, (w.drew.alloc (.cells cs e)).frozen? ⟨w.heap.size, j, none⟩ = false := by
    intro n cs hcs hs
    have hb : (w.drew.alloc (.cells cs e)).heap[w.heap.size]? = some (.cells cs e (0, 0)) := heap_alloc_new w.drew _
    refine ⟨(Q.refl w).drew.cells _ _, by simp, fun j u hu => ?_, fun j hj => ?_, fun j => frozen_of_row _ _ _ _ _ hb⟩
    · rw [cell_of_row _ _ j cs e (0, 0) hb]
      exact hcs j u hu
    · rw [cell_of_row _ _ j cs e (0, 0) hb]
      exact ⟨_, Array.getElem?_eq_getElem (by omega)⟩
  have key : ∀ (n : Nat) (j : Nat) (u : Value), news[j]? = some u → (news.toArray ++ Builtin.zeroCells z.cells n)[j]? = some u := by
    intro n j u hu
    have hj : j < news.length := (List.getElem?_eq_some_iff.1 hu).1
    rw [Array.getElem?_append_left (by simpa using hj)]
    simpa using hu
  have size : (news.toArray ++ Builtin.zeroCells z.cells (grownCap w m 0 e - m)).size = grownCap w m 0 e * i.size := by
    have := grownCap_ge w m 0 e
    rw [Array.size_append, size_zeroCells, hzs, List.size_toArray, hl, ← Nat.add_mul]
    congr 1; omega
  rcases hv with rfl | ⟨b, rfl⟩
  · have hr := run_append_nil (P := P) w t ty e i z ht hi hz ad m c news hl hnews h0 (by omega) (by omega)
    obtain ⟨q1, q2, q3, q4, q5⟩ := fin _ _ (key (grownCap w m 0 e - m)) size
    exact ⟨_, _, hr, q1, grownCap_ge w m 0 e, grownCap_le_maxLen w m 0 e hmm, q2, q3, q4, q5⟩
  · have hr := run_append_grow (P := P) w t ty e i z ht hi hz b 0 0 [] (by simp) (fun j v h => by simp at h) ad m c news hl hnews (by omega) (by omega) (growslice_fits (by omega) (by rw [Nat.zero_add]; exact hby))
    simp only [Nat.zero_add, Array.empty_append] at hr
    obtain ⟨q1, q2, q3, q4, q5⟩ := fin _ _ (key (grownCap w m 0 e - m)) size
    exact ⟨_, _, hr, q1, grownCap_ge w m 0 e, grownCap_le_maxLen w m 0 e hmm, q2, q3, q4, q5⟩
/-- In a list of operations. -/
theorem wpList_room {P : Program} (w : World) {ops : Array Oper} {rest : List Oper} {o : Oper} {a : Act} {R : Exit → Act → World → Prop} (hgd : o.guard = none) (s x : Operand) (t : TypeId)
    (ho : o.op = .call { callee := .builtin .append, args := #[s, x], argTypes := #[t, t] })
    (e : TypeId) (i : TypeInfo) (z : Value) (ht : P.underlying t = some (.slice e)) (hi : P.info? e = some i) (hz : i.zero = some z) (hzs : z.cells.size = i.size)
    (v : Value) (hv : v = .slice none 0 0 ∨ ∃ b, v = .slice (some b) 0 0) (hs : a.eval s = v) (ad : Addr) (m c : Nat) (news : List Value) (hx : a.eval x = .slice (some ad) m c) (hl : news.length = m * i.size) (hnews : ∀ j u, news[j]? = some u → w.cell? (ad.add j) = some u)
    (h0 : 0 < m) (h63 : m ≤ 1125899906842624) (hby : m * i.bytes ≤ 140737488355328)
    (h : ∀ cap w', Q w w' → m ≤ cap → cap ≤ maxLen → w'.heap.size = w.heap.size + 1 → (∀ j u, news[j]? = some u → w'.cell? ⟨w.heap.size, j, none⟩ = some u) → (∀ j, j < cap * i.size → ∃ u, w'.cell? ⟨w.heap.size, j, none⟩ = some u) → (∀ j, w'.frozen? ⟨w.heap.size, j, none⟩ = false) → wpList P ops R rest (a.put o.dst (.slice (some ⟨w.heap.size, 0, none⟩) m cap)) w') :
    wpList P ops R (o :: rest) a w := by
  obtain ⟨cap, w', hr, h1, h2, h3, h4, h5, h6, h7⟩ := run_app_room (P := P) w t o.type e i z ht hi hz hzs v hv ad m c news hl hnews h0 h63 hby
  refine wpList_plain hgd fun _ hK => ?_
  unfold Oper.wp execOp
  simp only [ho, resolve, invoke, builtin, Sem.run_bind, Sem.run_pure, Result.andThen_ok, List.map_toArray, List.map_cons, List.map_nil, hs, hx, hr]
  exact hK _ _ (h cap w' h1 h2 h3 h4 h5 h6 h7)
end Go.Proofs.Ytdbbpmadkhedlaa
/- Copies of planes. -/
namespace Go.Proofs.Ytdbbpmadkhedlaa
open Go.RowKit
set_option linter.unusedVariables false
set_option linter.unusedSimpArgs false

theorem uInfoq : ∃ i, Try.prog.info? 34 = some i ∧ i.size = 1 ∧ i.bytes = 4 ∧ i.zero = some (.int .u32 0) := info_of (by kernel_rfl) (by kernel_rfl)
theorem run_appopq {P : Program} {A : Act} {o : Oper} {x x' : World} {s u : Operand} {t : TypeId} (ho : o.op = .call { callee := .builtin .append, args := #[s, u], argTypes := #[t, t] }) {v v' r : Value} (hs : A.eval s = v) (hu : A.eval u = v') (hr : (Builtin.append_ #[t, t] o.type #[v, v']).run P x = .ok r x') : (execOp A.eval o).run P x = .ok (.value r) x' := by
  unfold execOp
  simp only [ho, resolve, invoke, builtin, Sem.run_bind, Sem.run_pure, Result.andThen_ok, List.map_toArray, List.map_cons, List.map_nil, hs, hu, hr]
set_option maxHeartbeats 2000000 in
set_option maxRecDepth 100000 in
theorem hcopy_some (w : World) (pw ph : Int) (g o n c : Nat) (S : List Nat) (hS : S.length = n) (hI : UIs w g o S) (h1 : 1 ≤ n) (h2 : n ≤ 1000000) :
    Calls Try.prog 13 #[.agg #[.int .i64 pw, .int .i64 ph, .slice (some ⟨g, o, none⟩) n c]] w fun e w' => ∃ v, e = .returned v ∧ ∃ b cap, v = .agg #[.int .i64 pw, .int .i64 ph, .slice (some ⟨b, 0, none⟩) n cap] ∧ n ≤ cap ∧ b < w'.heap.size ∧ Own w w' b S := by
  have HI : Hid (∀ x : World, Q w x → UIs x g o S) := fun x q => hI.next q
  have HN : Hid (S.length = n) := hS
  clear hI hS
  go_enter Try.func13, Try.ntmps13
  go_wp2_with fail
  have HQ : Hid (Q w ((w.alloc (Obj.cells #[Value.int IntKind.i64 pw, Value.int IntKind.i64 ph, .slice (some ⟨g, o, none⟩) n c] 33)).alloc (Obj.cells #[Value.int IntKind.i64 0, Value.int IntKind.i64 0, Value.slice none 0 0] 33))) := ((Q.refl w).cells _ _).cells _ _
  have c0 : ((w.alloc (Obj.cells #[Value.int IntKind.i64 pw, Value.int IntKind.i64 ph, .slice (some ⟨g, o, none⟩) n c] 33)).alloc (Obj.cells #[Value.int IntKind.i64 0, Value.int IntKind.i64 0, Value.slice none 0 0] 33)).cell? ⟨w.heap.size, 0, none⟩ = some (.int .i64 pw) := by simp [go_sem]
  have c1 : ((w.alloc (Obj.cells #[Value.int IntKind.i64 pw, Value.int IntKind.i64 ph, .slice (some ⟨g, o, none⟩) n c] 33)).alloc (Obj.cells #[Value.int IntKind.i64 0, Value.int IntKind.i64 0, Value.slice none 0 0] 33)).cell? ⟨w.heap.size, 1, none⟩ = some (.int .i64 ph) := by simp [go_sem]
  have c2 : ((w.alloc (Obj.cells #[Value.int IntKind.i64 pw, Value.int IntKind.i64 ph, .slice (some ⟨g, o, none⟩) n c] 33)).alloc (Obj.cells #[Value.int IntKind.i64 0, Value.int IntKind.i64 0, Value.slice none 0 0] 33)).cell? ⟨w.heap.size, 2, none⟩ = some (.slice (some ⟨g, o, none⟩) n c) := by simp [go_sem]
  have d0 : ((w.alloc (Obj.cells #[Value.int IntKind.i64 pw, Value.int IntKind.i64 ph, .slice (some ⟨g, o, none⟩) n c] 33)).alloc (Obj.cells #[Value.int IntKind.i64 0, Value.int IntKind.i64 0, Value.slice none 0 0] 33)).cell? ⟨w.heap.size + 1, 0, none⟩ = some (.int .i64 0) := by simp [go_sem]
  have d1 : ((w.alloc (Obj.cells #[Value.int IntKind.i64 pw, Value.int IntKind.i64 ph, .slice (some ⟨g, o, none⟩) n c] 33)).alloc (Obj.cells #[Value.int IntKind.i64 0, Value.int IntKind.i64 0, Value.slice none 0 0] 33)).cell? ⟨w.heap.size + 1, 1, none⟩ = some (.int .i64 0) := by simp [go_sem]
  have d2 : ((w.alloc (Obj.cells #[Value.int IntKind.i64 pw, Value.int IntKind.i64 ph, .slice (some ⟨g, o, none⟩) n c] 33)).alloc (Obj.cells #[Value.int IntKind.i64 0, Value.int IntKind.i64 0, Value.slice none 0 0] 33)).cell? ⟨w.heap.size + 1, 2, none⟩ = some (.slice none 0 0) := by simp [go_sem]
  have fz : ∀ j, ((w.alloc (Obj.cells #[Value.int IntKind.i64 pw, Value.int IntKind.i64 ph, .slice (some ⟨g, o, none⟩) n c] 33)).alloc (Obj.cells #[Value.int IntKind.i64 0, Value.int IntKind.i64 0, Value.slice none 0 0] 33)).frozen? ⟨w.heap.size + 1, j, none⟩ = false := fun j => by simp [go_sem]
  have hsz : ((w.alloc (Obj.cells #[Value.int IntKind.i64 pw, Value.int IntKind.i64 ph, .slice (some ⟨g, o, none⟩) n c] 33)).alloc (Obj.cells #[Value.int IntKind.i64 0, Value.int IntKind.i64 0, Value.slice none 0 0] 33)).heap.size = w.heap.size + 2 := by simp
  generalize ((w.alloc (Obj.cells #[Value.int IntKind.i64 pw, Value.int IntKind.i64 ph, .slice (some ⟨g, o, none⟩) n c] 33)).alloc (Obj.cells #[Value.int IntKind.i64 0, Value.int IntKind.i64 0, Value.slice none 0 0] 33)) = wz at *
  have n0 := qw_some wz
  have f0 := qw_cell c0
  have f1 := qw_cell c1
  have f2 := qw_cell c2
  refine wp_region_mk [0, 1, 2, 3, 4, 5] [[6, 7, 8]] 3 _ (by kernel_rfl) (by kernel_rfl) rfl (by kernel_rfl) ?_
  simp only [List.filterMap_cons, List.filterMap_nil, List.getElem?_cons_zero, List.getElem?_cons_succ]
  repeat (first | go_big_quiet_step (fail) | quiet_step (fail))
  refine wpQuiet_nil ?_
  intro x hx
  obtain ⟨iu, i1, i2, i3, i4⟩ := uInfoq
  obtain ⟨cap, w7, hr7, hq7, hc1, hc2, hz7, hn7, -, hf7⟩ := run_app_room (P := Try.prog) x 31 31 34 iu _ Try.underlying31 i1 i4 (by rw [i2]; rfl) (.slice none 0 0) (Or.inl rfl) ⟨g, o, none⟩ n c (S.map fun (s : Nat) => Value.int .u32 (s : Int)) (by rw [List.length_map, HN.out, i2]; omega) (fun j u hu => by
    rw [List.getElem?_map] at hu
    cases hj : S[j]? with
    | none => rw [hj] at hu; cases hu
    | some s =>
      rw [hj] at hu
      have hu := Option.some.inj hu
      have hjl : j < S.length := (List.getElem?_eq_some_iff.1 hj).1
      have := HI.out x (HQ.out.trans hx) j hjl
      rw [List.getD_eq_getElem?_getD, hj] at this
      rw [← hu, show (⟨g, o, none⟩ : Addr).add j = ⟨g, o + j, none⟩ by unfold Addr.add; split <;> simp_all]
      exact this) (by omega) (by omega) (by rw [i3]; omega)
  have hc7 : ∀ i, i < S.length → w7.cell? ⟨x.heap.size, i, none⟩ = some (.int .u32 ((S.getD i 0 : Nat) : Int)) := fun i hi => by
    refine hn7 i _ ?_
    rw [List.getElem?_map, List.getElem?_eq_getElem hi, List.getD_eq_getElem?_getD, List.getElem?_eq_getElem hi]
    rfl
  have hq2 : Q wz w7 := hx.trans hq7
  refine tree_run 6 rfl rfl (v := .slice (some ⟨x.heap.size, 0, none⟩) n cap) (x' := w7) (run_appopq rfl (v := .slice none 0 0) (v' := .slice (some ⟨g, o, none⟩) n c) (by simp [Act.eval, Act.put]) (by simp [Act.eval, Act.put]) hr7) hq2 ?_
  refine tree_run 7 rfl rfl (v := .agg #[.int .i64 pw, .int .i64 ph, .slice (some ⟨x.heap.size, 0, none⟩) n cap]) (x' := w7) (by simp [execOp, go_sem]) hq2 ?_
  have d02 := hq2.cell d0
  have d12 := hq2.cell d1
  have d22 := hq2.cell d2
  have fz2 : ∀ j, w7.frozen? ⟨w.heap.size + 1, j, none⟩ = false := fun j => (hq2.2 _).trans (fz j)
  refine tree_skipF 8 rfl rfl rfl (x' := (((w7.setCell ⟨w.heap.size + 1, 0, none⟩ (.int .i64 pw)).setCell ⟨w.heap.size + 1, 1, none⟩ (.int .i64 ph)).setCell ⟨w.heap.size + 1, 2, none⟩ (.slice (some ⟨x.heap.size, 0, none⟩) n cap))) (by simp [execOp, go_sem, d02, d12, d22, fz2]) ?_
  refine tree_nil ?_
  have HO : Hid (Own w (((w7.setCell ⟨w.heap.size + 1, 0, none⟩ (.int .i64 pw)).setCell ⟨w.heap.size + 1, 1, none⟩ (.int .i64 ph)).setCell ⟨w.heap.size + 1, 2, none⟩ (.slice (some ⟨x.heap.size, 0, none⟩) n cap)) x.heap.size S) := by
    have hlt : w.heap.size + 1 < x.heap.size := by have := hx.1.size; omega
    have hne : ∀ j, (⟨x.heap.size, j, none⟩ : Addr) ≠ ⟨w.heap.size + 1, 0, none⟩ := fun j e => by injection e with e; omega
    refine ⟨(((HQ.out.trans hq2).set (Nat.le_succ _) _).set (Nat.le_succ _) _).set (Nat.le_succ _) _, by omega, fun i hi => ?_, fun j => ?_⟩
    · rw [World.cell?_setCell_other _ _ _ _ (fun e => by injection e with e; omega), World.cell?_setCell_other _ _ _ _ (fun e => by injection e with e; omega), World.cell?_setCell_other _ _ _ _ (fun e => by injection e with e; omega), Nat.zero_add]
      exact hc7 i hi
    · rw [World.frozen?_setCell, World.frozen?_setCell, World.frozen?_setCell]
      exact hf7 j
  have k0 : (((w7.setCell ⟨w.heap.size + 1, 0, none⟩ (.int .i64 pw)).setCell ⟨w.heap.size + 1, 1, none⟩ (.int .i64 ph)).setCell ⟨w.heap.size + 1, 2, none⟩ (.slice (some ⟨x.heap.size, 0, none⟩) n cap)).cell? ⟨w.heap.size + 1, 0, none⟩ = some (.int .i64 pw) := by simp [go_sem, d02, d12, d22]
  have k1 : (((w7.setCell ⟨w.heap.size + 1, 0, none⟩ (.int .i64 pw)).setCell ⟨w.heap.size + 1, 1, none⟩ (.int .i64 ph)).setCell ⟨w.heap.size + 1, 2, none⟩ (.slice (some ⟨x.heap.size, 0, none⟩) n cap)).cell? ⟨w.heap.size + 1, 1, none⟩ = some (.int .i64 ph) := by simp [go_sem, d02, d12, d22]
  have k2 : (((w7.setCell ⟨w.heap.size + 1, 0, none⟩ (.int .i64 pw)).setCell ⟨w.heap.size + 1, 1, none⟩ (.int .i64 ph)).setCell ⟨w.heap.size + 1, 2, none⟩ (.slice (some ⟨x.heap.size, 0, none⟩) n cap)).cell? ⟨w.heap.size + 1, 2, none⟩ = some (.slice (some ⟨x.heap.size, 0, none⟩) n cap) := by simp [go_sem, d02, d12, d22]
  generalize (((w7.setCell ⟨w.heap.size + 1, 0, none⟩ (.int .i64 pw)).setCell ⟨w.heap.size + 1, 1, none⟩ (.int .i64 ph)).setCell ⟨w.heap.size + 1, 2, none⟩ (.slice (some ⟨x.heap.size, 0, none⟩) n cap)) = w5 at *
  clear d02 d12 d22 fz2 hq2 hx c0 c1 c2 d0 d1 d2 fz hr7 hq7
  go_wp2_with fail
  have hb5 : x.heap.size < w5.heap.size := World.block_lt_of_cell? _ _ (HO.out.cells 0 (by rw [HN.out]; omega))
  exact bodyPost_ret (v := .agg #[.int .i64 pw, .int .i64 ph, .slice (some ⟨x.heap.size, 0, none⟩) n cap]) (by simp [results, Try.results13, go_sem, k0, k1, k2]) rfl ⟨_, rfl, x.heap.size, cap, rfl, hc1, hb5, HO.out⟩
theorem run_app_none (x : World) (ad : Option Addr) (c : Nat) : ∃ w7, (Builtin.append_ #[31, 31] 31 #[.slice none 0 0, .slice ad 0 c]).run Try.prog x = .ok (.slice none 0 0) w7 ∧ Q x w7 := by
  refine ⟨x, ?_, Q.refl x⟩
  cases ad <;> simp [Builtin.append_, go_sem]
set_option maxHeartbeats 2000000 in
set_option maxRecDepth 100000 in
theorem hcopy_none (w : World) (pw ph : Int) (ad : Option Addr) (c : Nat) :
    Calls Try.prog 13 #[.agg #[.int .i64 pw, .int .i64 ph, .slice ad 0 c]] w fun e w' => ∃ v, e = .returned v ∧ v = .agg #[.int .i64 pw, .int .i64 ph, .slice none 0 0] ∧ Q w w' := by
  go_enter Try.func13, Try.ntmps13
  go_wp2_with fail
  have HQ : Hid (Q w ((w.alloc (Obj.cells #[Value.int IntKind.i64 pw, Value.int IntKind.i64 ph, .slice ad 0 c] 33)).alloc (Obj.cells #[Value.int IntKind.i64 0, Value.int IntKind.i64 0, Value.slice none 0 0] 33))) := ((Q.refl w).cells _ _).cells _ _
  have c0 : ((w.alloc (Obj.cells #[Value.int IntKind.i64 pw, Value.int IntKind.i64 ph, .slice ad 0 c] 33)).alloc (Obj.cells #[Value.int IntKind.i64 0, Value.int IntKind.i64 0, Value.slice none 0 0] 33)).cell? ⟨w.heap.size, 0, none⟩ = some (.int .i64 pw) := by simp [go_sem]
  have c1 : ((w.alloc (Obj.cells #[Value.int IntKind.i64 pw, Value.int IntKind.i64 ph, .slice ad 0 c] 33)).alloc (Obj.cells #[Value.int IntKind.i64 0, Value.int IntKind.i64 0, Value.slice none 0 0] 33)).cell? ⟨w.heap.size, 1, none⟩ = some (.int .i64 ph) := by simp [go_sem]
  have c2 : ((w.alloc (Obj.cells #[Value.int IntKind.i64 pw, Value.int IntKind.i64 ph, .slice ad 0 c] 33)).alloc (Obj.cells #[Value.int IntKind.i64 0, Value.int IntKind.i64 0, Value.slice none 0 0] 33)).cell? ⟨w.heap.size, 2, none⟩ = some (.slice ad 0 c) := by simp [go_sem]
  have d0 : ((w.alloc (Obj.cells #[Value.int IntKind.i64 pw, Value.int IntKind.i64 ph, .slice ad 0 c] 33)).alloc (Obj.cells #[Value.int IntKind.i64 0, Value.int IntKind.i64 0, Value.slice none 0 0] 33)).cell? ⟨w.heap.size + 1, 0, none⟩ = some (.int .i64 0) := by simp [go_sem]
  have d1 : ((w.alloc (Obj.cells #[Value.int IntKind.i64 pw, Value.int IntKind.i64 ph, .slice ad 0 c] 33)).alloc (Obj.cells #[Value.int IntKind.i64 0, Value.int IntKind.i64 0, Value.slice none 0 0] 33)).cell? ⟨w.heap.size + 1, 1, none⟩ = some (.int .i64 0) := by simp [go_sem]
  have d2 : ((w.alloc (Obj.cells #[Value.int IntKind.i64 pw, Value.int IntKind.i64 ph, .slice ad 0 c] 33)).alloc (Obj.cells #[Value.int IntKind.i64 0, Value.int IntKind.i64 0, Value.slice none 0 0] 33)).cell? ⟨w.heap.size + 1, 2, none⟩ = some (.slice none 0 0) := by simp [go_sem]
  have fz : ∀ j, ((w.alloc (Obj.cells #[Value.int IntKind.i64 pw, Value.int IntKind.i64 ph, .slice ad 0 c] 33)).alloc (Obj.cells #[Value.int IntKind.i64 0, Value.int IntKind.i64 0, Value.slice none 0 0] 33)).frozen? ⟨w.heap.size + 1, j, none⟩ = false := fun j => by simp [go_sem]
  have hsz : ((w.alloc (Obj.cells #[Value.int IntKind.i64 pw, Value.int IntKind.i64 ph, .slice ad 0 c] 33)).alloc (Obj.cells #[Value.int IntKind.i64 0, Value.int IntKind.i64 0, Value.slice none 0 0] 33)).heap.size = w.heap.size + 2 := by simp
  generalize ((w.alloc (Obj.cells #[Value.int IntKind.i64 pw, Value.int IntKind.i64 ph, .slice ad 0 c] 33)).alloc (Obj.cells #[Value.int IntKind.i64 0, Value.int IntKind.i64 0, Value.slice none 0 0] 33)) = wz at *
  have n0 := qw_some wz
  have f0 := qw_cell c0
  have f1 := qw_cell c1
  have f2 := qw_cell c2
  refine wp_region_mk [0, 1, 2, 3, 4, 5] [[6, 7, 8]] 3 _ (by kernel_rfl) (by kernel_rfl) rfl (by kernel_rfl) ?_
  simp only [List.filterMap_cons, List.filterMap_nil, List.getElem?_cons_zero, List.getElem?_cons_succ]
  repeat (first | go_big_quiet_step (fail) | quiet_step (fail))
  refine wpQuiet_nil ?_
  intro x hx
  obtain ⟨iu, i1, i2, i3, i4⟩ := uInfoq
  obtain ⟨w7, hr7, hq7⟩ : ∃ w7, (Builtin.append_ #[31, 31] 31 #[.slice none 0 0, .slice ad 0 c]).run Try.prog x = .ok (.slice none 0 0) w7 ∧ Q x w7 := run_app_none x ad c
  have hq2 : Q wz w7 := hx.trans hq7
  refine tree_run 6 rfl rfl (v := .slice none 0 0) (x' := w7) (run_appopq rfl (v := .slice none 0 0) (v' := .slice ad 0 c) (by simp [Act.eval, Act.put]) (by simp [Act.eval, Act.put]) hr7) hq2 ?_
  refine tree_run 7 rfl rfl (v := .agg #[.int .i64 pw, .int .i64 ph, .slice none 0 0]) (x' := w7) (by simp [execOp, go_sem]) hq2 ?_
  have d02 := hq2.cell d0
  have d12 := hq2.cell d1
  have d22 := hq2.cell d2
  have fz2 : ∀ j, w7.frozen? ⟨w.heap.size + 1, j, none⟩ = false := fun j => (hq2.2 _).trans (fz j)
  refine tree_skipF 8 rfl rfl rfl (x' := (((w7.setCell ⟨w.heap.size + 1, 0, none⟩ (.int .i64 pw)).setCell ⟨w.heap.size + 1, 1, none⟩ (.int .i64 ph)).setCell ⟨w.heap.size + 1, 2, none⟩ (.slice none 0 0))) (by simp [execOp, go_sem, d02, d12, d22, fz2]) ?_
  refine tree_nil ?_
  have HO : Hid (Q w (((w7.setCell ⟨w.heap.size + 1, 0, none⟩ (.int .i64 pw)).setCell ⟨w.heap.size + 1, 1, none⟩ (.int .i64 ph)).setCell ⟨w.heap.size + 1, 2, none⟩ (.slice none 0 0))) := by
    exact (((HQ.out.trans hq2).set (Nat.le_succ _) _).set (Nat.le_succ _) _).set (Nat.le_succ _) _
  have k0 : (((w7.setCell ⟨w.heap.size + 1, 0, none⟩ (.int .i64 pw)).setCell ⟨w.heap.size + 1, 1, none⟩ (.int .i64 ph)).setCell ⟨w.heap.size + 1, 2, none⟩ (.slice none 0 0)).cell? ⟨w.heap.size + 1, 0, none⟩ = some (.int .i64 pw) := by simp [go_sem, d02, d12, d22]
  have k1 : (((w7.setCell ⟨w.heap.size + 1, 0, none⟩ (.int .i64 pw)).setCell ⟨w.heap.size + 1, 1, none⟩ (.int .i64 ph)).setCell ⟨w.heap.size + 1, 2, none⟩ (.slice none 0 0)).cell? ⟨w.heap.size + 1, 1, none⟩ = some (.int .i64 ph) := by simp [go_sem, d02, d12, d22]
  have k2 : (((w7.setCell ⟨w.heap.size + 1, 0, none⟩ (.int .i64 pw)).setCell ⟨w.heap.size + 1, 1, none⟩ (.int .i64 ph)).setCell ⟨w.heap.size + 1, 2, none⟩ (.slice none 0 0)).cell? ⟨w.heap.size + 1, 2, none⟩ = some (.slice none 0 0) := by simp [go_sem, d02, d12, d22]
  generalize (((w7.setCell ⟨w.heap.size + 1, 0, none⟩ (.int .i64 pw)).setCell ⟨w.heap.size + 1, 1, none⟩ (.int .i64 ph)).setCell ⟨w.heap.size + 1, 2, none⟩ (.slice none 0 0)) = w5 at *
  clear d02 d12 d22 fz2 hq2 hx c0 c1 c2 d0 d1 d2 fz hr7 hq7
  go_wp2_with fail
  exact bodyPost_ret (v := .agg #[.int .i64 pw, .int .i64 ph, .slice none 0 0]) (by simp [results, Try.results13, go_sem, k0, k1, k2]) rfl ⟨_, rfl, rfl, HO.out⟩
end Go.Proofs.Ytdbbpmadkhedlaa
/- Regions that draw their order, whose last operation waits for all others: one walk in the order of the text, and then the last operation. -/
namespace Go.Proofs.Ytdbbpmadkhedlaa
open Go.RowKit
set_option linter.unusedVariables false

/-- The last operation waits for all others; each of these waits for earlier ones alone; none is guarded. -/
def lastB (pre : List Oper) (st : Oper) : Bool :=
  ((List.range pre.length).all fun k => match pre[k]? with
    | some o => o.guard.isNone && o.after.toList.all fun e => !(Region.binds .any e) || decide (e.on < k)
    | none => true) &&
  ((st.guard.isNone && st.after.toList.all fun e => !(Region.binds .any e) || decide (e.on < pre.length)) && (List.range pre.length).all fun k => st.after.toList.any fun e => Region.binds .any e && (e.on == k))
theorem lastB_pre {pre : List Oper} {st : Oper} (h : lastB pre st = true) {k : Nat} {o : Oper} (hk : pre[k]? = some o) : o.guard = none ∧ ∀ e ∈ o.after, Region.binds .any e = true → e.on < k := by
  unfold lastB at h
  rw [Bool.and_eq_true] at h
  have hlt : k < pre.length := (List.getElem?_eq_some_iff.1 hk).1
  have h1 := List.all_eq_true.1 h.1 k (List.mem_range.2 hlt)
  rw [hk] at h1
  simp only [Bool.and_eq_true] at h1
  refine ⟨by simpa using h1.1, fun e he hb => ?_⟩
  have h2 := List.all_eq_true.1 h1.2 e (by simpa using he)
  rw [hb] at h2
  simpa using h2
theorem lastB_st {pre : List Oper} {st : Oper} (h : lastB pre st = true) : st.guard = none ∧ (∀ k, k < pre.length → ∃ e ∈ st.after, Region.binds .any e = true ∧ e.on = k) ∧ ∀ e ∈ st.after, Region.binds .any e = true → e.on < pre.length := by
  unfold lastB at h
  simp only [Bool.and_eq_true] at h
  refine ⟨by simpa using h.2.1.1, fun k hk => ?_, fun e he hb => ?_⟩
  rotate_left
  · have h2 := List.all_eq_true.1 h.2.1.2 e (by simpa using he)
    rw [hb] at h2
    simpa using h2
  have h1 := List.all_eq_true.1 h.2.2 k (List.mem_range.2 hk)
  obtain ⟨e, he, h2⟩ := List.any_eq_true.1 h1
  rw [Bool.and_eq_true] at h2
  exact ⟨e, by simpa using he, h2.1, by simpa using h2.2⟩
theorem push_getD_lt (l : Array Bool) (d : Bool) {i : Nat} (h : i < l.size) : (l.push false).getD i d = l.getD i d := by
  rw [Array.getD_eq_getD_getElem?, Array.getD_eq_getD_getElem?, Array.getElem?_push_lt h, Array.getElem?_eq_getElem h]
theorem push_getD_eq (l : Array Bool) (d : Bool) : (l.push false).getD l.size d = false := by
  rw [Array.getD_eq_getD_getElem?, Array.getElem?_push_size]; rfl
theorem ops_lt {pre : List Oper} {st : Oper} {i : Nat} (h : i < pre.length) : (pre ++ [st]).toArray[i]? = pre.toArray[i]? := by
  simp [List.getElem?_append_left h]
theorem ready_lt {pre : List Oper} {st : Oper} (hB : lastB pre st = true) {listed : Array Bool} (hs : listed.size = pre.length) {i : Nat} (hi : i ∈ Region.ready .any (pre ++ [st]).toArray (listed.push false)) :
    (i < pre.length ∧ i ∈ Region.ready .any pre.toArray listed) ∨ (i = pre.length ∧ ∀ k, k < pre.length → listed.getD k false = true) := by
  obtain ⟨h1, o, ho, h2⟩ := mem_ready.1 hi
  rcases Nat.lt_trichotomy i pre.length with h | h | h
  · left
    refine ⟨h, mem_ready.2 ⟨?_, o, ?_, fun e he hb => ?_⟩⟩
    · rw [← push_getD_lt listed true (by omega)]; exact h1
    · rw [← ops_lt (st := st) h]; exact ho
    · have hk : pre[i]? = some o := by rw [ops_lt h] at ho; simpa using ho
      have := (lastB_pre hB hk).2 e he hb
      rw [← push_getD_lt listed false (by omega)]
      exact h2 e he hb
  · right
    refine ⟨h, fun k hk => ?_⟩
    have hst : o = st := by
      rw [h] at ho
      simp at ho
      exact ho.symm
    subst hst
    obtain ⟨e, he, hb, rfl⟩ := (lastB_st hB).2.1 k hk
    rw [← push_getD_lt listed false (by omega)]
    exact h2 e he hb
  · exfalso
    rw [List.getElem?_toArray, List.getElem?_eq_none (by simp; omega)] at ho
    cases ho
theorem ready_back {pre : List Oper} {st : Oper} (hB : lastB pre st = true) {listed : Array Bool} (hs : listed.size = pre.length) {i : Nat} (hi : i ∈ Region.ready .any pre.toArray listed) : i ∈ Region.ready .any (pre ++ [st]).toArray (listed.push false) := by
  obtain ⟨h1, o, ho, h2⟩ := mem_ready.1 hi
  have h : i < pre.length := by
    have := (List.getElem?_eq_some_iff.1 (show pre[i]? = some o by simpa using ho)).1
    exact this
  refine mem_ready.2 ⟨?_, o, ?_, fun e he hb => ?_⟩
  · rw [push_getD_lt listed true (by omega)]; exact h1
  · rw [ops_lt h]; exact ho
  · have hk : pre[i]? = some o := by simpa using ho
    have := (lastB_pre hB hk).2 e he hb
    rw [push_getD_lt listed false (by omega)]
    exact h2 e he hb
theorem ready_nil {pre : List Oper} {st : Oper} (hB : lastB pre st = true) {listed : Array Bool} (hs : listed.size = pre.length) (hr : Region.ready .any pre.toArray listed = []) : ∀ k, k < pre.length → listed.getD k false = true := by
  intro k
  induction k using Nat.strongRecOn with
  | ind k ih =>
    intro hk
    have hk' : k < listed.size := by omega
    cases hl : listed.getD k false with
    | true => rfl
    | false =>
      exfalso
      obtain ⟨o, ho⟩ : ∃ o, pre[k]? = some o := ⟨_, List.getElem?_eq_getElem hk⟩
      have : k ∈ Region.ready .any pre.toArray listed := by
        refine mem_ready.2 ⟨?_, o, by simpa using ho, fun e he hb => ?_⟩
        · rw [Array.getD_eq_getD_getElem?, Array.getElem?_eq_getElem hk'] at hl ⊢; exact hl
        · have := (lastB_pre hB ho).2 e he hb
          exact ih e.on this (by omega)
      rw [hr] at this
      cases this
theorem push_set (l : Array Bool) {i : Nat} (h : i < l.size) : (l.push false).setIfInBounds i true = (l.setIfInBounds i true).push false := by
  apply Array.ext_getElem?
  intro j
  rw [Array.getElem?_setIfInBounds, Array.getElem?_push, Array.getElem?_push, Array.getElem?_setIfInBounds]
  simp only [Array.size_push, Array.size_setIfInBounds]
  by_cases e : i = j
  · subst e
    have h3 : ¬ i = l.size := by omega
    have h4 : i < l.size + 1 := by omega
    simp [h, h3, h4]
  · simp [e]
theorem wpAny_done {P : Program} {ops : Array Oper} {Q' : Exit → Act → World → Prop} {listed : Array Bool} (hr : Region.ready .any ops listed = []) {a : Act} {w : World} (h : Q' .normal a w) : ∀ f, wpAny P .any ops Q' f listed a w
  | 0 => ⟨hr, h⟩
  | f + 1 => ⟨fun _ => h, fun i hi => by rw [hr] at hi; cases hi⟩
theorem wpAny_last {P : Program} {pre : List Oper} {st : Oper} {C : World → Prop} {Q : Act → Prop} {Q' : Exit → Act → World → Prop} (hB : lastB pre st = true)
    (hQ : ∀ a w, C w → Q a → st.wp P a w (fun a' w' => Q' .normal a' w') Q') : ∀ (fuel : Nat) (listed : Array Bool) (a : Act) (w : World), listed.size = pre.length → C w →
    wpAnyQ P .any pre.toArray C Q fuel listed a → wpAny P .any (pre ++ [st]).toArray Q' (fuel + 1) (listed.push false) a w := by
  have done : ∀ (fuel : Nat) (listed : Array Bool) (a : Act) (w : World), listed.size = pre.length → C w → (∀ k, k < pre.length → listed.getD k false = true) → Q a → wpAny P .any (pre ++ [st]).toArray Q' (fuel + 1) (listed.push false) a w := by
    intro fuel listed a w hs hC hall hq
    obtain ⟨g1, g2, g3⟩ := lastB_st hB
    have hrn : pre.length ∈ Region.ready .any (pre ++ [st]).toArray (listed.push false) := by
      refine mem_ready.2 ⟨?_, st, by simp, fun e he hb => ?_⟩
      · rw [← hs]; exact push_getD_eq _ _
      · have := g3 e he hb
        rw [push_getD_lt listed false (by omega)]
        exact hall _ this
    refine ⟨fun hr => (by rw [hr] at hrn; cases hrn), fun i hi => ?_⟩
    have hin : i = pre.length := by
      rcases ready_lt hB hs hi with ⟨h1, h2⟩ | ⟨h1, _⟩
      · exfalso
        obtain ⟨h3, _⟩ := mem_ready.1 h2
        have h4 := hall i h1
        rw [Array.getD_eq_getD_getElem?, Array.getElem?_eq_getElem (by omega)] at h3 h4
        simp at h3 h4
        rw [h4] at h3
        cases h3
      · exact h1
    subst hin
    unfold wpOp
    have hget : (pre ++ [st]).toArray[pre.length]? = some st := by simp
    rw [hget]
    simp only
    rw [if_pos (by unfold Region.wanted; rw [g1])]
    refine Or.inl (Oper.wp_mono (fun a' w' h => ?_) (hQ a w hC hq))
    refine wpAny_done ?_ h fuel
    cases hrr : Region.ready .any (pre ++ [st]).toArray ((listed.push false).setIfInBounds pre.length true) with
    | nil => rfl
    | cons j js =>
      exfalso
      have hj : j ∈ Region.ready .any (pre ++ [st]).toArray ((listed.push false).setIfInBounds pre.length true) := by rw [hrr]; exact List.mem_cons_self
      obtain ⟨h3, o, ho, _⟩ := mem_ready.1 hj
      have hj2 : j < (pre ++ [st]).length := by
        have := (List.getElem?_eq_some_iff.1 (show (pre ++ [st])[j]? = some o by simpa using ho)).1
        exact this
      rw [List.length_append, List.length_singleton] at hj2
      rw [Array.getD_eq_getD_getElem?, Array.getElem?_setIfInBounds] at h3
      by_cases e : pre.length = j
      · rw [if_pos e, if_pos (by rw [Array.size_push]; omega)] at h3
        cases h3
      · rw [if_neg e, Array.getElem?_push_lt (by omega)] at h3
        have h4 := hall j (by omega)
        rw [Array.getD_eq_getD_getElem?, Array.getElem?_eq_getElem (by omega)] at h4
        simp at h3 h4
        rw [h4] at h3
        cases h3
  intro fuel
  induction fuel with
  | zero =>
    intro listed a w hs hC h
    exact done 0 listed a w hs hC (ready_nil hB hs h.1) h.2
  | succ fuel ih =>
    intro listed a w hs hC h
    cases hr : Region.ready .any pre.toArray listed with
    | nil => exact done (fuel + 1) listed a w hs hC (ready_nil hB hs hr) (h.1 hr)
    | cons j js =>
      have hj : j ∈ Region.ready .any pre.toArray listed := by rw [hr]; exact List.mem_cons_self
      refine ⟨fun hn => (by have := ready_back (st := st) hB hs hj; rw [hn] at this; cases this), fun i hi => ?_⟩
      rcases ready_lt hB hs hi with ⟨h1, h2⟩ | ⟨_, h2⟩
      · have hq := h.2 i h2
        obtain ⟨o, ho⟩ : ∃ o, pre[i]? = some o := ⟨_, List.getElem?_eq_getElem h1⟩
        have hg := (lastB_pre hB ho).1
        unfold qOp at hq
        unfold wpOp
        rw [ops_lt h1]
        rw [show pre.toArray[i]? = some o by simpa using ho] at hq ⊢
        simp only at hq ⊢
        have hwt : ∀ y, Region.wanted o y = true := fun y => by unfold Region.wanted; rw [hg]
        rw [if_pos (hwt _)] at hq ⊢
        refine Or.inl (Oper.wp_of_quiet hC (fun a' w' hC' hk => ?_) hq)
        rw [push_set listed (by omega)]
        exact ih (listed.setIfInBounds i true) a' w' (by simpa using hs) hC' hk
      · exfalso
        obtain ⟨h3, o, ho, _⟩ := mem_ready.1 hj
        have hj2 : j < pre.length := (List.getElem?_eq_some_iff.1 (show pre[j]? = some o by simpa using ho)).1
        have h4 := h2 j hj2
        rw [Array.getD_eq_getD_getElem?, Array.getElem?_eq_getElem (by omega)] at h3 h4
        simp at h3 h4
        rw [h4] at h3
        cases h3
/-- The region's wp: the walk of all operations but the last, each quiet in the worlds that differ by new blocks; then the last one. -/
theorem wp_region_last {P : Program} {id : Nat} {R : Exit → Act → World → Prop} {a : Act} {w : World} {l : List Oper} (pre : List Oper) (st : Oper) (hl : l = pre ++ [st]) (hm : P.follows .mixedOrders = true) (hB : Region.lexB .any pre.toArray = true) (hL : lastB pre st = true)
    (h : wpQuiet P pre.toArray (fun w' => ∃ n : QW w, w' = n.x) (fun a' => ∀ (n : QW w) (K : Act → World → Prop), (∀ a'' w'', R .normal a'' w'' → K a'' w'') → st.wp P a' n.x K R) pre a) : (Code.region id l.toArray true).wp P R a w := by
  subst hl
  refine wp_region_any hm ?_
  have hq := wpAnyQ_lex (C := fun w' => ∃ n : QW w, w' = n.x) (md := .any) (by simp only [Region.lexB, Bool.and_eq_true] at hB; exact hB.1) pre 0 (Array.replicate pre.length false) a (by simp) (by simp only [Region.lexB, Bool.and_eq_true] at hB; simpa using hB.2) h
  have := wpAny_last (Q' := R) hL (fun a' w' hC hq => by obtain ⟨n, rfl⟩ := hC; exact hq n _ (fun _ _ h => h)) pre.length (Array.replicate pre.length false) a w.drew (by simp) ⟨⟨w.drew, (Q.refl w).drew⟩, rfl⟩ hq
  have e : (Array.replicate pre.length false).push false = Array.replicate (pre ++ [st]).toArray.size false := by
    rw [show (pre ++ [st]).toArray.size = pre.length + 1 by simp, Array.replicate_succ]
  rw [e] at this
  simpa using this
theorem wp_region_lastn {P : Program} {id : Nat} {R : Exit → Act → World → Prop} {a : Act} {w : World} {l : List Oper} (n : Nat) (hn : l.length = n + 1) (st : Oper) (hst : l[n]? = some st) (hm : P.follows .mixedOrders = true) (hB : Region.lexB .any (l.take n).toArray = true) (hL : lastB (l.take n) st = true)
    (h : wpQuiet P (l.take n).toArray (fun w' => ∃ n : QW w, w' = n.x) (fun a' => ∀ (n : QW w) (K : Act → World → Prop), (∀ a'' w'', R .normal a'' w'' → K a'' w'') → st.wp P a' n.x K R) (l.take n) a) : (Code.region id l.toArray true).wp P R a w := by
  refine wp_region_last (l.take n) st ?_ hm hB hL h
  have h1 : n < l.length := by omega
  have h2 : l[n] = st := by rw [List.getElem?_eq_getElem h1] at hst; injection hst
  rw [← h2, List.take_append_getElem h1, List.take_of_length_le (by omega)]
end Go.Proofs.Ytdbbpmadkhedlaa
/- Worlds in which what was there is as it was. (QbW with Q for Below: where nothing is frozen anew; never import both.) -/
namespace Go.Proofs.Ytdbbpmadkhedlaa
open Go.RowKit
set_option linter.unusedVariables false
set_option linter.unusedSimpArgs false

/-- What was there is as it was; what is new is not frozen. -/
def Qb (w w' : World) : Prop := Q w w'
theorem Qb.refl (w : World) : Qb w w := Q.refl w
theorem Q.qb {w w' : World} (h : Q w w') : Qb w w' := h
theorem Qb.q {w w' : World} (h : Qb w w') : Q w w' := h
theorem Qb.trans {a b c : World} (h : Qb a b) (k : Qb b c) : Qb a c := Q.trans h k
theorem Qb.cell {a b : World} (h : Qb a b) {p : Addr} {v : Value} (hc : a.cell? p = some v) : b.cell? p = some v := Q.cell h hc
theorem Qb.frozen {a b : World} (h : Qb a b) {p : Addr} (hp : p.block < a.heap.size) : b.frozen? p = a.frozen? p := h.2 p
theorem Qb.sz {a b : World} (h : Qb a b) : a.heap.size ≤ b.heap.size := h.1.size
theorem Qb.set {a b : World} (h : Qb a b) {p : Addr} (hp : a.heap.size ≤ p.block) (v : Value) : Qb a (b.setCell p v) := Q.set h hp v
theorem Qb.drew {a b : World} (h : Qb a b) : Qb a b.drew := Q.drew h
theorem UIs.nextB {w w' : World} {g o : Nat} {l : List Nat} (h : UIs w g o l) (q : Qb w w') : UIs w' g o l := fun i hi => q.cell (h i hi)
theorem USl.nextB {w w' : World} {v : Value} {l : List Nat} (h : USl w v l) (q : Qb w w') : USl w' v l := by
  rcases h with ⟨g, o, cap, h1, h2, h3⟩ | h
  · exact Or.inl ⟨g, o, cap, h1, h2, fun i hi => q.cell (h3 i hi)⟩
  · exact Or.inr h
theorem VR.nextB {x x' : World} {g n : Nat} {F : Nat → Value} (h : VR x g n F) (hg : g < x.heap.size) (q : Qb x x') : VR x' g n F :=
  ⟨fun i hi => q.cell (h.cell i hi), fun j => by rw [q.frozen (by exact hg)]; exact h.free j⟩

theorem setcell_id {w : World} {b o : Nat} {v : Value} (h : w.cell? ⟨b, o, none⟩ = some v) : w.setCell ⟨b, o, none⟩ v = w := by
  have hh : w.heap.modify b (fun | .cells c e f => .cells (c.setIfInBounds o v) e f | x => x) = w.heap := by
    apply Array.ext_getElem?
    intro i
    rw [Array.getElem?_modify]
    by_cases hi : b = i
    · subst hi
      rw [if_pos rfl]
      unfold World.cell? at h
      cases hb : w.heap[b]? with
      | none => rfl
      | some ob =>
        rw [hb] at h
        cases ob with
        | cells c e f =>
          simp at h
          simp only [Option.map_some]
          congr 2
          apply Array.ext_getElem?
          intro k
          rw [Array.getElem?_setIfInBounds]
          split
          · rename_i hk; subst hk
            rw [h]
            split
            · rfl
            · rename_i hx; rw [Array.getElem?_eq_none (by omega)] at h; cases h
          · rfl
        | _ => rfl
    · rw [if_neg hi]
  refine Eq.trans ?_ (congrArg (fun z => ({ w with heap := z } : World)) hh)
  unfold World.setCell
  simp
  congr 1
  all_goals (funext ob; cases ob <;> rfl)
end Go.Proofs.Ytdbbpmadkhedlaa
