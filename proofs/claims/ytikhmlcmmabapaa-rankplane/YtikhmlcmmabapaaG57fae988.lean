/- rank: the chapter's examples, walked. -/
import Derived.Test.YtikhmlcmmabapaaG611d0859
import Derived.Test.YtikhmlcmmabapaaGcce89acd
import Derived.Test.YtikhmlcmmabapaaGcdd0fd8a
import Derived.Test.YtikhmlcmmabapaaG0b701d3b
namespace Go.Proofs.Ytikhmlcmmabapaa
open Go.RowKit
set_option linter.unusedVariables false
set_option linter.unusedSimpArgs false

theorem usl_vr {w : World} {g n : Nat} {V : Nat → Nat} {l : List Nat} (h : VR w g n (fun i => .int .u32 ((V i : Nat) : Int))) (hl : l.length = n) (hv : ∀ i, i < n → V i = l.getD i 0) : USl w (.slice (some ⟨g, 0, none⟩) n n) l :=
  Or.inl ⟨g, 0, n, by rw [hl], by omega, fun i hi => by rw [Nat.zero_add, ← hv i (by omega)]; exact h.cell i (by omega)⟩
theorem setcell_same {w : World} {b o : Nat} {v : Value} (h : w.cell? ⟨b, o, none⟩ = some v) : w.setCell ⟨b, o, none⟩ v = w := by
  have hh : w.heap.modify b (fun | .cells c e f => .cells (c.setIfInBounds o v) e f | x => x) = w.heap := by
    apply Array.ext_getElem?
    intro i
    rw [Array.getElem?_modify]
    by_cases hi : b = i
    · subst hi
      rw [if_pos rfl]
      unfold World.cell? at h
      cases hb : w.heap[b]? with
      | none => rfl
      | some ob =>
        rw [hb] at h
        cases ob with
        | cells c e f =>
          simp at h
          simp only [Option.map_some]
          congr 2
          apply Array.ext_getElem?
          intro k
          rw [Array.getElem?_setIfInBounds]
          split
          · rename_i hk; subst hk
            rw [h]
            split
            · rfl
            · rename_i hx; rw [Array.getElem?_eq_none (by omega)] at h; cases h
          · rfl
        | _ => rfl
    · rw [if_neg hi]
  refine Eq.trans ?_ (congrArg (fun z => ({ w with heap := z } : World)) hh)
  unfold World.setCell
  simp
  congr 1
  all_goals (funext ob; cases ob <;> rfl)
theorem kn_med (gp : Nat) (x : World) (h : USl x (.slice (some ⟨gp, 0, none⟩) 5 5) exS) :
    Calls Try.prog 12 #[.agg #[.int .i64 5, .int .i64 1, .slice (some ⟨gp, 0, none⟩) 5 5], .int .i64 1, .int .i64 3, .int .i64 1] x fun e w' => ∃ g, e = .returned (.tuple #[.agg #[.int .i64 5, .int .i64 1, .slice (some ⟨g, 0, none⟩) 5 5], .int .i64 0]) ∧ USl w' (.slice (some ⟨g, 0, none⟩) 5 5) [1065353216, 1065353216, 1073741824, 1073741824, 0] ∧ Qb x w' := by
  have hC := median_any 5 1 (some ⟨gp, 0, none⟩) 5 5 exS 1 3 1 x h rfl exS_lt (by decide)
  refine Calls.mono hC ?_
  rintro e w' ⟨a, b, ad', m, cc, E, rfl, hP⟩
  have h0 : rkE 5 1 5 1 3 1 (cntV 3 1 / 2) = 0 := by decide
  rw [h0] at hP
  obtain ⟨g, rfl, rfl, rfl, rfl, rfl, hV, _, _⟩ := hP.good rfl
  obtain rfl := hP.e
  exact ⟨g, rfl, usl_vr hV rfl ex_med, hP.q⟩
theorem kn_ero (gp : Nat) (x : World) (h : USl x (.slice (some ⟨gp, 0, none⟩) 5 5) exS) :
    Calls Try.prog 13 #[.agg #[.int .i64 5, .int .i64 1, .slice (some ⟨gp, 0, none⟩) 5 5], .int .i64 1, .int .i64 3, .int .i64 1] x fun e w' => ∃ g, e = .returned (.tuple #[.agg #[.int .i64 5, .int .i64 1, .slice (some ⟨g, 0, none⟩) 5 5], .int .i64 0]) ∧ USl w' (.slice (some ⟨g, 0, none⟩) 5 5) [2147483648, 2147483648, 2147483648, 0, 0] ∧ Qb x w' := by
  have hC := erode_any 5 1 (some ⟨gp, 0, none⟩) 5 5 exS 1 3 1 x h rfl exS_lt (by decide)
  refine Calls.mono hC ?_
  rintro e w' ⟨a, b, ad', m, cc, E, rfl, hP⟩
  have h0 : rkE 5 1 5 1 3 1 0 = 0 := by decide
  rw [h0] at hP
  obtain ⟨g, rfl, rfl, rfl, rfl, rfl, hV, _, _⟩ := hP.good rfl
  obtain rfl := hP.e
  exact ⟨g, rfl, usl_vr hV rfl ex_ero, hP.q⟩
theorem kn_dil (gp : Nat) (x : World) (h : USl x (.slice (some ⟨gp, 0, none⟩) 5 5) exS) :
    Calls Try.prog 14 #[.agg #[.int .i64 5, .int .i64 1, .slice (some ⟨gp, 0, none⟩) 5 5], .int .i64 1, .int .i64 3, .int .i64 1] x fun e w' => ∃ g, e = .returned (.tuple #[.agg #[.int .i64 5, .int .i64 1, .slice (some ⟨g, 0, none⟩) 5 5], .int .i64 0]) ∧ USl w' (.slice (some ⟨g, 0, none⟩) 5 5) [1065353216, 2143289345, 2143289345, 2143289345, 1073741824] ∧ Qb x w' := by
  have hC := dilate_any 5 1 (some ⟨gp, 0, none⟩) 5 5 exS 1 3 1 x h rfl exS_lt (by decide)
  refine Calls.mono hC ?_
  rintro e w' ⟨a, b, ad', m, cc, E, rfl, hP⟩
  have h0 : rkE 5 1 5 1 3 1 (cntV 3 1 - 1) = 0 := by decide
  rw [h0] at hP
  obtain ⟨g, rfl, rfl, rfl, rfl, rfl, hV, _, _⟩ := hP.good rfl
  obtain rfl := hP.e
  exact ⟨g, rfl, usl_vr hV rfl ex_dil, hP.q⟩
theorem kn_two (gp : Nat) (x : World) (h : USl x (.slice (some ⟨gp, 0, none⟩) 5 5) exS) :
    Calls Try.prog 9 #[.agg #[.int .i64 5, .int .i64 1, .slice (some ⟨gp, 0, none⟩) 5 5], .int .i64 1, .int .i64 2, .int .i64 1, .int .i64 0] x fun e w' => ∃ g, e = .returned (.tuple #[.agg #[.int .i64 5, .int .i64 1, .slice (some ⟨g, 0, none⟩) 5 5], .int .i64 0]) ∧ USl w' (.slice (some ⟨g, 0, none⟩) 5 5) [1065353216, 2147483648, 2147483648, 1073741824, 0] ∧ Qb x w' := by
  have hC := rplane_any 5 1 (some ⟨gp, 0, none⟩) 5 5 exS 1 2 1 0 x h rfl exS_lt (by decide)
  refine Calls.mono hC ?_
  rintro e w' ⟨a, b, ad', m, cc, E, rfl, hP⟩
  have h0 : rkE 5 1 5 1 2 1 0 = 0 := by decide
  rw [h0] at hP
  obtain ⟨g, rfl, rfl, rfl, rfl, rfl, hV, _, _⟩ := hP.good rfl
  obtain rfl := hP.e
  exact ⟨g, rfl, usl_vr hV rfl ex_two, hP.q⟩
theorem kn_part (gp : Nat) (x : World) (h : USl x (.slice (some ⟨gp, 0, none⟩) 5 5) exS) :
    Calls Try.prog 18 #[.agg #[.int .i64 5, .int .i64 1, .slice (some ⟨gp, 0, none⟩) 5 5], .int .i64 1, .int .i64 3, .int .i64 1, .int .i64 1, .agg #[.int .i64 1, .int .i64 0, .int .i64 3, .int .i64 1]] x fun e w' => ∃ g, e = .returned (.tuple #[.agg #[.int .i64 2, .int .i64 1, .slice (some ⟨g, 0, none⟩) 2 2], .int .i64 0]) ∧ USl w' (.slice (some ⟨g, 0, none⟩) 2 2) [1065353216, 1073741824] ∧ Qb x w' := by
  have hC := part_any 5 1 (some ⟨gp, 0, none⟩) 5 5 exS 1 3 1 1 1 0 3 1 x h rfl exS_lt (by decide)
  refine Calls.mono hC ?_
  rintro e w' ⟨a, b, ad', m, cc, E, rfl, hP⟩
  have h0 : paE 5 1 5 1 3 1 1 1 0 3 1 = 0 := by decide
  rw [h0] at hP
  obtain ⟨g, rfl, rfl, rfl, rfl, rfl, hV, _, _⟩ := hP.good rfl
  obtain rfl := hP.e
  exact ⟨g, rfl, usl_vr hV rfl (fun i (hi : i < 2) => by have : i = 0 ∨ i = 1 := (by omega); rcases this with rfl | rfl; exact ex_part.1; exact ex_part.2), hP.q⟩
theorem kn_e1 (gp : Nat) (x : World) (h : USl x (.slice (some ⟨gp, 0, none⟩) 5 5) exS) :
    Calls Try.prog 9 #[.agg #[.int .i64 5, .int .i64 1, .slice (some ⟨gp, 0, none⟩) 5 5], .int .i64 1, .int .i64 2, .int .i64 1, .int .i64 2] x fun e w' => e = .returned (.tuple #[.agg #[.int .i64 0, .int .i64 0, .slice none 0 0], .int .i64 121]) ∧ Qb x w' := by
  have hC := rplane_any 5 1 (some ⟨gp, 0, none⟩) 5 5 exS 1 2 1 2 x h rfl exS_lt (by decide)
  refine Calls.mono hC ?_
  rintro e w' ⟨a, b, ad', m, cc, E, rfl, hP⟩
  have h0 : rkE 5 1 5 1 2 1 2 = 121 := by decide
  rw [h0] at hP
  obtain ⟨rfl, rfl, rfl, rfl, rfl⟩ := hP.bad (by decide)
  obtain rfl := hP.e
  exact ⟨rfl, hP.q⟩
theorem kn_e2 (gp : Nat) (x : World) (h : USl x (.slice (some ⟨gp, 0, none⟩) 5 5) exS) :
    Calls Try.prog 9 #[.agg #[.int .i64 5, .int .i64 1, .slice (some ⟨gp, 0, none⟩) 5 5], .int .i64 1, .int .i64 16, .int .i64 1, .int .i64 0] x fun e w' => e = .returned (.tuple #[.agg #[.int .i64 0, .int .i64 0, .slice none 0 0], .int .i64 120]) ∧ Qb x w' := by
  have hC := rplane_any 5 1 (some ⟨gp, 0, none⟩) 5 5 exS 1 16 1 0 x h rfl exS_lt (by decide)
  refine Calls.mono hC ?_
  rintro e w' ⟨a, b, ad', m, cc, E, rfl, hP⟩
  have h0 : rkE 5 1 5 1 16 1 0 = 120 := by decide
  rw [h0] at hP
  obtain ⟨rfl, rfl, rfl, rfl, rfl⟩ := hP.bad (by decide)
  obtain rfl := hP.e
  exact ⟨rfl, hP.q⟩
theorem kn_at (gp : Nat) (x : World) (h : USl x (.slice (some ⟨gp, 0, none⟩) 5 5) exS) :
    Calls Try.prog 17 #[.agg #[.int .i64 5, .int .i64 1, .slice (some ⟨gp, 0, none⟩) 5 5], .int .i64 1, .int .i64 3, .int .i64 1, .int .i64 1, .int .i64 0, .int .i64 0] x fun e w' => e = .returned (.tuple #[.int .u32 1065353216, .int .i64 0]) ∧ Qb x w' := by
  have hC := at12_any 5 1 (some ⟨gp, 0, none⟩) 5 5 exS 1 3 1 1 0 0 x h rfl exS_lt (by decide)
  have h0 : atE 5 1 5 1 3 1 1 0 0 = 0 := by decide
  have h1 : atW exS 5 1 5 1 3 1 1 0 0 = 1065353216 := by
    unfold atW
    rw [if_pos h0]
    exact ex_at
  rw [h0, h1] at hC
  exact hC
theorem kn_sorted (gp : Nat) (x : World) (h : USl x (.slice (some ⟨gp, 0, none⟩) 5 5) [1073741824, 2147483648, 4294967295, 0, 1065353216]) :
    Calls Try.prog 20 #[.slice (some ⟨gp, 0, none⟩) 5 5] x fun e w' => ∃ g, e = .returned (.slice (some ⟨g, 0, none⟩) 5 5) ∧ USl w' (.slice (some ⟨g, 0, none⟩) 5 5) [4294967295, 2147483648, 0, 1065353216, 1073741824] ∧ Qb x w' := by
  refine Calls.mono (sorted_any _ 5 5 _ x rfl h (by decide) (by decide)) ?_
  rintro e w' ⟨g, rfl, hI, _, _, _, q⟩
  rw [ex_sorted] at hI
  exact ⟨g, rfl, hI.usl (by decide), q⟩
/-- A literal list of five samples. -/
theorem lit5 (w : World) (a b c d e : Nat) : USl (w.alloc (.cells #[.int .u32 (a : Int), .int .u32 (b : Int), .int .u32 (c : Int), .int .u32 (d : Int), .int .u32 (e : Int)] 38)) (.slice (some ⟨w.heap.size, 0, none⟩) 5 5) [a, b, c, d, e] :=
  Or.inl ⟨w.heap.size, 0, 5, rfl, Nat.le_refl _, fun i hi => by
    have hi : i < 5 := hi
    have : i = 0 ∨ i = 1 ∨ i = 2 ∨ i = 3 ∨ i = 4 := by omega
    rcases this with rfl | rfl | rfl | rfl | rfl <;> simp [go_sem]⟩
theorem lit2 (w : World) (a b : Nat) : USl (w.alloc (.cells #[.int .u32 (a : Int), .int .u32 (b : Int)] 38)) (.slice (some ⟨w.heap.size, 0, none⟩) 2 2) [a, b] :=
  Or.inl ⟨w.heap.size, 0, 2, rfl, Nat.le_refl _, fun i hi => by
    have hi : i < 2 := hi
    have : i = 0 ∨ i = 1 := by omega
    rcases this with rfl | rfl <;> simp [go_sem]⟩
set_option maxHeartbeats 8000000 in
set_option maxRecDepth 100000 in
theorem known12_any (w : World) : Calls Try.prog 5 #[] w fun e w' => e = .returned (.bool true) ∧ Qb w w' := by
  obtain ⟨gp, hgp⟩ : ∃ gp, w.heap.size = gp := ⟨_, rfl⟩
  obtain ⟨w1, hw1⟩ : ∃ w1, w.alloc (.cells #[.int .u32 1065353216, .int .u32 2147483648, .int .u32 2143289345, .int .u32 1073741824, .int .u32 0] 38) = w1 := ⟨_, rfl⟩
  obtain ⟨bp, hbp⟩ : ∃ bp, w1.heap.size = bp := ⟨_, rfl⟩
  obtain ⟨w2, hw2⟩ : ∃ w2, w1.alloc (.cells #[.int .i64 5, .int .i64 1, .slice (some ⟨gp, 0, none⟩) 5 5] 24) = w2 := ⟨_, rfl⟩
  have HQ : Hid (Qb w w2 ∧ w2.cell? ⟨bp, 0, none⟩ = some (.int .i64 5) ∧ w2.cell? ⟨bp, 1, none⟩ = some (.int .i64 1) ∧ w2.cell? ⟨bp, 2, none⟩ = some (.slice (some ⟨gp, 0, none⟩) 5 5) ∧ USl w2 (.slice (some ⟨gp, 0, none⟩) 5 5) exS) := by
    have u := lit5 w 1065353216 2147483648 2143289345 1073741824 0
    have u : USl w1 (.slice (some ⟨gp, 0, none⟩) 5 5) exS := by rw [← hw1, ← hgp]; exact u
    rw [← hw2, ← hbp]
    refine ⟨?_, by simp [go_sem], by simp [go_sem], by simp [go_sem], u.nextB ((Qb.refl w1).alloc _)⟩
    rw [← hw1]
    exact ((Qb.refl w).alloc _).alloc _
  have k0 := HQ.out.2.1
  have k1 := HQ.out.2.2.1
  have k2 := HQ.out.2.2.2.1
  go_enter Try.func5, Try.ntmps5
  go_wp2_with fail
  clear hw1 hw2
  have HQw : Hid (Qb w w2) := HQ.out.1
  clear hbp hgp
  refine Calls.mono (kn_med gp _ (HQ.out.2.2.2.2.nextB (Qb.refl w2))) ?_
  rintro e x0 ⟨ga, rfl, hua, r0⟩
  obtain ⟨z0, hz0⟩ : ∃ z0, x0.alloc (.cells #[.int .i64 5, .int .i64 1, .slice (some ⟨ga, 0, none⟩) 5 5] 24) = z0 := ⟨_, rfl⟩
  have hq0 : Qb x0 z0 := by rw [← hz0]; exact (Qb.refl x0).alloc _
  have HUa : Hid (USl z0 (.slice (some ⟨ga, 0, none⟩) 5 5) [1065353216, 1065353216, 1073741824, 1073741824, 0] ∧ z0.cell? ⟨x0.heap.size, 2, none⟩ = some (.slice (some ⟨ga, 0, none⟩) 5 5)) := ⟨hua.nextB hq0, by rw [← hz0]; simp [go_sem]⟩
  have HB0 : Hid (Qb w2 z0 ∧ Qb w2 z0) := ⟨Qb.trans (Qb.refl w2) (r0.trans hq0), r0.trans hq0⟩
  have k0 := HB0.out.2.cell k0
  have k1 := HB0.out.2.cell k1
  have k2 := HB0.out.2.cell k2
  clear hua r0 hq0
  go_wp2_with fail
  clear hz0
  refine Calls.mono (kn_ero gp _ (HQ.out.2.2.2.2.nextB HB0.out.1)) ?_
  rintro e x1 ⟨gb, rfl, hub, r1⟩
  obtain ⟨z1, hz1⟩ : ∃ z1, x1.alloc (.cells #[.int .i64 5, .int .i64 1, .slice (some ⟨gb, 0, none⟩) 5 5] 24) = z1 := ⟨_, rfl⟩
  have hq1 : Qb x1 z1 := by rw [← hz1]; exact (Qb.refl x1).alloc _
  have HUb : Hid (USl z1 (.slice (some ⟨gb, 0, none⟩) 5 5) [2147483648, 2147483648, 2147483648, 0, 0] ∧ z1.cell? ⟨x1.heap.size, 2, none⟩ = some (.slice (some ⟨gb, 0, none⟩) 5 5)) := ⟨hub.nextB hq1, by rw [← hz1]; simp [go_sem]⟩
  have HB1 : Hid (Qb w2 z1 ∧ Qb z0 z1) := ⟨Qb.trans HB0.out.1 (r1.trans hq1), r1.trans hq1⟩
  have k0 := HB1.out.2.cell k0
  have k1 := HB1.out.2.cell k1
  have k2 := HB1.out.2.cell k2
  clear hub r1 hq1
  go_wp2_with fail
  clear hz1
  refine Calls.mono (kn_dil gp _ (HQ.out.2.2.2.2.nextB HB1.out.1)) ?_
  rintro e x2 ⟨gc, rfl, huc, r2⟩
  obtain ⟨z2, hz2⟩ : ∃ z2, x2.alloc (.cells #[.int .i64 5, .int .i64 1, .slice (some ⟨gc, 0, none⟩) 5 5] 24) = z2 := ⟨_, rfl⟩
  have hq2 : Qb x2 z2 := by rw [← hz2]; exact (Qb.refl x2).alloc _
  have HUc : Hid (USl z2 (.slice (some ⟨gc, 0, none⟩) 5 5) [1065353216, 2143289345, 2143289345, 2143289345, 1073741824] ∧ z2.cell? ⟨x2.heap.size, 2, none⟩ = some (.slice (some ⟨gc, 0, none⟩) 5 5)) := ⟨huc.nextB hq2, by rw [← hz2]; simp [go_sem]⟩
  have HB2 : Hid (Qb w2 z2 ∧ Qb z1 z2) := ⟨Qb.trans HB1.out.1 (r2.trans hq2), r2.trans hq2⟩
  have k0 := HB2.out.2.cell k0
  have k1 := HB2.out.2.cell k1
  have k2 := HB2.out.2.cell k2
  clear huc r2 hq2
  go_wp2_with fail
  clear hz2
  refine Calls.mono (kn_two gp _ (HQ.out.2.2.2.2.nextB HB2.out.1)) ?_
  rintro e x3 ⟨gd, rfl, hud, r3⟩
  obtain ⟨z3, hz3⟩ : ∃ z3, x3.alloc (.cells #[.int .i64 5, .int .i64 1, .slice (some ⟨gd, 0, none⟩) 5 5] 24) = z3 := ⟨_, rfl⟩
  have hq3 : Qb x3 z3 := by rw [← hz3]; exact (Qb.refl x3).alloc _
  have HUd : Hid (USl z3 (.slice (some ⟨gd, 0, none⟩) 5 5) [1065353216, 2147483648, 2147483648, 1073741824, 0] ∧ z3.cell? ⟨x3.heap.size, 2, none⟩ = some (.slice (some ⟨gd, 0, none⟩) 5 5)) := ⟨hud.nextB hq3, by rw [← hz3]; simp [go_sem]⟩
  have HB3 : Hid (Qb w2 z3 ∧ Qb z2 z3) := ⟨Qb.trans HB2.out.1 (r3.trans hq3), r3.trans hq3⟩
  have k0 := HB3.out.2.cell k0
  have k1 := HB3.out.2.cell k1
  have k2 := HB3.out.2.cell k2
  clear hud r3 hq3
  go_wp2_with fail
  clear hz3
  refine Calls.mono (kn_e1 gp _ (HQ.out.2.2.2.2.nextB HB3.out.1)) ?_
  rintro e x4 ⟨rfl, r4⟩
  obtain ⟨z4, hz4⟩ : ∃ z4, x4.alloc (.cells #[.int .i64 0, .int .i64 0, .slice none 0 0] 24) = z4 := ⟨_, rfl⟩
  have hq4 : Qb x4 z4 := by rw [← hz4]; exact (Qb.refl x4).alloc _
  have HB4 : Hid (Qb w2 z4 ∧ Qb z3 z4) := ⟨Qb.trans HB3.out.1 (r4.trans hq4), r4.trans hq4⟩
  have k0 := HB4.out.2.cell k0
  have k1 := HB4.out.2.cell k1
  have k2 := HB4.out.2.cell k2
  have m0 : z4.cell? ⟨x4.heap.size, 0, none⟩ = some (.int .i64 0) := by rw [← hz4]; simp [go_sem]
  have m1 : z4.cell? ⟨x4.heap.size, 1, none⟩ = some (.int .i64 0) := by rw [← hz4]; simp [go_sem]
  have m2 : z4.cell? ⟨x4.heap.size, 2, none⟩ = some (.slice none 0 0) := by rw [← hz4]; simp [go_sem]
  have mf0 : z4.frozen? ⟨x4.heap.size, 0, none⟩ = false := by rw [← hz4]; simp [go_sem]
  have mf1 : z4.frozen? ⟨x4.heap.size, 1, none⟩ = false := by rw [← hz4]; simp [go_sem]
  have mf2 : z4.frozen? ⟨x4.heap.size, 2, none⟩ = false := by rw [← hz4]; simp [go_sem]
  have ms0 := setcell_same m0
  have ms1 := setcell_same m1
  have ms2 := setcell_same m2
  clear r4 hq4
  go_wp2_with fail
  clear hz4
  refine Calls.mono (kn_e2 gp _ (HQ.out.2.2.2.2.nextB HB4.out.1)) ?_
  rintro e x5 ⟨rfl, r5⟩
  obtain ⟨z5, hz5⟩ : ∃ z5, x5.alloc (.cells #[.int .i64 0, .int .i64 0, .slice none 0 0] 24) = z5 := ⟨_, rfl⟩
  have hq5 : Qb x5 z5 := by rw [← hz5]; exact (Qb.refl x5).alloc _
  have HB5 : Hid (Qb w2 z5 ∧ Qb z4 z5) := ⟨Qb.trans HB4.out.1 (r5.trans hq5), r5.trans hq5⟩
  have k0 := HB5.out.2.cell k0
  have k1 := HB5.out.2.cell k1
  have k2 := HB5.out.2.cell k2
  have m0 : z5.cell? ⟨x5.heap.size, 0, none⟩ = some (.int .i64 0) := by rw [← hz5]; simp [go_sem]
  have m1 : z5.cell? ⟨x5.heap.size, 1, none⟩ = some (.int .i64 0) := by rw [← hz5]; simp [go_sem]
  have m2 : z5.cell? ⟨x5.heap.size, 2, none⟩ = some (.slice none 0 0) := by rw [← hz5]; simp [go_sem]
  have mf0 : z5.frozen? ⟨x5.heap.size, 0, none⟩ = false := by rw [← hz5]; simp [go_sem]
  have mf1 : z5.frozen? ⟨x5.heap.size, 1, none⟩ = false := by rw [← hz5]; simp [go_sem]
  have mf2 : z5.frozen? ⟨x5.heap.size, 2, none⟩ = false := by rw [← hz5]; simp [go_sem]
  have ms0 := setcell_same m0
  have ms1 := setcell_same m1
  have ms2 := setcell_same m2
  clear r5 hq5
  go_wp2_with fail
  clear hz5
  refine Calls.mono (kn_at gp _ (HQ.out.2.2.2.2.nextB HB5.out.1)) ?_
  rintro e x6 ⟨rfl, r6⟩
  have HB6 : Hid (Qb w2 x6 ∧ Qb z5 x6) := ⟨Qb.trans HB5.out.1 r6, r6⟩
  have k0 := HB6.out.2.cell k0
  have k1 := HB6.out.2.cell k1
  have k2 := HB6.out.2.cell k2
  clear r6
  go_wp2_with fail
  refine Calls.mono (kn_part gp _ (HQ.out.2.2.2.2.nextB HB6.out.1)) ?_
  rintro e x7 ⟨gq, rfl, huq, r7⟩
  obtain ⟨z7, hz7⟩ : ∃ z7, x7.alloc (.cells #[.int .i64 2, .int .i64 1, .slice (some ⟨gq, 0, none⟩) 2 2] 24) = z7 := ⟨_, rfl⟩
  have hq7 : Qb x7 z7 := by rw [← hz7]; exact (Qb.refl x7).alloc _
  have HUq : Hid (USl z7 (.slice (some ⟨gq, 0, none⟩) 2 2) [1065353216, 1073741824] ∧ z7.cell? ⟨x7.heap.size, 2, none⟩ = some (.slice (some ⟨gq, 0, none⟩) 2 2)) := ⟨huq.nextB hq7, by rw [← hz7]; simp [go_sem]⟩
  have HB7 : Hid (Qb w2 z7 ∧ Qb x6 z7) := ⟨Qb.trans HB6.out.1 (r7.trans hq7), r7.trans hq7⟩
  have k0 := HB7.out.2.cell k0
  have k1 := HB7.out.2.cell k1
  have k2 := HB7.out.2.cell k2
  clear huq r7 hq7
  have j2 := HUq.out.2
  go_wp2_with fail
  clear hz7
  have C17 : Hid (Qb z0 z7 ∧ Qb z1 z7 ∧ Qb z2 z7 ∧ Qb z3 z7) := ⟨HB1.out.2.trans (HB2.out.2.trans (HB3.out.2.trans (HB4.out.2.trans (HB5.out.2.trans (HB6.out.2.trans HB7.out.2))))), HB2.out.2.trans (HB3.out.2.trans (HB4.out.2.trans (HB5.out.2.trans (HB6.out.2.trans HB7.out.2)))), HB3.out.2.trans (HB4.out.2.trans (HB5.out.2.trans (HB6.out.2.trans HB7.out.2))), HB4.out.2.trans (HB5.out.2.trans (HB6.out.2.trans HB7.out.2))⟩
  clear k0 k1 k2 j2
  have CHq0 := Qb.refl z7
  have u0 : USl (z7.alloc (.cells #[.int .u32 1065353216, .int .u32 1073741824] 38)) (.slice (some ⟨z7.heap.size, 0, none⟩) 2 2) [1065353216, 1073741824] := lit2 z7 1065353216 1073741824
  have q0 : Qb z7 (z7.alloc (.cells #[.int .u32 1065353216, .int .u32 1073741824] 38)) := (Qb.refl z7).alloc _
  refine Calls.mono (words_eq _ _ _ _ (HUq.out.1.nextB (Qb.trans CHq0 q0)) u0 (by decide)) ?_
  rintro e y0 ⟨rfl, r0⟩
  have HY0 : Hid (Qb z7 y0) := q0.trans r0.qb
  clear u0 q0 r0
  clear CHq0
  go_wp2_with fail
  have us : USl (y0.alloc (.cells #[.int .u32 1073741824, .int .u32 2147483648, .int .u32 4294967295, .int .u32 0, .int .u32 1065353216] 38)) (.slice (some ⟨y0.heap.size, 0, none⟩) 5 5) [1073741824, 2147483648, 4294967295, 0, 1065353216] := lit5 y0 1073741824 2147483648 4294967295 0 1065353216
  have qs : Qb y0 (y0.alloc (.cells #[.int .u32 1073741824, .int .u32 2147483648, .int .u32 4294967295, .int .u32 0, .int .u32 1065353216] 38)) := (Qb.refl y0).alloc _
  refine Calls.mono (kn_sorted _ _ us) ?_
  rintro e yl ⟨gl, rfl, hul, rl⟩
  have HUl : Hid (USl yl (.slice (some ⟨gl, 0, none⟩) 5 5) [4294967295, 2147483648, 0, 1065353216, 1073741824] ∧ True) := ⟨hul, trivial⟩
  have HYl : Hid (Qb z7 yl) := HY0.out.trans (qs.trans rl)
  have ja := (C17.out.1.trans HYl.out).cell HUa.out.2
  clear us qs hul rl
  go_wp2_with fail
  have CHa1 := C17.out.1.trans HYl.out
  have u1 : USl (yl.alloc (.cells #[.int .u32 1065353216, .int .u32 1065353216, .int .u32 1073741824, .int .u32 1073741824, .int .u32 0] 38)) (.slice (some ⟨yl.heap.size, 0, none⟩) 5 5) [1065353216, 1065353216, 1073741824, 1073741824, 0] := lit5 yl 1065353216 1065353216 1073741824 1073741824 0
  have q1 : Qb yl (yl.alloc (.cells #[.int .u32 1065353216, .int .u32 1065353216, .int .u32 1073741824, .int .u32 1073741824, .int .u32 0] 38)) := (Qb.refl yl).alloc _
  refine Calls.mono (words_eq _ _ _ _ (HUa.out.1.nextB (Qb.trans CHa1 q1)) u1 (by decide)) ?_
  rintro e y1 ⟨rfl, r1⟩
  have HY1 : Hid (Qb yl y1) := q1.trans r1.qb
  clear u1 q1 r1
  clear CHa1
  have jb := (C17.out.2.1.trans (HYl.out.trans HY1.out)).cell HUb.out.2
  go_wp2_with fail
  have CHb2 := C17.out.2.1.trans (HYl.out.trans HY1.out)
  have u2 : USl (y1.alloc (.cells #[.int .u32 2147483648, .int .u32 2147483648, .int .u32 2147483648, .int .u32 0, .int .u32 0] 38)) (.slice (some ⟨y1.heap.size, 0, none⟩) 5 5) [2147483648, 2147483648, 2147483648, 0, 0] := lit5 y1 2147483648 2147483648 2147483648 0 0
  have q2 : Qb y1 (y1.alloc (.cells #[.int .u32 2147483648, .int .u32 2147483648, .int .u32 2147483648, .int .u32 0, .int .u32 0] 38)) := (Qb.refl y1).alloc _
  refine Calls.mono (words_eq _ _ _ _ (HUb.out.1.nextB (Qb.trans CHb2 q2)) u2 (by decide)) ?_
  rintro e y2 ⟨rfl, r2⟩
  have HY2 : Hid (Qb y1 y2) := q2.trans r2.qb
  clear u2 q2 r2
  clear CHb2
  have jc := (C17.out.2.2.1.trans ((HYl.out.trans HY1.out).trans HY2.out)).cell HUc.out.2
  go_wp2_with fail
  have CHc3 := C17.out.2.2.1.trans ((HYl.out.trans HY1.out).trans HY2.out)
  have u3 : USl (y2.alloc (.cells #[.int .u32 1065353216, .int .u32 2143289345, .int .u32 2143289345, .int .u32 2143289345, .int .u32 1073741824] 38)) (.slice (some ⟨y2.heap.size, 0, none⟩) 5 5) [1065353216, 2143289345, 2143289345, 2143289345, 1073741824] := lit5 y2 1065353216 2143289345 2143289345 2143289345 1073741824
  have q3 : Qb y2 (y2.alloc (.cells #[.int .u32 1065353216, .int .u32 2143289345, .int .u32 2143289345, .int .u32 2143289345, .int .u32 1073741824] 38)) := (Qb.refl y2).alloc _
  refine Calls.mono (words_eq _ _ _ _ (HUc.out.1.nextB (Qb.trans CHc3 q3)) u3 (by decide)) ?_
  rintro e y3 ⟨rfl, r3⟩
  have HY3 : Hid (Qb y2 y3) := q3.trans r3.qb
  clear u3 q3 r3
  clear CHc3
  have jd := (C17.out.2.2.2.trans (((HYl.out.trans HY1.out).trans HY2.out).trans HY3.out)).cell HUd.out.2
  go_wp2_with fail
  have CHd4 := C17.out.2.2.2.trans (((HYl.out.trans HY1.out).trans HY2.out).trans HY3.out)
  have u4 : USl (y3.alloc (.cells #[.int .u32 1065353216, .int .u32 2147483648, .int .u32 2147483648, .int .u32 1073741824, .int .u32 0] 38)) (.slice (some ⟨y3.heap.size, 0, none⟩) 5 5) [1065353216, 2147483648, 2147483648, 1073741824, 0] := lit5 y3 1065353216 2147483648 2147483648 1073741824 0
  have q4 : Qb y3 (y3.alloc (.cells #[.int .u32 1065353216, .int .u32 2147483648, .int .u32 2147483648, .int .u32 1073741824, .int .u32 0] 38)) := (Qb.refl y3).alloc _
  refine Calls.mono (words_eq _ _ _ _ (HUd.out.1.nextB (Qb.trans CHd4 q4)) u4 (by decide)) ?_
  rintro e y4 ⟨rfl, r4⟩
  have HY4 : Hid (Qb y3 y4) := q4.trans r4.qb
  clear u4 q4 r4
  clear CHd4
  go_wp2_with fail
  have CHl5 := (Qb.trans (Qb.trans (Qb.trans (Qb.trans (Qb.refl yl) HY1.out) HY2.out) HY3.out) HY4.out)
  have u5 : USl (y4.alloc (.cells #[.int .u32 4294967295, .int .u32 2147483648, .int .u32 0, .int .u32 1065353216, .int .u32 1073741824] 38)) (.slice (some ⟨y4.heap.size, 0, none⟩) 5 5) [4294967295, 2147483648, 0, 1065353216, 1073741824] := lit5 y4 4294967295 2147483648 0 1065353216 1073741824
  have q5 : Qb y4 (y4.alloc (.cells #[.int .u32 4294967295, .int .u32 2147483648, .int .u32 0, .int .u32 1065353216, .int .u32 1073741824] 38)) := (Qb.refl y4).alloc _
  refine Calls.mono (words_eq _ _ _ _ (HUl.out.1.nextB (Qb.trans CHl5 q5)) u5 (by decide)) ?_
  rintro e y5 ⟨rfl, r5⟩
  have HY5 : Hid (Qb y4 y5) := q5.trans r5.qb
  clear u5 q5 r5
  clear CHl5
  go_wp2_with fail
  go_ret
  exact ⟨rfl, HQw.out.trans (HB7.out.1.trans (((((HYl.out.trans HY1.out).trans HY2.out).trans HY3.out).trans HY4.out).trans HY5.out))⟩
end Go.Proofs.Ytikhmlcmmabapaa
/- The document's At. -/
namespace Go.Proofs.Ytikhmlcmmabapaa
open Go.RowKit
end Go.Proofs.Ytikhmlcmmabapaa
/- rank: what is looked at; errors of the least and the greatest. -/
namespace Go.Proofs.Ytikhmlcmmabapaa
open Go.RowKit
set_option linter.unusedVariables false
set_option linter.unusedSimpArgs false

def smlR (pw ph : Int) (n : Nat) : Bool := decide ((n : Int) ≤ 2000) && decide (pw ≤ 4000) && decide (ph ≤ 4000)
set_option maxHeartbeats 2000000 in
theorem small12_any (pw ph : Int) (ad : Option Addr) (n c : Nat) (w : World) : Calls Try.prog 6 #[.agg #[.int .i64 pw, .int .i64 ph, .slice ad n c]] w fun e w' => e = .returned (.bool (smlR pw ph n)) ∧ Q w w' := by
  have HQ : Hid (∀ a b, Q w (w.alloc (.cells a b))) := fun a b => (Q.refl w).cells _ _
  unfold smlR
  by_cases h1 : (n : Int) ≤ 2000
  · by_cases h2 : pw ≤ 4000
    · by_cases h3 : ph ≤ 4000
      · simp only [h1, h2, h3, decide_true, Bool.and_true, Bool.true_and]
        go_enter Try.func6, Try.ntmps6
        go_wp2_with fail
        go_ret
        exact ⟨rfl, HQ.out _ _⟩
      · simp only [h1, h2, h3, decide_true, decide_false, Bool.and_true, Bool.true_and, Bool.and_false]
        go_enter Try.func6, Try.ntmps6
        go_wp2_with fail
        go_ret
        exact ⟨rfl, HQ.out _ _⟩
    · simp only [h1, h2, decide_true, decide_false, Bool.and_true, Bool.true_and, Bool.and_false, Bool.false_and]
      go_enter Try.func6, Try.ntmps6
      go_wp2_with fail
      go_ret
      exact ⟨rfl, HQ.out _ _⟩
  · simp only [h1, decide_false, Bool.false_and]
    go_enter Try.func6, Try.ntmps6
    go_wp2_with fail
    go_ret
    exact ⟨rfl, HQ.out _ _⟩
theorem rkE_most (pw ph : Int) (n : Nat) (bd W H : Int) : rkE pw ph n bd W H (cntV W H - 1) = rkE pw ph n bd W H 0 := by
  unfold rkE
  by_cases h0 : chk pw ph n = 0
  · rw [if_pos h0, if_pos h0]
    by_cases h1 : cntV W H = 0
    · rw [if_pos h1, if_pos h1]
    · have := cntV_bd W H
      rw [if_neg h1, if_neg h1, if_neg (by omega), if_neg (by omega), if_neg (by omega), if_neg (by omega)]
  · rw [if_neg h0, if_neg h0]
theorem borE_val (bd n : Int) : borE bd n = 0 ∨ borE bd n = 50 ∨ borE bd n = 53 := by
  unfold borE
  split
  · split
    · exact Or.inl rfl
    · exact Or.inr (Or.inl rfl)
  · exact Or.inr (Or.inr rfl)
/-- What is right stays right with other windows. -/
theorem rkE_good {pa pb b wa ha kk : Nat} (hsz : Size pa pb) (hb : b = 1 ∨ b = 2 ∨ b = 3) (a1 : 1 ≤ wa) (a2 : wa ≤ 15) (b1 : 1 ≤ ha) (b2 : ha ≤ 15) (hk : kk < wa * ha) : rkE pa pb (pa * pb) b wa ha kk = 0 := by
  unfold rkE
  have hc := cntV_of a1 a2 b1 b2
  have hp : 1 ≤ wa * ha := Nat.mul_pos a1 b1
  rw [if_pos (chk_size hsz), hc, if_neg (by omega), if_neg (by omega), if_neg (by omega)]
  unfold borE
  have h1 := hsz.a1
  have h2 := hsz.a2
  rw [if_pos (by omega), if_pos (sideB_true.2 ⟨by omega, by omega⟩)]
end Go.Proofs.Ytikhmlcmmabapaa
/- rank: answers where nothing is refused, and where something is. -/
namespace Go.Proofs.Ytikhmlcmmabapaa
open Go.RowKit
set_option linter.unusedVariables false
set_option linter.unusedSimpArgs false

/-- What is answered where nothing is refused. -/
def Rgd (x : World) (pa pb n : Nat) (L : List Nat) (e : Ending) (w' : World) : Prop := ∃ g, e = .returned (.tuple #[.agg #[.int .i64 (pa : Int), .int .i64 (pb : Int), .slice (some ⟨g, 0, none⟩) n n], .int .i64 0]) ∧ (UIs w' g 0 L ∧ x.heap.size ≤ g ∧ g < w'.heap.size ∧ ∀ j, w'.frozen? ⟨g, j, none⟩ = false) ∧ Qb x w'
theorem Pans.gd {x w' : World} {pa pb n : Nat} {S : List Nat} {bd wa ha k : Nat} {a b : Int} {ad : Option Addr} {m cc : Nat} {E : Int} (hn : n = pa * pb) (h : Pans x w' 0 pa pb (fun i => rnkV S pa pb bd wa ha k (i % pa) (i / pa)) a b ad m cc E) : Rgd x pa pb n (rnkL S pa pb bd wa ha k) (.returned (.tuple #[.agg #[.int .i64 a, .int .i64 b, .slice ad m cc], .int .i64 E])) w' := by
  obtain ⟨g, rfl, rfl, rfl, rfl, rfl, hV, h1, h2⟩ := h.good rfl
  obtain rfl := h.e
  subst hn
  refine ⟨g, rfl, ⟨fun i hi => ?_, h1, h2, hV.free⟩, h.q⟩
  rw [rnkL_len] at hi
  rw [Nat.zero_add, hV.cell i hi]
  unfold rnkL
  rw [tab_get hi]
def Rbd (x : World) (E : Int) (e : Ending) (w' : World) : Prop := e = .returned (.tuple #[.agg #[.int .i64 0, .int .i64 0, .slice none 0 0], .int .i64 E]) ∧ Qb x w'
theorem Pans.bd {x w' : World} {E0 : Int} {c d : Nat} {V : Nat → Nat} {a b : Int} {ad : Option Addr} {m cc : Nat} {E : Int} (h0 : E0 ≠ 0) (h : Pans x w' E0 c d V a b ad m cc E) : Rbd x E0 (.returned (.tuple #[.agg #[.int .i64 a, .int .i64 b, .slice ad m cc], .int .i64 E])) w' := by
  obtain ⟨rfl, rfl, rfl, rfl, rfl⟩ := h.bad h0
  obtain rfl := h.e
  exact ⟨rfl, h.q⟩
section
variable {pa pb b wa ha n c : Nat} {S : List Nat} {x : World} {g o : Nat}
theorem plane_gd {kk : Nat} (hU : UIs x g o S) (hcap : n ≤ c) (hS : S.length = n) (hn : n = pa * pb) (hSb : ∀ i, S.getD i 0 < 4294967296) (hsz : Size pa pb) (hb : b = 1 ∨ b = 2 ∨ b = 3) (a1 : 1 ≤ wa) (a2 : wa ≤ 15) (b1 : 1 ≤ ha) (b2 : ha ≤ 15) (hk : kk < wa * ha) :
    Calls Try.prog 9 #[.agg #[.int .i64 (pa : Int), .int .i64 (pb : Int), .slice (some ⟨g, o, none⟩) n c], .int .i64 (b : Int), .int .i64 (wa : Int), .int .i64 (ha : Int), .int .i64 (kk : Int)] x (Rgd x pa pb n (rnkL S pa pb b wa ha kk)) := by
  have hu : USl x (.slice (some ⟨g, o, none⟩) n c) S := by have := hU.usl (cap := c) (by omega); rw [hS] at this; exact this
  have := rplane_any (pa : Int) (pb : Int) (some ⟨g, o, none⟩) n c S b wa ha kk x hu hS hSb (by rw [hn]; have := hsz.ab; omega)
  rw [hn, rkE_good hsz hb a1 a2 b1 b2 hk, ← hn] at this
  refine Calls.mono this ?_
  rintro e w' ⟨a, b', ad', m, cc, E, rfl, hP⟩
  exact Pans.gd hn hP
theorem erode_gd (hU : UIs x g o S) (hcap : n ≤ c) (hS : S.length = n) (hn : n = pa * pb) (hSb : ∀ i, S.getD i 0 < 4294967296) (hsz : Size pa pb) (hb : b = 1 ∨ b = 2 ∨ b = 3) (a1 : 1 ≤ wa) (a2 : wa ≤ 15) (b1 : 1 ≤ ha) (b2 : ha ≤ 15) :
    Calls Try.prog 13 #[.agg #[.int .i64 (pa : Int), .int .i64 (pb : Int), .slice (some ⟨g, o, none⟩) n c], .int .i64 (b : Int), .int .i64 (wa : Int), .int .i64 (ha : Int)] x (Rgd x pa pb n (rnkL S pa pb b wa ha 0)) := by
  have hu : USl x (.slice (some ⟨g, o, none⟩) n c) S := by have := hU.usl (cap := c) (by omega); rw [hS] at this; exact this
  have := erode_any (pa : Int) (pb : Int) (some ⟨g, o, none⟩) n c S b wa ha x hu hS hSb (by rw [hn]; have := hsz.ab; omega)
  have h0 := rkE_good (kk := 0) hsz hb a1 a2 b1 b2 (Nat.mul_pos a1 b1)
  rw [← hn] at h0
  have h0 : rkE pa pb n b wa ha 0 = 0 := h0
  rw [h0] at this
  refine Calls.mono this ?_
  rintro e w' ⟨a, b', ad', m, cc, E, rfl, hP⟩
  exact Pans.gd hn hP
theorem dilate_gd (hU : UIs x g o S) (hcap : n ≤ c) (hS : S.length = n) (hn : n = pa * pb) (hSb : ∀ i, S.getD i 0 < 4294967296) (hsz : Size pa pb) (hb : b = 1 ∨ b = 2 ∨ b = 3) (a1 : 1 ≤ wa) (a2 : wa ≤ 15) (b1 : 1 ≤ ha) (b2 : ha ≤ 15) :
    Calls Try.prog 14 #[.agg #[.int .i64 (pa : Int), .int .i64 (pb : Int), .slice (some ⟨g, o, none⟩) n c], .int .i64 (b : Int), .int .i64 (wa : Int), .int .i64 (ha : Int)] x (Rgd x pa pb n (rnkL S pa pb b wa ha (wa * ha - 1))) := by
  have hu : USl x (.slice (some ⟨g, o, none⟩) n c) S := by have := hU.usl (cap := c) (by omega); rw [hS] at this; exact this
  have := dilate_any (pa : Int) (pb : Int) (some ⟨g, o, none⟩) n c S b wa ha x hu hS hSb (by rw [hn]; have := hsz.ab; omega)
  have hp := Nat.mul_pos a1 b1
  have hc : cntV wa ha - 1 = ((wa * ha - 1 : Nat) : Int) := by rw [cntV_of a1 a2 b1 b2]; omega
  rw [hc, hn, rkE_good hsz hb a1 a2 b1 b2 (by omega), ← hn] at this
  refine Calls.mono this ?_
  rintro e w' ⟨a, b', ad', m, cc, E, rfl, hP⟩
  exact Pans.gd hn hP
end
end Go.Proofs.Ytikhmlcmmabapaa
/- The document's Part of a rank. -/
namespace Go.Proofs.Ytikhmlcmmabapaa
open Go.RowKit
set_option linter.unusedVariables false
set_option linter.unusedSimpArgs false

theorem put3_q {w x : World} {b : Nat} (h : Q w x) (hb : w.heap.size ≤ b) (v0 v1 v2 : Value) : Q w (put3 x b v0 v1 v2) := ((h.set (p := ⟨b, 0, none⟩) hb v0).set (p := ⟨b, 1, none⟩) hb v1).set (p := ⟨b, 2, none⟩) hb v2
theorem Gp.next {w0 wr wz : World} {B : Nat} {pa pb : Int} {v : Value} {L : List Nat} {n : Nat} (h : Gp w0 wr B pa pb v L n) (q : Q wr wz) : Gp w0 wz B pa pb v L n := by
  refine ⟨h.len, ⟨h.own.1, ?_⟩, h.ap, q.cell h.c0, q.cell h.c1, q.cell h.c2, fun j => (q.2 _).trans (h.fz j), h.q.trans q, h.lo⟩
  rcases h.own.2 with h2 | ⟨g, cap, cur, rfl, hb, hg, rest⟩
  · exact Or.inl h2
  · exact Or.inr ⟨g, cap, cur, rfl, hb, (q.1.block g (Array.getElem?_eq_some_iff.1 hg).1).trans hg, rest⟩
/-- What a cell of an older block is, though the box's third cell was written. -/
theorem Gp.old {w0 x2 : World} {B : Nat} {pa pb : Int} {v u : Value} {L : List Nat} {n : Nat} (h : Gp w0 (x2.setCell ⟨B, 2, none⟩ u) B pa pb v L n) {p : Addr} {c : Value} (hc : w0.cell? p = some c) : x2.cell? p = some c := by
  have h1 := h.q.cell hc
  have hl := World.block_lt_of_cell? _ _ hc
  rwa [World.cell?_setCell_other _ _ _ _ (fun e => by have := h.lo; rw [← e] at hl; exact absurd hl (by show ¬ B < _; omega))] at h1
def prtL (V : Nat → Nat) (n : Nat) : List Nat := (List.range n).map V
theorem prtL_len (V : Nat → Nat) (n : Nat) : (prtL V n).length = n := by simp [prtL]
theorem prtL_next (V : Nat → Nat) (n : Nat) : prtL V n ++ [V n] = prtL V (n + 1) := by simp [prtL, List.range_succ]
theorem run_bs1 {ρ : Operand → Value} {x : World} {d : Option Tmp} {ty : TypeId} {ps : String} {af : Array Edge} {g : Option (Nat × Bool)} {j : Nat} {u : Nat} (h : ρ (.tmp j) = .int .u32 (u : Int)) : (execOp ρ { dst := d, op := .buildSlice 22 1 #[(0, .tmp j)], type := ty, pos := ps, after := af, guard := g }).run Try.prog x = .ok (.value (.slice (some ⟨x.heap.size, 0, none⟩) 1 1)) (x.alloc (.cells #[.int .u32 (u : Int)] 38)) := by
  simp [execOp, go_sem, h]
theorem run_fa2 {ρ : Operand → Value} {x : World} {d : Option Tmp} {ty : TypeId} {ps : String} {af : Array Edge} {gd : Option (Nat × Bool)} {j B : Nat} (h : ρ (.tmp j) = .pointer (some ⟨B, 0, none⟩)) : (execOp ρ { dst := d, op := .fieldAddr 24 (.tmp j) 2, type := ty, pos := ps, after := af, guard := gd }).run Try.prog x = .ok (.value (.pointer (some ⟨B, 2, none⟩))) x := by
  simp [execOp, go_sem, h]
theorem run_stsl {ρ : Operand → Value} {x : World} {d : Option Tmp} {ty : TypeId} {ps : String} {af : Array Edge} {gd : Option (Nat × Bool)} {j k : Nat} {p : Addr} {ad : Option Addr} {n c : Nat} {u : Value} (h : ρ (.tmp j) = .pointer (some p)) (h' : ρ (.tmp k) = .slice ad n c) (hc : x.cell? p = some u) (hf : x.frozen? p = false) : (execOp ρ { dst := d, op := .store 22 (.tmp j) (.tmp k), type := ty, pos := ps, after := af, guard := gd }).run Try.prog x = .ok .skip (x.setCell p (.slice ad n c)) := by
  simp only [execOp, h, h']
  simp [go_sem, hc, hf]
/-- What the document's Part answers. -/
structure Dans (w w' : World) (E0 : Int) (c d : Nat) (V : Nat → Nat) (a b : Int) (ad : Option Addr) (m cc : Nat) (E : Int) : Prop where
  q : Q w w'
  e : E = E0
  bad : E0 ≠ 0 → a = 0 ∧ b = 0 ∧ ad = none ∧ m = 0 ∧ cc = 0
  good : E0 = 0 → a = (c : Int) ∧ b = (d : Int) ∧ m = c * d ∧ USl w' (.slice ad m cc) (prtL V (c * d))
set_option maxHeartbeats 8000000 in
set_option maxRecDepth 100000 in
theorem rpart12_any (pw ph : Int) (ad : Option Addr) (n c : Nat) (S : List Nat) (bd W H k x0 y0 x1 y1 : Int) (w : World) (hU : USl w (.slice ad n c) S) (hS : S.length = n) (hSb : ∀ i, S.getD i 0 < 4294967296) (hn : n ≤ 9223372036854775807) :
    Calls Try.prog 22 #[.agg #[.int .i64 pw, .int .i64 ph, .slice ad n c], .int .i64 bd, .int .i64 W, .int .i64 H, .int .i64 k, .agg #[.int .i64 x0, .int .i64 y0, .int .i64 x1, .int .i64 y1]] w fun e w' => ∃ a b ad' m cc E, e = .returned (.tuple #[.agg #[.int .i64 a, .int .i64 b, .slice ad' m cc], .int .i64 E]) ∧ Dans w w' (paE pw ph n bd W H k x0 y0 x1 y1) (x1 - x0).toNat (y1 - y0).toNat (fun i => rnkV S pw.toNat ph.toNat bd.toNat W.toNat H.toNat k.toNat (x0.toNat + i % (x1 - x0).toNat) (y0.toNat + i / (x1 - x0).toNat)) a b ad' m cc E := by
  obtain ⟨w1, hw1⟩ : ∃ w1, (w.alloc (.cells #[.int .i64 pw, .int .i64 ph, .slice ad n c] 24)).alloc (.cells #[.int .i64 x0, .int .i64 y0, .int .i64 x1, .int .i64 y1] 45) = w1 := ⟨_, rfl⟩
  obtain ⟨w2, hw2⟩ : ∃ w2, w1.alloc (.cells #[.int .i64 0, .int .i64 0, .slice none 0 0] 24) = w2 := ⟨_, rfl⟩
  have q1 : Q w w1 := by rw [← hw1]; exact ((Q.refl w).cells _ _).cells _ _
  have q2 : Q w1 w2 := by rw [← hw2]; exact (Q.refl w1).cells _ _
  have s1 : w1.heap.size = w.heap.size + 2 := by rw [← hw1]; simp
  have s2 : w2.heap.size = w1.heap.size + 1 := by rw [← hw2]; simp
  have p0 : w2.cell? ⟨w.heap.size, 0, none⟩ = some (.int .i64 pw) := q2.cell (by rw [← hw1]; simp [go_sem])
  have p1 : w2.cell? ⟨w.heap.size, 1, none⟩ = some (.int .i64 ph) := q2.cell (by rw [← hw1]; simp [go_sem])
  have p2 : w2.cell? ⟨w.heap.size, 2, none⟩ = some (.slice ad n c) := q2.cell (by rw [← hw1]; simp [go_sem])
  have r0 : w2.cell? ⟨w.heap.size + 1, 0, none⟩ = some (.int .i64 x0) := q2.cell (by rw [← hw1]; simp [go_sem])
  have r1 : w2.cell? ⟨w.heap.size + 1, 1, none⟩ = some (.int .i64 y0) := q2.cell (by rw [← hw1]; simp [go_sem])
  have r2 : w2.cell? ⟨w.heap.size + 1, 2, none⟩ = some (.int .i64 x1) := q2.cell (by rw [← hw1]; simp [go_sem])
  have r3 : w2.cell? ⟨w.heap.size + 1, 3, none⟩ = some (.int .i64 y1) := q2.cell (by rw [← hw1]; simp [go_sem])
  have HO : Hid ((w2.cell? ⟨w1.heap.size, 0, none⟩ = some (.int .i64 0) ∧ w2.cell? ⟨w1.heap.size, 1, none⟩ = some (.int .i64 0) ∧ w2.cell? ⟨w1.heap.size, 2, none⟩ = some (.slice none 0 0) ∧ ∀ j, w2.frozen? ⟨w1.heap.size, j, none⟩ = false) ∧ Q w w2 ∧ w.heap.size < w1.heap.size ∧ w1.heap.size < w2.heap.size) := by
    refine ⟨?_, q1.trans q2, by omega, by omega⟩
    rw [← hw2]
    exact ⟨by simp [go_sem], by simp [go_sem], by simp [go_sem], fun j => by simp [go_sem]⟩
  have HR : Hid _ := rcheck12_any pw ph ad n c bd W H k hn w2
  have HU : Hid (USl w (.slice ad n c) S ∧ S.length = n ∧ ∀ i, S.getD i 0 < 4294967296) := ⟨hU, hS, hSb⟩
  clear q1 q2 s1 s2 hU hS hSb
  by_cases hE : rkE pw ph n bd W H k = 0
  rotate_left
  · have hpe : paE pw ph n bd W H k x0 y0 x1 y1 = rkE pw ph n bd W H k := by unfold paE; rw [if_neg hE]
    rw [hpe]
    generalize (fun i => rnkV S pw.toNat ph.toNat bd.toNat W.toNat H.toNat k.toNat (x0.toNat + i % (x1 - x0).toNat) (y0.toNat + i / (x1 - x0).toNat)) = V
    obtain ⟨E, hEe⟩ : ∃ E, rkE pw ph n bd W H k = E := ⟨_, rfl⟩
    rw [hEe] at HR hE
    rw [hEe]
    have hEb : (E == 0) = false := by simp [hE]
    have hEn : (E != 0) = true := by simp [hE]
    have HE0 : Hid (E ≠ 0) := hE
    clear hpe hEe hE
    go_enter Try.func22, Try.ntmps22
    go_wp2_with fail
    refine Calls.mono HR.out ?_
    rintro e w3 ⟨rfl, q3⟩
    have q2x := q3
    have o0 := q2x.cell HO.out.1.1
    have o1 := q2x.cell HO.out.1.2.1
    have o2 := q2x.cell HO.out.1.2.2.1
    have fo : ∀ j, w3.frozen? ⟨w1.heap.size, j, none⟩ = false := fun j => (q2x.2 _).trans (HO.out.1.2.2.2 j)
    have fo0 := fo 0
    have fo1 := fo 1
    have fo2 := fo 2
    have v0 := put3_c0 (v0 := (.int .i64 0)) (v1 := (.int .i64 0)) (v2 := (.slice none 0 0)) o0
    have v1 := put3_c1 (v0 := (.int .i64 0)) (v1 := (.int .i64 0)) (v2 := (.slice none 0 0)) o1
    have v2 := put3_c2 (v0 := (.int .i64 0)) (v1 := (.int .i64 0)) (v2 := (.slice none 0 0)) o2
    have HW : Hid (Q w (put3 w3 w1.heap.size (.int .i64 0) (.int .i64 0) (.slice none 0 0))) := put3_q (HO.out.2.1.trans q2x) (by have := HO.out.2.2.1; omega) _ _ _
    obtain ⟨w9, hw9⟩ : ∃ w9, put3 w3 w1.heap.size (.int .i64 0) (.int .i64 0) (.slice none 0 0) = w9 := ⟨_, rfl⟩
    rw [hw9] at HW v0 v1 v2
    have HW9 : Hid (put3 w3 w1.heap.size (.int .i64 0) (.int .i64 0) (.slice none 0 0) = w9) := hw9
    clear q2x q3 fo hw9
    go_wp2_with fail
    have h9 : ((w3.setCell ⟨w1.heap.size, 0, none⟩ (.int .i64 0)).setCell ⟨w1.heap.size, 1, none⟩ (.int .i64 0)).setCell ⟨w1.heap.size, 2, none⟩ (.slice none 0 0) = w9 := HW9.out
    rw [h9]
    exact bodyPost_ret (v := .tuple #[.agg #[(.int .i64 0), (.int .i64 0), (.slice none 0 0)], (.int .i64 E)]) (by simp [results, Try.results22, go_sem, v0, v1, v2]) rfl ⟨_, _, _, _, _, _, rfl, ⟨HW.out, rfl, fun _ => ⟨rfl, rfl, rfl, rfl, rfl⟩, fun e => absurd e HE0.out⟩⟩
  by_cases hI : (spnB x0 x1 pw && spnB y0 y1 ph) = true
  rotate_left
  · have hpe : paE pw ph n bd W H k x0 y0 x1 y1 = 52 := by unfold paE; rw [if_pos hE, if_neg hI]
    rw [hpe]
    rw [hE] at HR
    have hout : x0 < 0 ∨ (0 ≤ x0 ∧ y0 < 0) ∨ (0 ≤ x0 ∧ 0 ≤ y0 ∧ x1 ≤ x0) ∨ (0 ≤ x0 ∧ 0 ≤ y0 ∧ x0 < x1 ∧ y1 ≤ y0) ∨ (0 ≤ x0 ∧ 0 ≤ y0 ∧ x0 < x1 ∧ y0 < y1 ∧ pw < x1) ∨ (0 ≤ x0 ∧ 0 ≤ y0 ∧ x0 < x1 ∧ y0 < y1 ∧ x1 ≤ pw ∧ ph < y1) := by
      unfold spnB at hI
      simp only [Bool.and_eq_true, decide_eq_true_eq] at hI
      omega
    have HE0 : Hid ((52 : Int) ≠ 0) := by show (52 : Int) ≠ 0; decide
    generalize (fun i => rnkV S pw.toNat ph.toNat bd.toNat W.toNat H.toNat k.toNat (x0.toNat + i % (x1 - x0).toNat) (y0.toNat + i / (x1 - x0).toNat)) = V
    clear hE hI hpe
    rcases hout with h1 | ⟨h0, h1⟩ | ⟨h0, h2, h1⟩ | ⟨h0, h2, h3, h1⟩ | ⟨h0, h2, h3, h4, h1⟩ | ⟨h0, h2, h3, h4, h5, h1⟩
    all_goals
      go_enter Try.func22, Try.ntmps22
      go_wp2_with fail
      refine Calls.mono HR.out ?_
      rintro e w3 ⟨rfl, q3⟩
      have p0 := q3.cell p0
      have p1 := q3.cell p1
      have r0 := q3.cell r0
      have r1 := q3.cell r1
      have r2 := q3.cell r2
      have r3 := q3.cell r3
      have q2x := q3
      have o0 := q2x.cell HO.out.1.1
      have o1 := q2x.cell HO.out.1.2.1
      have o2 := q2x.cell HO.out.1.2.2.1
      have fo : ∀ j, w3.frozen? ⟨w1.heap.size, j, none⟩ = false := fun j => (q2x.2 _).trans (HO.out.1.2.2.2 j)
      have fo0 := fo 0
      have fo1 := fo 1
      have fo2 := fo 2
      have v0 := put3_c0 (v0 := (.int .i64 0)) (v1 := (.int .i64 0)) (v2 := (.slice none 0 0)) o0
      have v1 := put3_c1 (v0 := (.int .i64 0)) (v1 := (.int .i64 0)) (v2 := (.slice none 0 0)) o1
      have v2 := put3_c2 (v0 := (.int .i64 0)) (v1 := (.int .i64 0)) (v2 := (.slice none 0 0)) o2
      have HW : Hid (Q w (put3 w3 w1.heap.size (.int .i64 0) (.int .i64 0) (.slice none 0 0))) := put3_q (HO.out.2.1.trans q2x) (by have := HO.out.2.2.1; omega) _ _ _
      obtain ⟨w9, hw9⟩ : ∃ w9, put3 w3 w1.heap.size (.int .i64 0) (.int .i64 0) (.slice none 0 0) = w9 := ⟨_, rfl⟩
      rw [hw9] at HW v0 v1 v2
      have HW9 : Hid (put3 w3 w1.heap.size (.int .i64 0) (.int .i64 0) (.slice none 0 0) = w9) := hw9
      clear q2x q3 fo hw9
      go_wp2_with fail
      have h9 : ((w3.setCell ⟨w1.heap.size, 0, none⟩ (.int .i64 0)).setCell ⟨w1.heap.size, 1, none⟩ (.int .i64 0)).setCell ⟨w1.heap.size, 2, none⟩ (.slice none 0 0) = w9 := HW9.out
      rw [h9]
      exact bodyPost_ret (v := .tuple #[.agg #[(.int .i64 0), (.int .i64 0), (.slice none 0 0)], (.int .i64 52)]) (by simp [results, Try.results22, go_sem, v0, v1, v2]) rfl ⟨_, _, _, _, _, _, rfl, ⟨HW.out, rfl, fun _ => ⟨rfl, rfl, rfl, rfl, rfl⟩, fun e => absurd e HE0.out⟩⟩
  have hpe : paE pw ph n bd W H k x0 y0 x1 y1 = 0 := by unfold paE; rw [if_pos hE, if_pos hI]
  rw [hpe]
  rw [hE] at HR
  obtain ⟨pa, pb, b, wa, ha, kk, rfl, rfl, rfl, rfl, rfl, rfl, hsz, hnn, hb, a1, a2, b1, b2, hkk⟩ := rkE_ok hE
  rw [Bool.and_eq_true] at hI
  obtain ⟨xa, xc, rfl, rfl, hx1, hx2⟩ := spn_ok hI.1
  obtain ⟨ya, yd, rfl, rfl, hy1, hy2⟩ := spn_ok hI.2
  obtain ⟨gs, os, cs, hv, hcs, hUI⟩ := HU.out.1.some (by rw [HU.out.2.1, hnn]; exact hsz.pos)
  rw [HU.out.2.1] at hv hcs
  injection hv with hv1 _ hv2
  subst hv1 hv2
  have ec : (((xa + xc : Nat) : Int) - (xa : Int)).toNat = xc := by omega
  have ed : (((ya + yd : Nat) : Int) - (ya : Int)).toNat = yd := by omega
  rw [ec, ed]
  simp only [Int.toNat_natCast]
  have HP : Hid (∀ z, Q w z → ∀ x y : Nat, x < pa → y < pb → Calls Try.prog 32 #[.agg #[.int .i64 (pa : Int), .int .i64 (pb : Int), .slice (some ⟨gs, os, none⟩) n c], .int .i64 (b : Int), .int .i64 (wa : Int), .int .i64 (ha : Int), .int .i64 (kk : Int), .int .i64 (x : Int), .int .i64 (y : Int)] z fun e w' => e = .returned (.int .u32 ((rnkV S pa pb b wa ha kk x y : Nat) : Int)) ∧ Q z w') := fun z (q : Q w z) x y hx hy => rat12_any b pa pb wa ha kk x y gs os n c S z hb hsz hnn HU.out.2.1 (hUI.next q) HU.out.2.2 a1 a2 b1 b2 hkk hx hy
  obtain ⟨V, hV⟩ : ∃ V : Nat → Nat, (fun i => rnkV S pa pb b wa ha kk (xa + i % xc) (ya + i / xc)) = V := ⟨_, rfl⟩
  rw [hV]
  have HV : Hid (∀ i j, i < xc → rnkV S pa pb b wa ha kk (xa + i) (ya + j) = V (j * xc + i)) := fun i j hi => by
    rw [← hV]
    show _ = rnkV S pa pb b wa ha kk _ _
    rw [Nat.mul_comm j xc, Nat.mul_add_mod, Nat.mod_eq_of_lt hi, Nat.mul_add_div (by omega), Nat.div_eq_of_lt hi, Nat.add_zero]
  obtain ⟨xe, hxe⟩ : ∃ xe, xa + xc = xe := ⟨_, rfl⟩
  obtain ⟨ye, hye⟩ : ∃ ye, ya + yd = ye := ⟨_, rfl⟩
  rw [hxe] at hw1 r2 hx2
  rw [hye] at hw1 r3 hy2
  have e1 : (xe : Int) - (xa : Int) = (xc : Int) := by omega
  have e2 : (ye : Int) - (ya : Int) = (yd : Int) := by omega
  have h3 : ¬ (xe : Int) ≤ (xa : Int) := by omega
  have h4 : ¬ (ye : Int) ≤ (ya : Int) := by omega
  have h3' : (xa : Int) < (xe : Int) := by omega
  have h4' : (ya : Int) < (ye : Int) := by omega
  have hn1 : ¬ xe ≤ xa := by omega
  have hn2 : ¬ ye ≤ ya := by omega
  have hn3 : ¬ pa < xe := by omega
  have hn4 : ¬ pb < ye := by omega
  have hn5 : ¬ (xa : Int) < 0 := by omega
  have hn6 : ¬ (ya : Int) < 0 := by omega
  have HB : Hid (xa + xc = xe ∧ ya + yd = ye ∧ xe ≤ pa ∧ ye ≤ pb ∧ xc * yd ≤ 65536 ∧ pa ≤ 1024 ∧ pb ≤ 1024) := ⟨hxe, hye, by omega, by omega, Nat.le_trans (Nat.mul_le_mul (by omega) (by omega)) hsz.ab, hsz.a2, hsz.b2⟩
  have b3 : pa ≤ 1024 := hsz.a2
  have b4 : pb ≤ 1024 := hsz.b2
  rw [hxe, hye]
  clear hE hI hpe hV hxe hye ec ed HU hUI hnn hsz hb hkk hcs hx1 hy1
  go_enter Try.func22, Try.ntmps22
  go_wp2_with fail
  refine Calls.mono HR.out ?_
  rintro e w3 ⟨rfl, q3⟩
  have p0 := q3.cell p0
  have p1 := q3.cell p1
  have p2 := q3.cell p2
  have r0 := q3.cell r0
  have r1 := q3.cell r1
  have r2 := q3.cell r2
  have r3 := q3.cell r3
  have HQ3 : Hid (Q w2 w3) := q3
  clear q3
  obtain ⟨w4, hw4⟩ : ∃ w4, w3.alloc (.cells #[.int .i64 (xc : Int), .int .i64 (yd : Int), .slice none 0 0] 24) = w4 := ⟨_, rfl⟩
  have HG : Hid (Gp w3 w4 w3.heap.size (xc : Int) (yd : Int) (.slice none 0 0) (prtL V 0) 0) := by
    show Gp _ _ _ _ _ _ _ _
    rw [← hw4]
    exact ⟨rfl, World.ownsRow_nil _ _ _ _, by simp [Value.ownBlock], by simp [go_sem], by simp [go_sem], by simp [go_sem], fun j => by simp [go_sem], (Q.refl w3).cells _ _, Nat.le_refl _⟩
  have HC : Hid ((w3.cell? ⟨w.heap.size, 0, none⟩ = some (.int .i64 (pa : Int)) ∧ w3.cell? ⟨w.heap.size, 1, none⟩ = some (.int .i64 (pb : Int)) ∧ w3.cell? ⟨w.heap.size, 2, none⟩ = some (.slice (some ⟨gs, os, none⟩) n c)) ∧ w3.cell? ⟨w.heap.size + 1, 0, none⟩ = some (.int .i64 (xa : Int)) ∧ w3.cell? ⟨w.heap.size + 1, 2, none⟩ = some (.int .i64 (xe : Int)) ∧ w3.cell? ⟨w.heap.size + 1, 3, none⟩ = some (.int .i64 (ye : Int))) := ⟨⟨p0, p1, p2⟩, r0, r2, r3⟩
  have r1' := HG.out.q.cell r1
  have d2 := HG.out.c2
  have d1 := HG.out.c1
  have d0 := HG.out.c0
  have z0 := HG.out.fz 0
  have z1 := HG.out.fz 1
  have z2 := HG.out.fz 2
  have m0 := setcell_id d0
  have m1 := setcell_id d1
  have m2 := setcell_id d2
  go_wp2_with fail
  clear m0 m1 m2 z0 z1 z2 d0 d1 d2 hw4 r0 r1 r2 r3 r1' p0 p1 p2 hw1 hw2
  go_loopg [16] yd (fun m s16 wr => ∃ (j : Nat) (v : Value), s16 = .int .i64 ((ya + j : Nat) : Int) ∧ j + m = yd ∧ Hid (Gp w3 wr w3.heap.size (xc : Int) (yd : Int) v (prtL V (j * xc)) (j * xc)))
  case atStart => exact ⟨0, _, rfl, by omega, by rw [Nat.zero_mul]; exact HG⟩
  case round =>
    clear HG
    obtain ⟨j, v, rfl, hjm, HG⟩ := hrel
    have r3 := HG.out.q.cell HC.out.2.2.2
    obtain ⟨yj, hyj⟩ : ∃ yj, ya + j = yj := ⟨_, rfl⟩
    rw [hyj]
    by_cases hj : j < yd
    · have hj' : (yj : Int) < (ye : Int) := by have := HB.out.2.1; omega
      have hjn : yj < ye := by omega
      have hyb : yj < pb := by have := HB.out.2.2.2.1; omega
      have r0 := HG.out.q.cell HC.out.2.1
      have HYJ : Hid (ya + j = yj) := hyj
      obtain ⟨jx, hjx⟩ : ∃ jx, j * xc = jx := ⟨_, rfl⟩
      rw [hjx] at HG
      have HJX : Hid (j * xc = jx) := hjx
      have hjb : jx + xc ≤ 65536 := by
        have h1 : (j + 1) * xc ≤ yd * xc := Nat.mul_le_mul_right _ (by omega)
        have h2 := HB.out.2.2.2.2.1
        rw [Nat.succ_mul, hjx, Nat.mul_comm yd xc] at h1; omega
      clear hyj hjx
      go_wp2_with fail
      clear r0 r3
      go_loopg [17] xc (fun m s17 wx => ∃ (i : Nat) (v : Value), s17 = .int .i64 ((xa + i : Nat) : Int) ∧ i + m = xc ∧ Hid (Gp w3 wx w3.heap.size (xc : Int) (yd : Int) v (prtL V (jx + i)) (jx + i)))
      case atStart => exact ⟨0, v, rfl, by omega, HG⟩
      case round =>
        clear HG
        obtain ⟨i, v, rfl, him, HG⟩ := hrel
        have r2 := HG.out.q.cell HC.out.2.2.1
        obtain ⟨xi, hxi⟩ : ∃ xi, xa + i = xi := ⟨_, rfl⟩
        rw [hxi]
        by_cases hi : i < xc
        · have hi' : (xi : Int) < (xe : Int) := by have := HB.out.1; omega
          have hin : xi < xe := by omega
          have hxb : xi < pa := by have := HB.out.2.2.1; omega
          have CA := HP.out wr.drew ((HO.out.2.1.trans (HQ3.out.trans HG.out.q)).drew) xi yj hxb hyb
          have hval : rnkV S pa pb b wa ha kk xi yj = V (jx + i) := by rw [← hxi, ← HYJ.out, ← HJX.out]; exact HV.out i j hi
          rw [hval] at CA
          obtain ⟨s, hs⟩ : ∃ s, V (jx + i) = s := ⟨_, rfl⟩
          rw [hs] at CA
          have HCA : Hid _ := CA
          have HS : Hid (V (jx + i) = s) := hs
          have HXI : Hid (xa + i = xi) := hxi
          clear CA hs hval hxi
          go_wp2_with fail
          obtain ⟨D, hD⟩ : ∃ D : World → Prop, (fun z : World => z.cell? ⟨w3.heap.size, 2, none⟩ = some v ∧ z.cell? ⟨w.heap.size, 0, none⟩ = some (.int .i64 (pa : Int)) ∧ z.cell? ⟨w.heap.size, 1, none⟩ = some (.int .i64 (pb : Int)) ∧ z.cell? ⟨w.heap.size, 2, none⟩ = some (.slice (some ⟨gs, os, none⟩) n c)) = D := ⟨_, rfl⟩
          have HDD : Hid (∀ z, (z.cell? ⟨w3.heap.size, 2, none⟩ = some v ∧ z.cell? ⟨w.heap.size, 0, none⟩ = some (.int .i64 (pa : Int)) ∧ z.cell? ⟨w.heap.size, 1, none⟩ = some (.int .i64 (pb : Int)) ∧ z.cell? ⟨w.heap.size, 2, none⟩ = some (.slice (some ⟨gs, os, none⟩) n c)) → D z) := fun z hz => by rw [← hD]; exact hz
          have hDz : ∀ z, D z → z.cell? ⟨w3.heap.size, 2, none⟩ = some v ∧ z.cell? ⟨w.heap.size, 0, none⟩ = some (.int .i64 (pa : Int)) ∧ z.cell? ⟨w.heap.size, 1, none⟩ = some (.int .i64 (pb : Int)) ∧ z.cell? ⟨w.heap.size, 2, none⟩ = some (.slice (some ⟨gs, os, none⟩) n c) := fun z hz => by rw [← hD] at hz; exact hz
          have G5 : Gp w3 wr.drew w3.heap.size (xc : Int) (yd : Int) v (prtL V (jx + i)) (jx + i) := HG.out.next (Q.refl wr).drew
          have HDG : Hid (∀ z, Gp w3 z w3.heap.size (xc : Int) (yd : Int) v (prtL V (jx + i)) (jx + i) → D z) := fun z g => HDD.out z ⟨g.c2, g.q.cell HC.out.1.1, g.q.cell HC.out.1.2.1, g.q.cell HC.out.1.2.2⟩
          have D0 : D wr.drew := HDG.out _ G5
          have n0 := cw_some (D := D) D0
          have f0 := fun n : CW D => (hDz _ n.h).1
          have f01 := fun n : CW D => (hDz _ n.h).2.1
          have f02 := fun n : CW D => (hDz _ n.h).2.2.1
          have f03 := fun n : CW D => (hDz _ n.h).2.2.2
          clear hD hDz
          refine wp_region_mkP [0, 1, 2, 3, 4, 5, 6, 7, 8] [[9, 10, 11, 12, 13]] 5 _ D (by kernel_rfl) (by kernel_rfl) rfl (by kernel_rfl) D0 ?_
          simp only [List.filterMap_cons, List.filterMap_nil, List.getElem?_cons_zero, List.getElem?_cons_succ]
          repeat (first | go_big_quiet_step (fail) | quiet_step (fail))
          refine wpQuiet_nil ?_
          clear f0 f01 f02 f03 n0
          refine tree_call 9 (by kernel_rfl) rfl (run_fn 32 #[.tmp 94, .tmp 95, .tmp 96, .tmp 97, .tmp 98, .tmp 99, .tmp 100] _ rfl (fun _ _ => rfl) (vs := #[.agg #[.int .i64 (pa : Int), .int .i64 (pb : Int), .slice (some ⟨gs, os, none⟩) n c], .int .i64 (b : Int), .int .i64 (wa : Int), .int .i64 (ha : Int), .int .i64 (kk : Int), .int .i64 (xi : Int), .int .i64 (yj : Int)]) (by kernel_rfl)) (G := fun v x' => v = .int .u32 (s : Int) ∧ Q wr.drew x') (Calls.mono HCA.out fun e x' h => ⟨_, h.1, rfl, h.2⟩) ?_
          rintro vq z6 ⟨rfl, hz6⟩
          have G6 := G5.next hz6
          refine ⟨HDG.out _ G6, ?_⟩
          have G7 := G6.next ((Q.refl z6).cells #[.int .u32 (s : Int)] 38)
          refine tree_run 10 (by kernel_rfl) rfl (v := .slice (some ⟨z6.heap.size, 0, none⟩) 1 1) (x' := z6.alloc (.cells #[.int .u32 (s : Int)] 38)) (run_bs1 (by kernel_rfl)) (HDG.out _ G7) ?_
          obtain ⟨g8, c8, x8, r8, cx8, fx8, G8⟩ := G6.app s (by omega)
          have D8 : D x8 := HDD.out _ ⟨cx8, G8.old HC.out.1.1, G8.old HC.out.1.2.1, G8.old HC.out.1.2.2⟩
          refine tree_run 11 (by kernel_rfl) rfl (v := .slice (some ⟨g8, 0, none⟩) (jx + i + 1) c8) (x' := x8) (run_appopq rfl (v := v) (v' := .slice (some ⟨z6.heap.size, 0, none⟩) 1 1) (by kernel_rfl) (by kernel_rfl) r8) D8 ?_
          refine tree_run 12 (by kernel_rfl) rfl (v := .pointer (some ⟨w3.heap.size, 2, none⟩)) (x' := x8) (run_fa2 (by kernel_rfl)) D8 ?_
          have HG9 : Hid (Gp w3 (x8.setCell ⟨w3.heap.size, 2, none⟩ (.slice (some ⟨g8, 0, none⟩) (jx + i + 1) c8)) w3.heap.size (xc : Int) (yd : Int) (.slice (some ⟨g8, 0, none⟩) (jx + i + 1) c8) (prtL V (jx + (i + 1))) (jx + (i + 1))) := by
            have h := G8
            rw [← HS.out, prtL_next] at h
            exact h
          refine tree_skipF 13 (by kernel_rfl) rfl (by kernel_rfl) (x' := x8.setCell ⟨w3.heap.size, 2, none⟩ (.slice (some ⟨g8, 0, none⟩) (jx + i + 1) c8)) (run_stsl (by kernel_rfl) (by kernel_rfl) cx8 (fx8 2)) ?_
          refine tree_nil ?_
          generalize x8.setCell ⟨w3.heap.size, 2, none⟩ (.slice (some ⟨g8, 0, none⟩) (jx + i + 1) c8) = z9 at HG9 ⊢
          clear G5 G6 G7 G8 D0 D8 HG r2 r8 cx8 fx8
          go_wp2_with fail
          go_roundg (xc - (i + 1))
          case measure => go_light; omega
          case rel => go_light; exact ⟨i + 1, _, by have := HXI.out; rw [← this]; go_num, by omega, HG9⟩
        · obtain rfl : i = xc := by omega
          obtain rfl : xi = xe := by have := HB.out.1; omega
          have hge : ¬ (xi : Int) < (xi : Int) := by omega
          have HN : Hid (Gp w3 wr w3.heap.size (i : Int) (yd : Int) v (prtL V ((j + 1) * i)) ((j + 1) * i)) := by
            have h := HG.out
            rw [← HJX.out, ← Nat.succ_mul] at h
            exact h
          clear HG
          go_wp2_with fail
          go_roundg (yd - (j + 1))
          case measure => go_light; omega
          case rel => go_light; exact ⟨j + 1, v, by have := HYJ.out; rw [← this]; go_num, by omega, HN⟩
    · obtain rfl : j = yd := by omega
      obtain rfl : yj = ye := by have := HB.out.2.1; omega
      have hge : ¬ (yj : Int) < (yj : Int) := by omega
      have hU := own_uslS HG.out.own HG.out.len
      obtain ⟨ad9, c9, hv⟩ := hU.form
      rw [prtL_len] at hv
      subst hv
      have HUU : Hid (USl wr (.slice ad9 (j * xc) c9) (prtL V (j * xc))) := hU
      have d0 := HG.out.c0
      have d1 := HG.out.c1
      have d2 := HG.out.c2
      have q2x : Q w2 wr := HQ3.out.trans HG.out.q
      obtain ⟨m9, hm9⟩ : ∃ m9, j * xc = m9 := ⟨_, rfl⟩
      rw [hm9] at HUU d2
      have HM : Hid (j * xc = m9) := hm9
      have HUU9 : Hid (USl (put3 wr w1.heap.size (.int .i64 (xc : Int)) (.int .i64 (j : Int)) (.slice ad9 m9 c9)) (.slice ad9 m9 c9) (prtL V m9)) := by
        have hh := HG.out.own
        rw [hm9] at hh
        have hs := HO.out.2.2.2
        have hl := HQ3.out.1.size
        have hne : (Value.slice ad9 m9 c9).ownBlock ≠ some w1.heap.size := by
          intro e
          rcases hh.2 with ⟨e1, _⟩ | ⟨g, cap, cur, e1, e2, _⟩
          · rw [e1] at e; cases e
          · rw [e1] at e
            have : g = w1.heap.size := by injection e
            omega
        exact own_uslS (own_setS (own_setS (own_setS hh (p := ⟨w1.heap.size, 0, none⟩) hne _) (p := ⟨w1.heap.size, 1, none⟩) hne _) (p := ⟨w1.heap.size, 2, none⟩) hne _) (prtL_len V m9).symm
      clear hm9 hU
      have o0 := q2x.cell HO.out.1.1
      have o1 := q2x.cell HO.out.1.2.1
      have o2 := q2x.cell HO.out.1.2.2.1
      have fo : ∀ j, wr.frozen? ⟨w1.heap.size, j, none⟩ = false := fun j => (q2x.2 _).trans (HO.out.1.2.2.2 j)
      have fo0 := fo 0
      have fo1 := fo 1
      have fo2 := fo 2
      have v0 := put3_c0 (v0 := (.int .i64 (xc : Int))) (v1 := (.int .i64 (j : Int))) (v2 := (.slice ad9 m9 c9)) o0
      have v1 := put3_c1 (v0 := (.int .i64 (xc : Int))) (v1 := (.int .i64 (j : Int))) (v2 := (.slice ad9 m9 c9)) o1
      have v2 := put3_c2 (v0 := (.int .i64 (xc : Int))) (v1 := (.int .i64 (j : Int))) (v2 := (.slice ad9 m9 c9)) o2
      have HW : Hid (Q w (put3 wr w1.heap.size (.int .i64 (xc : Int)) (.int .i64 (j : Int)) (.slice ad9 m9 c9))) := put3_q (HO.out.2.1.trans q2x) (by have := HO.out.2.2.1; omega) _ _ _
      obtain ⟨w9, hw9⟩ : ∃ w9, put3 wr w1.heap.size (.int .i64 (xc : Int)) (.int .i64 (j : Int)) (.slice ad9 m9 c9) = w9 := ⟨_, rfl⟩
      rw [hw9] at HW v0 v1 v2 HUU9
      have HW9 : Hid (put3 wr w1.heap.size (.int .i64 (xc : Int)) (.int .i64 (j : Int)) (.slice ad9 m9 c9) = w9) := hw9
      clear q2x fo hw9 HG HUU
      go_wp2_with fail
      have h9 : ((wr.setCell ⟨w1.heap.size, 0, none⟩ (.int .i64 (xc : Int))).setCell ⟨w1.heap.size, 1, none⟩ (.int .i64 (j : Int))).setCell ⟨w1.heap.size, 2, none⟩ (.slice ad9 m9 c9) = w9 := HW9.out
      rw [h9]
      exact bodyPost_ret (v := .tuple #[.agg #[(.int .i64 (xc : Int)), (.int .i64 (j : Int)), (.slice ad9 m9 c9)], (.int .i64 0)]) (by simp [results, Try.results22, go_sem, v0, v1, v2]) rfl ⟨_, _, _, _, _, _, rfl, ⟨HW.out, rfl, fun e => absurd rfl e, fun _ => ⟨rfl, rfl, by rw [← HM.out, Nat.mul_comm], by rw [Nat.mul_comm, HM.out]; exact HUU9.out⟩⟩⟩

end Go.Proofs.Ytikhmlcmmabapaa
