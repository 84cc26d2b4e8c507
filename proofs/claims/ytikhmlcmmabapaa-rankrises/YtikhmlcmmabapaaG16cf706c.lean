/- rank: the chapter's examples, walked. -/
import Derived.Test.YtikhmlcmmabapaaGcece83db
import Derived.Test.YtikhmlcmmabapaaGcce89acd
namespace Go.Proofs.Ytikhmlcmmabapaa
open Go.RowKit
set_option linter.unusedVariables false
set_option linter.unusedSimpArgs false

theorem usl_vr {w : World} {g n : Nat} {V : Nat → Nat} {l : List Nat} (h : VR w g n (fun i => .int .u32 ((V i : Nat) : Int))) (hl : l.length = n) (hv : ∀ i, i < n → V i = l.getD i 0) : USl w (.slice (some ⟨g, 0, none⟩) n n) l :=
  Or.inl ⟨g, 0, n, by rw [hl], by omega, fun i hi => by rw [Nat.zero_add, ← hv i (by omega)]; exact h.cell i (by omega)⟩
theorem setcell_same {w : World} {b o : Nat} {v : Value} (h : w.cell? ⟨b, o, none⟩ = some v) : w.setCell ⟨b, o, none⟩ v = w := by
  have hh : w.heap.modify b (fun | .cells c e f => .cells (c.setIfInBounds o v) e f | x => x) = w.heap := by
    apply Array.ext_getElem?
    intro i
    rw [Array.getElem?_modify]
    by_cases hi : b = i
    · subst hi
      rw [if_pos rfl]
      unfold World.cell? at h
      cases hb : w.heap[b]? with
      | none => rfl
      | some ob =>
        rw [hb] at h
        cases ob with
        | cells c e f =>
          simp at h
          simp only [Option.map_some]
          congr 2
          apply Array.ext_getElem?
          intro k
          rw [Array.getElem?_setIfInBounds]
          split
          · rename_i hk; subst hk
            rw [h]
            split
            · rfl
            · rename_i hx; rw [Array.getElem?_eq_none (by omega)] at h; cases h
          · rfl
        | _ => rfl
    · rw [if_neg hi]
  refine Eq.trans ?_ (congrArg (fun z => ({ w with heap := z } : World)) hh)
  unfold World.setCell
  simp
  congr 1
  all_goals (funext ob; cases ob <;> rfl)
theorem kn_med (gp : Nat) (x : World) (h : USl x (.slice (some ⟨gp, 0, none⟩) 5 5) exS) :
    Calls Try.prog 12 #[.agg #[.int .i64 5, .int .i64 1, .slice (some ⟨gp, 0, none⟩) 5 5], .int .i64 1, .int .i64 3, .int .i64 1] x fun e w' => ∃ g, e = .returned (.tuple #[.agg #[.int .i64 5, .int .i64 1, .slice (some ⟨g, 0, none⟩) 5 5], .int .i64 0]) ∧ USl w' (.slice (some ⟨g, 0, none⟩) 5 5) [1065353216, 1065353216, 1073741824, 1073741824, 0] ∧ Qb x w' := by
  have hC := median_any 5 1 (some ⟨gp, 0, none⟩) 5 5 exS 1 3 1 x h rfl exS_lt (by decide)
  refine Calls.mono hC ?_
  rintro e w' ⟨a, b, ad', m, cc, E, rfl, hP⟩
  have h0 : rkE 5 1 5 1 3 1 (cntV 3 1 / 2) = 0 := by decide
  rw [h0] at hP
  obtain ⟨g, rfl, rfl, rfl, rfl, rfl, hV, _, _⟩ := hP.good rfl
  obtain rfl := hP.e
  exact ⟨g, rfl, usl_vr hV rfl ex_med, hP.q⟩
theorem kn_ero (gp : Nat) (x : World) (h : USl x (.slice (some ⟨gp, 0, none⟩) 5 5) exS) :
    Calls Try.prog 13 #[.agg #[.int .i64 5, .int .i64 1, .slice (some ⟨gp, 0, none⟩) 5 5], .int .i64 1, .int .i64 3, .int .i64 1] x fun e w' => ∃ g, e = .returned (.tuple #[.agg #[.int .i64 5, .int .i64 1, .slice (some ⟨g, 0, none⟩) 5 5], .int .i64 0]) ∧ USl w' (.slice (some ⟨g, 0, none⟩) 5 5) [2147483648, 2147483648, 2147483648, 0, 0] ∧ Qb x w' := by
  have hC := erode_any 5 1 (some ⟨gp, 0, none⟩) 5 5 exS 1 3 1 x h rfl exS_lt (by decide)
  refine Calls.mono hC ?_
  rintro e w' ⟨a, b, ad', m, cc, E, rfl, hP⟩
  have h0 : rkE 5 1 5 1 3 1 0 = 0 := by decide
  rw [h0] at hP
  obtain ⟨g, rfl, rfl, rfl, rfl, rfl, hV, _, _⟩ := hP.good rfl
  obtain rfl := hP.e
  exact ⟨g, rfl, usl_vr hV rfl ex_ero, hP.q⟩
theorem kn_dil (gp : Nat) (x : World) (h : USl x (.slice (some ⟨gp, 0, none⟩) 5 5) exS) :
    Calls Try.prog 14 #[.agg #[.int .i64 5, .int .i64 1, .slice (some ⟨gp, 0, none⟩) 5 5], .int .i64 1, .int .i64 3, .int .i64 1] x fun e w' => ∃ g, e = .returned (.tuple #[.agg #[.int .i64 5, .int .i64 1, .slice (some ⟨g, 0, none⟩) 5 5], .int .i64 0]) ∧ USl w' (.slice (some ⟨g, 0, none⟩) 5 5) [1065353216, 2143289345, 2143289345, 2143289345, 1073741824] ∧ Qb x w' := by
  have hC := dilate_any 5 1 (some ⟨gp, 0, none⟩) 5 5 exS 1 3 1 x h rfl exS_lt (by decide)
  refine Calls.mono hC ?_
  rintro e w' ⟨a, b, ad', m, cc, E, rfl, hP⟩
  have h0 : rkE 5 1 5 1 3 1 (cntV 3 1 - 1) = 0 := by decide
  rw [h0] at hP
  obtain ⟨g, rfl, rfl, rfl, rfl, rfl, hV, _, _⟩ := hP.good rfl
  obtain rfl := hP.e
  exact ⟨g, rfl, usl_vr hV rfl ex_dil, hP.q⟩
theorem kn_two (gp : Nat) (x : World) (h : USl x (.slice (some ⟨gp, 0, none⟩) 5 5) exS) :
    Calls Try.prog 9 #[.agg #[.int .i64 5, .int .i64 1, .slice (some ⟨gp, 0, none⟩) 5 5], .int .i64 1, .int .i64 2, .int .i64 1, .int .i64 0] x fun e w' => ∃ g, e = .returned (.tuple #[.agg #[.int .i64 5, .int .i64 1, .slice (some ⟨g, 0, none⟩) 5 5], .int .i64 0]) ∧ USl w' (.slice (some ⟨g, 0, none⟩) 5 5) [1065353216, 2147483648, 2147483648, 1073741824, 0] ∧ Qb x w' := by
  have hC := rplane_any 5 1 (some ⟨gp, 0, none⟩) 5 5 exS 1 2 1 0 x h rfl exS_lt (by decide)
  refine Calls.mono hC ?_
  rintro e w' ⟨a, b, ad', m, cc, E, rfl, hP⟩
  have h0 : rkE 5 1 5 1 2 1 0 = 0 := by decide
  rw [h0] at hP
  obtain ⟨g, rfl, rfl, rfl, rfl, rfl, hV, _, _⟩ := hP.good rfl
  obtain rfl := hP.e
  exact ⟨g, rfl, usl_vr hV rfl ex_two, hP.q⟩
theorem kn_part (gp : Nat) (x : World) (h : USl x (.slice (some ⟨gp, 0, none⟩) 5 5) exS) :
    Calls Try.prog 18 #[.agg #[.int .i64 5, .int .i64 1, .slice (some ⟨gp, 0, none⟩) 5 5], .int .i64 1, .int .i64 3, .int .i64 1, .int .i64 1, .agg #[.int .i64 1, .int .i64 0, .int .i64 3, .int .i64 1]] x fun e w' => ∃ g, e = .returned (.tuple #[.agg #[.int .i64 2, .int .i64 1, .slice (some ⟨g, 0, none⟩) 2 2], .int .i64 0]) ∧ USl w' (.slice (some ⟨g, 0, none⟩) 2 2) [1065353216, 1073741824] ∧ Qb x w' := by
  have hC := part_any 5 1 (some ⟨gp, 0, none⟩) 5 5 exS 1 3 1 1 1 0 3 1 x h rfl exS_lt (by decide)
  refine Calls.mono hC ?_
  rintro e w' ⟨a, b, ad', m, cc, E, rfl, hP⟩
  have h0 : paE 5 1 5 1 3 1 1 1 0 3 1 = 0 := by decide
  rw [h0] at hP
  obtain ⟨g, rfl, rfl, rfl, rfl, rfl, hV, _, _⟩ := hP.good rfl
  obtain rfl := hP.e
  exact ⟨g, rfl, usl_vr hV rfl (fun i (hi : i < 2) => by have : i = 0 ∨ i = 1 := (by omega); rcases this with rfl | rfl; exact ex_part.1; exact ex_part.2), hP.q⟩
theorem kn_e1 (gp : Nat) (x : World) (h : USl x (.slice (some ⟨gp, 0, none⟩) 5 5) exS) :
    Calls Try.prog 9 #[.agg #[.int .i64 5, .int .i64 1, .slice (some ⟨gp, 0, none⟩) 5 5], .int .i64 1, .int .i64 2, .int .i64 1, .int .i64 2] x fun e w' => e = .returned (.tuple #[.agg #[.int .i64 0, .int .i64 0, .slice none 0 0], .int .i64 121]) ∧ Qb x w' := by
  have hC := rplane_any 5 1 (some ⟨gp, 0, none⟩) 5 5 exS 1 2 1 2 x h rfl exS_lt (by decide)
  refine Calls.mono hC ?_
  rintro e w' ⟨a, b, ad', m, cc, E, rfl, hP⟩
  have h0 : rkE 5 1 5 1 2 1 2 = 121 := by decide
  rw [h0] at hP
  obtain ⟨rfl, rfl, rfl, rfl, rfl⟩ := hP.bad (by decide)
  obtain rfl := hP.e
  exact ⟨rfl, hP.q⟩
theorem kn_e2 (gp : Nat) (x : World) (h : USl x (.slice (some ⟨gp, 0, none⟩) 5 5) exS) :
    Calls Try.prog 9 #[.agg #[.int .i64 5, .int .i64 1, .slice (some ⟨gp, 0, none⟩) 5 5], .int .i64 1, .int .i64 16, .int .i64 1, .int .i64 0] x fun e w' => e = .returned (.tuple #[.agg #[.int .i64 0, .int .i64 0, .slice none 0 0], .int .i64 120]) ∧ Qb x w' := by
  have hC := rplane_any 5 1 (some ⟨gp, 0, none⟩) 5 5 exS 1 16 1 0 x h rfl exS_lt (by decide)
  refine Calls.mono hC ?_
  rintro e w' ⟨a, b, ad', m, cc, E, rfl, hP⟩
  have h0 : rkE 5 1 5 1 16 1 0 = 120 := by decide
  rw [h0] at hP
  obtain ⟨rfl, rfl, rfl, rfl, rfl⟩ := hP.bad (by decide)
  obtain rfl := hP.e
  exact ⟨rfl, hP.q⟩
theorem kn_at (gp : Nat) (x : World) (h : USl x (.slice (some ⟨gp, 0, none⟩) 5 5) exS) :
    Calls Try.prog 17 #[.agg #[.int .i64 5, .int .i64 1, .slice (some ⟨gp, 0, none⟩) 5 5], .int .i64 1, .int .i64 3, .int .i64 1, .int .i64 1, .int .i64 0, .int .i64 0] x fun e w' => e = .returned (.tuple #[.int .u32 1065353216, .int .i64 0]) ∧ Qb x w' := by
  have hC := at12_any 5 1 (some ⟨gp, 0, none⟩) 5 5 exS 1 3 1 1 0 0 x h rfl exS_lt (by decide)
  have h0 : atE 5 1 5 1 3 1 1 0 0 = 0 := by decide
  have h1 : atW exS 5 1 5 1 3 1 1 0 0 = 1065353216 := by
    unfold atW
    rw [if_pos h0]
    exact ex_at
  rw [h0, h1] at hC
  exact hC
theorem kn_sorted (gp : Nat) (x : World) (h : USl x (.slice (some ⟨gp, 0, none⟩) 5 5) [1073741824, 2147483648, 4294967295, 0, 1065353216]) :
    Calls Try.prog 20 #[.slice (some ⟨gp, 0, none⟩) 5 5] x fun e w' => ∃ g, e = .returned (.slice (some ⟨g, 0, none⟩) 5 5) ∧ USl w' (.slice (some ⟨g, 0, none⟩) 5 5) [4294967295, 2147483648, 0, 1065353216, 1073741824] ∧ Qb x w' := by
  refine Calls.mono (sorted_any _ 5 5 _ x rfl h (by decide) (by decide)) ?_
  rintro e w' ⟨g, rfl, hI, _, _, _, q⟩
  rw [ex_sorted] at hI
  exact ⟨g, rfl, hI.usl (by decide), q⟩
/-- A literal list of five samples. -/
theorem lit5 (w : World) (a b c d e : Nat) : USl (w.alloc (.cells #[.int .u32 (a : Int), .int .u32 (b : Int), .int .u32 (c : Int), .int .u32 (d : Int), .int .u32 (e : Int)] 38)) (.slice (some ⟨w.heap.size, 0, none⟩) 5 5) [a, b, c, d, e] :=
  Or.inl ⟨w.heap.size, 0, 5, rfl, Nat.le_refl _, fun i hi => by
    have hi : i < 5 := hi
    have : i = 0 ∨ i = 1 ∨ i = 2 ∨ i = 3 ∨ i = 4 := by omega
    rcases this with rfl | rfl | rfl | rfl | rfl <;> simp [go_sem]⟩
theorem lit2 (w : World) (a b : Nat) : USl (w.alloc (.cells #[.int .u32 (a : Int), .int .u32 (b : Int)] 38)) (.slice (some ⟨w.heap.size, 0, none⟩) 2 2) [a, b] :=
  Or.inl ⟨w.heap.size, 0, 2, rfl, Nat.le_refl _, fun i hi => by
    have hi : i < 2 := hi
    have : i = 0 ∨ i = 1 := by omega
    rcases this with rfl | rfl <;> simp [go_sem]⟩
set_option maxHeartbeats 8000000 in
set_option maxRecDepth 100000 in
theorem known12_any (w : World) : Calls Try.prog 5 #[] w fun e w' => e = .returned (.bool true) ∧ Qb w w' := by
  obtain ⟨gp, hgp⟩ : ∃ gp, w.heap.size = gp := ⟨_, rfl⟩
  obtain ⟨w1, hw1⟩ : ∃ w1, w.alloc (.cells #[.int .u32 1065353216, .int .u32 2147483648, .int .u32 2143289345, .int .u32 1073741824, .int .u32 0] 38) = w1 := ⟨_, rfl⟩
  obtain ⟨bp, hbp⟩ : ∃ bp, w1.heap.size = bp := ⟨_, rfl⟩
  obtain ⟨w2, hw2⟩ : ∃ w2, w1.alloc (.cells #[.int .i64 5, .int .i64 1, .slice (some ⟨gp, 0, none⟩) 5 5] 24) = w2 := ⟨_, rfl⟩
  have HQ : Hid (Qb w w2 ∧ w2.cell? ⟨bp, 0, none⟩ = some (.int .i64 5) ∧ w2.cell? ⟨bp, 1, none⟩ = some (.int .i64 1) ∧ w2.cell? ⟨bp, 2, none⟩ = some (.slice (some ⟨gp, 0, none⟩) 5 5) ∧ USl w2 (.slice (some ⟨gp, 0, none⟩) 5 5) exS) := by
    have u := lit5 w 1065353216 2147483648 2143289345 1073741824 0
    have u : USl w1 (.slice (some ⟨gp, 0, none⟩) 5 5) exS := by rw [← hw1, ← hgp]; exact u
    rw [← hw2, ← hbp]
    refine ⟨?_, by simp [go_sem], by simp [go_sem], by simp [go_sem], u.nextB ((Qb.refl w1).alloc _)⟩
    rw [← hw1]
    exact ((Qb.refl w).alloc _).alloc _
  have k0 := HQ.out.2.1
  have k1 := HQ.out.2.2.1
  have k2 := HQ.out.2.2.2.1
  go_enter Try.func5, Try.ntmps5
  go_wp2_with fail
  clear hw1 hw2
  have HQw : Hid (Qb w w2) := HQ.out.1
  clear hbp hgp
  refine Calls.mono (kn_med gp _ (HQ.out.2.2.2.2.nextB (Qb.refl w2))) ?_
  rintro e x0 ⟨ga, rfl, hua, r0⟩
  obtain ⟨z0, hz0⟩ : ∃ z0, x0.alloc (.cells #[.int .i64 5, .int .i64 1, .slice (some ⟨ga, 0, none⟩) 5 5] 24) = z0 := ⟨_, rfl⟩
  have hq0 : Qb x0 z0 := by rw [← hz0]; exact (Qb.refl x0).alloc _
  have HUa : Hid (USl z0 (.slice (some ⟨ga, 0, none⟩) 5 5) [1065353216, 1065353216, 1073741824, 1073741824, 0] ∧ z0.cell? ⟨x0.heap.size, 2, none⟩ = some (.slice (some ⟨ga, 0, none⟩) 5 5)) := ⟨hua.nextB hq0, by rw [← hz0]; simp [go_sem]⟩
  have HB0 : Hid (Qb w2 z0 ∧ Qb w2 z0) := ⟨Qb.trans (Qb.refl w2) (r0.trans hq0), r0.trans hq0⟩
  have k0 := HB0.out.2.cell k0
  have k1 := HB0.out.2.cell k1
  have k2 := HB0.out.2.cell k2
  clear hua r0 hq0
  go_wp2_with fail
  clear hz0
  refine Calls.mono (kn_ero gp _ (HQ.out.2.2.2.2.nextB HB0.out.1)) ?_
  rintro e x1 ⟨gb, rfl, hub, r1⟩
  obtain ⟨z1, hz1⟩ : ∃ z1, x1.alloc (.cells #[.int .i64 5, .int .i64 1, .slice (some ⟨gb, 0, none⟩) 5 5] 24) = z1 := ⟨_, rfl⟩
  have hq1 : Qb x1 z1 := by rw [← hz1]; exact (Qb.refl x1).alloc _
  have HUb : Hid (USl z1 (.slice (some ⟨gb, 0, none⟩) 5 5) [2147483648, 2147483648, 2147483648, 0, 0] ∧ z1.cell? ⟨x1.heap.size, 2, none⟩ = some (.slice (some ⟨gb, 0, none⟩) 5 5)) := ⟨hub.nextB hq1, by rw [← hz1]; simp [go_sem]⟩
  have HB1 : Hid (Qb w2 z1 ∧ Qb z0 z1) := ⟨Qb.trans HB0.out.1 (r1.trans hq1), r1.trans hq1⟩
  have k0 := HB1.out.2.cell k0
  have k1 := HB1.out.2.cell k1
  have k2 := HB1.out.2.cell k2
  clear hub r1 hq1
  go_wp2_with fail
  clear hz1
  refine Calls.mono (kn_dil gp _ (HQ.out.2.2.2.2.nextB HB1.out.1)) ?_
  rintro e x2 ⟨gc, rfl, huc, r2⟩
  obtain ⟨z2, hz2⟩ : ∃ z2, x2.alloc (.cells #[.int .i64 5, .int .i64 1, .slice (some ⟨gc, 0, none⟩) 5 5] 24) = z2 := ⟨_, rfl⟩
  have hq2 : Qb x2 z2 := by rw [← hz2]; exact (Qb.refl x2).alloc _
  have HUc : Hid (USl z2 (.slice (some ⟨gc, 0, none⟩) 5 5) [1065353216, 2143289345, 2143289345, 2143289345, 1073741824] ∧ z2.cell? ⟨x2.heap.size, 2, none⟩ = some (.slice (some ⟨gc, 0, none⟩) 5 5)) := ⟨huc.nextB hq2, by rw [← hz2]; simp [go_sem]⟩
  have HB2 : Hid (Qb w2 z2 ∧ Qb z1 z2) := ⟨Qb.trans HB1.out.1 (r2.trans hq2), r2.trans hq2⟩
  have k0 := HB2.out.2.cell k0
  have k1 := HB2.out.2.cell k1
  have k2 := HB2.out.2.cell k2
  clear huc r2 hq2
  go_wp2_with fail
  clear hz2
  refine Calls.mono (kn_two gp _ (HQ.out.2.2.2.2.nextB HB2.out.1)) ?_
  rintro e x3 ⟨gd, rfl, hud, r3⟩
  obtain ⟨z3, hz3⟩ : ∃ z3, x3.alloc (.cells #[.int .i64 5, .int .i64 1, .slice (some ⟨gd, 0, none⟩) 5 5] 24) = z3 := ⟨_, rfl⟩
  have hq3 : Qb x3 z3 := by rw [← hz3]; exact (Qb.refl x3).alloc _
  have HUd : Hid (USl z3 (.slice (some ⟨gd, 0, none⟩) 5 5) [1065353216, 2147483648, 2147483648, 1073741824, 0] ∧ z3.cell? ⟨x3.heap.size, 2, none⟩ = some (.slice (some ⟨gd, 0, none⟩) 5 5)) := ⟨hud.nextB hq3, by rw [← hz3]; simp [go_sem]⟩
  have HB3 : Hid (Qb w2 z3 ∧ Qb z2 z3) := ⟨Qb.trans HB2.out.1 (r3.trans hq3), r3.trans hq3⟩
  have k0 := HB3.out.2.cell k0
  have k1 := HB3.out.2.cell k1
  have k2 := HB3.out.2.cell k2
  clear hud r3 hq3
  go_wp2_with fail
  clear hz3
  refine Calls.mono (kn_e1 gp _ (HQ.out.2.2.2.2.nextB HB3.out.1)) ?_
  rintro e x4 ⟨rfl, r4⟩
  obtain ⟨z4, hz4⟩ : ∃ z4, x4.alloc (.cells #[.int .i64 0, .int .i64 0, .slice none 0 0] 24) = z4 := ⟨_, rfl⟩
  have hq4 : Qb x4 z4 := by rw [← hz4]; exact (Qb.refl x4).alloc _
  have HB4 : Hid (Qb w2 z4 ∧ Qb z3 z4) := ⟨Qb.trans HB3.out.1 (r4.trans hq4), r4.trans hq4⟩
  have k0 := HB4.out.2.cell k0
  have k1 := HB4.out.2.cell k1
  have k2 := HB4.out.2.cell k2
  have m0 : z4.cell? ⟨x4.heap.size, 0, none⟩ = some (.int .i64 0) := by rw [← hz4]; simp [go_sem]
  have m1 : z4.cell? ⟨x4.heap.size, 1, none⟩ = some (.int .i64 0) := by rw [← hz4]; simp [go_sem]
  have m2 : z4.cell? ⟨x4.heap.size, 2, none⟩ = some (.slice none 0 0) := by rw [← hz4]; simp [go_sem]
  have mf0 : z4.frozen? ⟨x4.heap.size, 0, none⟩ = false := by rw [← hz4]; simp [go_sem]
  have mf1 : z4.frozen? ⟨x4.heap.size, 1, none⟩ = false := by rw [← hz4]; simp [go_sem]
  have mf2 : z4.frozen? ⟨x4.heap.size, 2, none⟩ = false := by rw [← hz4]; simp [go_sem]
  have ms0 := setcell_same m0
  have ms1 := setcell_same m1
  have ms2 := setcell_same m2
  clear r4 hq4
  go_wp2_with fail
  clear hz4
  refine Calls.mono (kn_e2 gp _ (HQ.out.2.2.2.2.nextB HB4.out.1)) ?_
  rintro e x5 ⟨rfl, r5⟩
  obtain ⟨z5, hz5⟩ : ∃ z5, x5.alloc (.cells #[.int .i64 0, .int .i64 0, .slice none 0 0] 24) = z5 := ⟨_, rfl⟩
  have hq5 : Qb x5 z5 := by rw [← hz5]; exact (Qb.refl x5).alloc _
  have HB5 : Hid (Qb w2 z5 ∧ Qb z4 z5) := ⟨Qb.trans HB4.out.1 (r5.trans hq5), r5.trans hq5⟩
  have k0 := HB5.out.2.cell k0
  have k1 := HB5.out.2.cell k1
  have k2 := HB5.out.2.cell k2
  have m0 : z5.cell? ⟨x5.heap.size, 0, none⟩ = some (.int .i64 0) := by rw [← hz5]; simp [go_sem]
  have m1 : z5.cell? ⟨x5.heap.size, 1, none⟩ = some (.int .i64 0) := by rw [← hz5]; simp [go_sem]
  have m2 : z5.cell? ⟨x5.heap.size, 2, none⟩ = some (.slice none 0 0) := by rw [← hz5]; simp [go_sem]
  have mf0 : z5.frozen? ⟨x5.heap.size, 0, none⟩ = false := by rw [← hz5]; simp [go_sem]
  have mf1 : z5.frozen? ⟨x5.heap.size, 1, none⟩ = false := by rw [← hz5]; simp [go_sem]
  have mf2 : z5.frozen? ⟨x5.heap.size, 2, none⟩ = false := by rw [← hz5]; simp [go_sem]
  have ms0 := setcell_same m0
  have ms1 := setcell_same m1
  have ms2 := setcell_same m2
  clear r5 hq5
  go_wp2_with fail
  clear hz5
  refine Calls.mono (kn_at gp _ (HQ.out.2.2.2.2.nextB HB5.out.1)) ?_
  rintro e x6 ⟨rfl, r6⟩
  have HB6 : Hid (Qb w2 x6 ∧ Qb z5 x6) := ⟨Qb.trans HB5.out.1 r6, r6⟩
  have k0 := HB6.out.2.cell k0
  have k1 := HB6.out.2.cell k1
  have k2 := HB6.out.2.cell k2
  clear r6
  go_wp2_with fail
  refine Calls.mono (kn_part gp _ (HQ.out.2.2.2.2.nextB HB6.out.1)) ?_
  rintro e x7 ⟨gq, rfl, huq, r7⟩
  obtain ⟨z7, hz7⟩ : ∃ z7, x7.alloc (.cells #[.int .i64 2, .int .i64 1, .slice (some ⟨gq, 0, none⟩) 2 2] 24) = z7 := ⟨_, rfl⟩
  have hq7 : Qb x7 z7 := by rw [← hz7]; exact (Qb.refl x7).alloc _
  have HUq : Hid (USl z7 (.slice (some ⟨gq, 0, none⟩) 2 2) [1065353216, 1073741824] ∧ z7.cell? ⟨x7.heap.size, 2, none⟩ = some (.slice (some ⟨gq, 0, none⟩) 2 2)) := ⟨huq.nextB hq7, by rw [← hz7]; simp [go_sem]⟩
  have HB7 : Hid (Qb w2 z7 ∧ Qb x6 z7) := ⟨Qb.trans HB6.out.1 (r7.trans hq7), r7.trans hq7⟩
  have k0 := HB7.out.2.cell k0
  have k1 := HB7.out.2.cell k1
  have k2 := HB7.out.2.cell k2
  clear huq r7 hq7
  have j2 := HUq.out.2
  go_wp2_with fail
  clear hz7
  have C17 : Hid (Qb z0 z7 ∧ Qb z1 z7 ∧ Qb z2 z7 ∧ Qb z3 z7) := ⟨HB1.out.2.trans (HB2.out.2.trans (HB3.out.2.trans (HB4.out.2.trans (HB5.out.2.trans (HB6.out.2.trans HB7.out.2))))), HB2.out.2.trans (HB3.out.2.trans (HB4.out.2.trans (HB5.out.2.trans (HB6.out.2.trans HB7.out.2)))), HB3.out.2.trans (HB4.out.2.trans (HB5.out.2.trans (HB6.out.2.trans HB7.out.2))), HB4.out.2.trans (HB5.out.2.trans (HB6.out.2.trans HB7.out.2))⟩
  clear k0 k1 k2 j2
  have CHq0 := Qb.refl z7
  have u0 : USl (z7.alloc (.cells #[.int .u32 1065353216, .int .u32 1073741824] 38)) (.slice (some ⟨z7.heap.size, 0, none⟩) 2 2) [1065353216, 1073741824] := lit2 z7 1065353216 1073741824
  have q0 : Qb z7 (z7.alloc (.cells #[.int .u32 1065353216, .int .u32 1073741824] 38)) := (Qb.refl z7).alloc _
  refine Calls.mono (words_eq _ _ _ _ (HUq.out.1.nextB (Qb.trans CHq0 q0)) u0 (by decide)) ?_
  rintro e y0 ⟨rfl, r0⟩
  have HY0 : Hid (Qb z7 y0) := q0.trans r0.qb
  clear u0 q0 r0
  clear CHq0
  go_wp2_with fail
  have us : USl (y0.alloc (.cells #[.int .u32 1073741824, .int .u32 2147483648, .int .u32 4294967295, .int .u32 0, .int .u32 1065353216] 38)) (.slice (some ⟨y0.heap.size, 0, none⟩) 5 5) [1073741824, 2147483648, 4294967295, 0, 1065353216] := lit5 y0 1073741824 2147483648 4294967295 0 1065353216
  have qs : Qb y0 (y0.alloc (.cells #[.int .u32 1073741824, .int .u32 2147483648, .int .u32 4294967295, .int .u32 0, .int .u32 1065353216] 38)) := (Qb.refl y0).alloc _
  refine Calls.mono (kn_sorted _ _ us) ?_
  rintro e yl ⟨gl, rfl, hul, rl⟩
  have HUl : Hid (USl yl (.slice (some ⟨gl, 0, none⟩) 5 5) [4294967295, 2147483648, 0, 1065353216, 1073741824] ∧ True) := ⟨hul, trivial⟩
  have HYl : Hid (Qb z7 yl) := HY0.out.trans (qs.trans rl)
  have ja := (C17.out.1.trans HYl.out).cell HUa.out.2
  clear us qs hul rl
  go_wp2_with fail
  have CHa1 := C17.out.1.trans HYl.out
  have u1 : USl (yl.alloc (.cells #[.int .u32 1065353216, .int .u32 1065353216, .int .u32 1073741824, .int .u32 1073741824, .int .u32 0] 38)) (.slice (some ⟨yl.heap.size, 0, none⟩) 5 5) [1065353216, 1065353216, 1073741824, 1073741824, 0] := lit5 yl 1065353216 1065353216 1073741824 1073741824 0
  have q1 : Qb yl (yl.alloc (.cells #[.int .u32 1065353216, .int .u32 1065353216, .int .u32 1073741824, .int .u32 1073741824, .int .u32 0] 38)) := (Qb.refl yl).alloc _
  refine Calls.mono (words_eq _ _ _ _ (HUa.out.1.nextB (Qb.trans CHa1 q1)) u1 (by decide)) ?_
  rintro e y1 ⟨rfl, r1⟩
  have HY1 : Hid (Qb yl y1) := q1.trans r1.qb
  clear u1 q1 r1
  clear CHa1
  have jb := (C17.out.2.1.trans (HYl.out.trans HY1.out)).cell HUb.out.2
  go_wp2_with fail
  have CHb2 := C17.out.2.1.trans (HYl.out.trans HY1.out)
  have u2 : USl (y1.alloc (.cells #[.int .u32 2147483648, .int .u32 2147483648, .int .u32 2147483648, .int .u32 0, .int .u32 0] 38)) (.slice (some ⟨y1.heap.size, 0, none⟩) 5 5) [2147483648, 2147483648, 2147483648, 0, 0] := lit5 y1 2147483648 2147483648 2147483648 0 0
  have q2 : Qb y1 (y1.alloc (.cells #[.int .u32 2147483648, .int .u32 2147483648, .int .u32 2147483648, .int .u32 0, .int .u32 0] 38)) := (Qb.refl y1).alloc _
  refine Calls.mono (words_eq _ _ _ _ (HUb.out.1.nextB (Qb.trans CHb2 q2)) u2 (by decide)) ?_
  rintro e y2 ⟨rfl, r2⟩
  have HY2 : Hid (Qb y1 y2) := q2.trans r2.qb
  clear u2 q2 r2
  clear CHb2
  have jc := (C17.out.2.2.1.trans ((HYl.out.trans HY1.out).trans HY2.out)).cell HUc.out.2
  go_wp2_with fail
  have CHc3 := C17.out.2.2.1.trans ((HYl.out.trans HY1.out).trans HY2.out)
  have u3 : USl (y2.alloc (.cells #[.int .u32 1065353216, .int .u32 2143289345, .int .u32 2143289345, .int .u32 2143289345, .int .u32 1073741824] 38)) (.slice (some ⟨y2.heap.size, 0, none⟩) 5 5) [1065353216, 2143289345, 2143289345, 2143289345, 1073741824] := lit5 y2 1065353216 2143289345 2143289345 2143289345 1073741824
  have q3 : Qb y2 (y2.alloc (.cells #[.int .u32 1065353216, .int .u32 2143289345, .int .u32 2143289345, .int .u32 2143289345, .int .u32 1073741824] 38)) := (Qb.refl y2).alloc _
  refine Calls.mono (words_eq _ _ _ _ (HUc.out.1.nextB (Qb.trans CHc3 q3)) u3 (by decide)) ?_
  rintro e y3 ⟨rfl, r3⟩
  have HY3 : Hid (Qb y2 y3) := q3.trans r3.qb
  clear u3 q3 r3
  clear CHc3
  have jd := (C17.out.2.2.2.trans (((HYl.out.trans HY1.out).trans HY2.out).trans HY3.out)).cell HUd.out.2
  go_wp2_with fail
  have CHd4 := C17.out.2.2.2.trans (((HYl.out.trans HY1.out).trans HY2.out).trans HY3.out)
  have u4 : USl (y3.alloc (.cells #[.int .u32 1065353216, .int .u32 2147483648, .int .u32 2147483648, .int .u32 1073741824, .int .u32 0] 38)) (.slice (some ⟨y3.heap.size, 0, none⟩) 5 5) [1065353216, 2147483648, 2147483648, 1073741824, 0] := lit5 y3 1065353216 2147483648 2147483648 1073741824 0
  have q4 : Qb y3 (y3.alloc (.cells #[.int .u32 1065353216, .int .u32 2147483648, .int .u32 2147483648, .int .u32 1073741824, .int .u32 0] 38)) := (Qb.refl y3).alloc _
  refine Calls.mono (words_eq _ _ _ _ (HUd.out.1.nextB (Qb.trans CHd4 q4)) u4 (by decide)) ?_
  rintro e y4 ⟨rfl, r4⟩
  have HY4 : Hid (Qb y3 y4) := q4.trans r4.qb
  clear u4 q4 r4
  clear CHd4
  go_wp2_with fail
  have CHl5 := (Qb.trans (Qb.trans (Qb.trans (Qb.trans (Qb.refl yl) HY1.out) HY2.out) HY3.out) HY4.out)
  have u5 : USl (y4.alloc (.cells #[.int .u32 4294967295, .int .u32 2147483648, .int .u32 0, .int .u32 1065353216, .int .u32 1073741824] 38)) (.slice (some ⟨y4.heap.size, 0, none⟩) 5 5) [4294967295, 2147483648, 0, 1065353216, 1073741824] := lit5 y4 4294967295 2147483648 0 1065353216 1073741824
  have q5 : Qb y4 (y4.alloc (.cells #[.int .u32 4294967295, .int .u32 2147483648, .int .u32 0, .int .u32 1065353216, .int .u32 1073741824] 38)) := (Qb.refl y4).alloc _
  refine Calls.mono (words_eq _ _ _ _ (HUl.out.1.nextB (Qb.trans CHl5 q5)) u5 (by decide)) ?_
  rintro e y5 ⟨rfl, r5⟩
  have HY5 : Hid (Qb y4 y5) := q5.trans r5.qb
  clear u5 q5 r5
  clear CHl5
  go_wp2_with fail
  go_ret
  exact ⟨rfl, HQw.out.trans (HB7.out.1.trans (((((HYl.out.trans HY1.out).trans HY2.out).trans HY3.out).trans HY4.out).trans HY5.out))⟩
end Go.Proofs.Ytikhmlcmmabapaa
/- rank: what is looked at; errors of the least and the greatest. -/
namespace Go.Proofs.Ytikhmlcmmabapaa
open Go.RowKit
set_option linter.unusedVariables false
set_option linter.unusedSimpArgs false

def smlR (pw ph : Int) (n : Nat) : Bool := decide ((n : Int) ≤ 2000) && decide (pw ≤ 4000) && decide (ph ≤ 4000)
set_option maxHeartbeats 2000000 in
theorem small12_any (pw ph : Int) (ad : Option Addr) (n c : Nat) (w : World) : Calls Try.prog 6 #[.agg #[.int .i64 pw, .int .i64 ph, .slice ad n c]] w fun e w' => e = .returned (.bool (smlR pw ph n)) ∧ Q w w' := by
  have HQ : Hid (∀ a b, Q w (w.alloc (.cells a b))) := fun a b => (Q.refl w).cells _ _
  unfold smlR
  by_cases h1 : (n : Int) ≤ 2000
  · by_cases h2 : pw ≤ 4000
    · by_cases h3 : ph ≤ 4000
      · simp only [h1, h2, h3, decide_true, Bool.and_true, Bool.true_and]
        go_enter Try.func6, Try.ntmps6
        go_wp2_with fail
        go_ret
        exact ⟨rfl, HQ.out _ _⟩
      · simp only [h1, h2, h3, decide_true, decide_false, Bool.and_true, Bool.true_and, Bool.and_false]
        go_enter Try.func6, Try.ntmps6
        go_wp2_with fail
        go_ret
        exact ⟨rfl, HQ.out _ _⟩
    · simp only [h1, h2, decide_true, decide_false, Bool.and_true, Bool.true_and, Bool.and_false, Bool.false_and]
      go_enter Try.func6, Try.ntmps6
      go_wp2_with fail
      go_ret
      exact ⟨rfl, HQ.out _ _⟩
  · simp only [h1, decide_false, Bool.false_and]
    go_enter Try.func6, Try.ntmps6
    go_wp2_with fail
    go_ret
    exact ⟨rfl, HQ.out _ _⟩
theorem rkE_most (pw ph : Int) (n : Nat) (bd W H : Int) : rkE pw ph n bd W H (cntV W H - 1) = rkE pw ph n bd W H 0 := by
  unfold rkE
  by_cases h0 : chk pw ph n = 0
  · rw [if_pos h0, if_pos h0]
    by_cases h1 : cntV W H = 0
    · rw [if_pos h1, if_pos h1]
    · have := cntV_bd W H
      rw [if_neg h1, if_neg h1, if_neg (by omega), if_neg (by omega), if_neg (by omega), if_neg (by omega)]
  · rw [if_neg h0, if_neg h0]
theorem borE_val (bd n : Int) : borE bd n = 0 ∨ borE bd n = 50 ∨ borE bd n = 53 := by
  unfold borE
  split
  · split
    · exact Or.inl rfl
    · exact Or.inr (Or.inl rfl)
  · exact Or.inr (Or.inr rfl)
/-- What is right stays right with other windows. -/
theorem rkE_good {pa pb b wa ha kk : Nat} (hsz : Size pa pb) (hb : b = 1 ∨ b = 2 ∨ b = 3) (a1 : 1 ≤ wa) (a2 : wa ≤ 15) (b1 : 1 ≤ ha) (b2 : ha ≤ 15) (hk : kk < wa * ha) : rkE pa pb (pa * pb) b wa ha kk = 0 := by
  unfold rkE
  have hc := cntV_of a1 a2 b1 b2
  have hp : 1 ≤ wa * ha := Nat.mul_pos a1 b1
  rw [if_pos (chk_size hsz), hc, if_neg (by omega), if_neg (by omega), if_neg (by omega)]
  unfold borE
  have h1 := hsz.a1
  have h2 := hsz.a2
  rw [if_pos (by omega), if_pos (sideB_true.2 ⟨by omega, by omega⟩)]
end Go.Proofs.Ytikhmlcmmabapaa
/- rank: answers where nothing is refused, and where something is. -/
namespace Go.Proofs.Ytikhmlcmmabapaa
open Go.RowKit
set_option linter.unusedVariables false
set_option linter.unusedSimpArgs false

/-- What is answered where nothing is refused. -/
def Rgd (x : World) (pa pb n : Nat) (L : List Nat) (e : Ending) (w' : World) : Prop := ∃ g, e = .returned (.tuple #[.agg #[.int .i64 (pa : Int), .int .i64 (pb : Int), .slice (some ⟨g, 0, none⟩) n n], .int .i64 0]) ∧ (UIs w' g 0 L ∧ x.heap.size ≤ g ∧ g < w'.heap.size ∧ ∀ j, w'.frozen? ⟨g, j, none⟩ = false) ∧ Qb x w'
theorem Pans.gd {x w' : World} {pa pb n : Nat} {S : List Nat} {bd wa ha k : Nat} {a b : Int} {ad : Option Addr} {m cc : Nat} {E : Int} (hn : n = pa * pb) (h : Pans x w' 0 pa pb (fun i => rnkV S pa pb bd wa ha k (i % pa) (i / pa)) a b ad m cc E) : Rgd x pa pb n (rnkL S pa pb bd wa ha k) (.returned (.tuple #[.agg #[.int .i64 a, .int .i64 b, .slice ad m cc], .int .i64 E])) w' := by
  obtain ⟨g, rfl, rfl, rfl, rfl, rfl, hV, h1, h2⟩ := h.good rfl
  obtain rfl := h.e
  subst hn
  refine ⟨g, rfl, ⟨fun i hi => ?_, h1, h2, hV.free⟩, h.q⟩
  rw [rnkL_len] at hi
  rw [Nat.zero_add, hV.cell i hi]
  unfold rnkL
  rw [tab_get hi]
def Rbd (x : World) (E : Int) (e : Ending) (w' : World) : Prop := e = .returned (.tuple #[.agg #[.int .i64 0, .int .i64 0, .slice none 0 0], .int .i64 E]) ∧ Qb x w'
theorem Pans.bd {x w' : World} {E0 : Int} {c d : Nat} {V : Nat → Nat} {a b : Int} {ad : Option Addr} {m cc : Nat} {E : Int} (h0 : E0 ≠ 0) (h : Pans x w' E0 c d V a b ad m cc E) : Rbd x E0 (.returned (.tuple #[.agg #[.int .i64 a, .int .i64 b, .slice ad m cc], .int .i64 E])) w' := by
  obtain ⟨rfl, rfl, rfl, rfl, rfl⟩ := h.bad h0
  obtain rfl := h.e
  exact ⟨rfl, h.q⟩
section
variable {pa pb b wa ha n c : Nat} {S : List Nat} {x : World} {g o : Nat}
theorem plane_gd {kk : Nat} (hU : UIs x g o S) (hcap : n ≤ c) (hS : S.length = n) (hn : n = pa * pb) (hSb : ∀ i, S.getD i 0 < 4294967296) (hsz : Size pa pb) (hb : b = 1 ∨ b = 2 ∨ b = 3) (a1 : 1 ≤ wa) (a2 : wa ≤ 15) (b1 : 1 ≤ ha) (b2 : ha ≤ 15) (hk : kk < wa * ha) :
    Calls Try.prog 9 #[.agg #[.int .i64 (pa : Int), .int .i64 (pb : Int), .slice (some ⟨g, o, none⟩) n c], .int .i64 (b : Int), .int .i64 (wa : Int), .int .i64 (ha : Int), .int .i64 (kk : Int)] x (Rgd x pa pb n (rnkL S pa pb b wa ha kk)) := by
  have hu : USl x (.slice (some ⟨g, o, none⟩) n c) S := by have := hU.usl (cap := c) (by omega); rw [hS] at this; exact this
  have := rplane_any (pa : Int) (pb : Int) (some ⟨g, o, none⟩) n c S b wa ha kk x hu hS hSb (by rw [hn]; have := hsz.ab; omega)
  rw [hn, rkE_good hsz hb a1 a2 b1 b2 hk, ← hn] at this
  refine Calls.mono this ?_
  rintro e w' ⟨a, b', ad', m, cc, E, rfl, hP⟩
  exact Pans.gd hn hP
theorem erode_gd (hU : UIs x g o S) (hcap : n ≤ c) (hS : S.length = n) (hn : n = pa * pb) (hSb : ∀ i, S.getD i 0 < 4294967296) (hsz : Size pa pb) (hb : b = 1 ∨ b = 2 ∨ b = 3) (a1 : 1 ≤ wa) (a2 : wa ≤ 15) (b1 : 1 ≤ ha) (b2 : ha ≤ 15) :
    Calls Try.prog 13 #[.agg #[.int .i64 (pa : Int), .int .i64 (pb : Int), .slice (some ⟨g, o, none⟩) n c], .int .i64 (b : Int), .int .i64 (wa : Int), .int .i64 (ha : Int)] x (Rgd x pa pb n (rnkL S pa pb b wa ha 0)) := by
  have hu : USl x (.slice (some ⟨g, o, none⟩) n c) S := by have := hU.usl (cap := c) (by omega); rw [hS] at this; exact this
  have := erode_any (pa : Int) (pb : Int) (some ⟨g, o, none⟩) n c S b wa ha x hu hS hSb (by rw [hn]; have := hsz.ab; omega)
  have h0 := rkE_good (kk := 0) hsz hb a1 a2 b1 b2 (Nat.mul_pos a1 b1)
  rw [← hn] at h0
  have h0 : rkE pa pb n b wa ha 0 = 0 := h0
  rw [h0] at this
  refine Calls.mono this ?_
  rintro e w' ⟨a, b', ad', m, cc, E, rfl, hP⟩
  exact Pans.gd hn hP
theorem dilate_gd (hU : UIs x g o S) (hcap : n ≤ c) (hS : S.length = n) (hn : n = pa * pb) (hSb : ∀ i, S.getD i 0 < 4294967296) (hsz : Size pa pb) (hb : b = 1 ∨ b = 2 ∨ b = 3) (a1 : 1 ≤ wa) (a2 : wa ≤ 15) (b1 : 1 ≤ ha) (b2 : ha ≤ 15) :
    Calls Try.prog 14 #[.agg #[.int .i64 (pa : Int), .int .i64 (pb : Int), .slice (some ⟨g, o, none⟩) n c], .int .i64 (b : Int), .int .i64 (wa : Int), .int .i64 (ha : Int)] x (Rgd x pa pb n (rnkL S pa pb b wa ha (wa * ha - 1))) := by
  have hu : USl x (.slice (some ⟨g, o, none⟩) n c) S := by have := hU.usl (cap := c) (by omega); rw [hS] at this; exact this
  have := dilate_any (pa : Int) (pb : Int) (some ⟨g, o, none⟩) n c S b wa ha x hu hS hSb (by rw [hn]; have := hsz.ab; omega)
  have hp := Nat.mul_pos a1 b1
  have hc : cntV wa ha - 1 = ((wa * ha - 1 : Nat) : Int) := by rw [cntV_of a1 a2 b1 b2]; omega
  rw [hc, hn, rkE_good hsz hb a1 a2 b1 b2 (by omega), ← hn] at this
  refine Calls.mono this ?_
  rintro e w' ⟨a, b', ad', m, cc, E, rfl, hP⟩
  exact Pans.gd hn hP
end
end Go.Proofs.Ytikhmlcmmabapaa
/- The statements' own keys; what rises. -/
namespace Go.Proofs.Ytikhmlcmmabapaa
open Go.RowKit
set_option linter.unusedVariables false
set_option linter.unusedSimpArgs false

theorem xorN {n : Nat} (h : n < 2147483648) : n ^^^ 2147483648 = n + 2147483648 := by
  have e : (2147483648 : Nat) = 2 ^ 31 := by decide
  rw [e] at h ⊢
  apply Nat.eq_of_testBit_eq
  intro j
  rw [Nat.testBit_xor, Nat.testBit_two_pow, Nat.add_comm]
  rcases Nat.lt_trichotomy j 31 with g | g | g
  · rw [Nat.testBit_two_pow_add_gt g, decide_eq_false (by omega)]; simp
  · subst g
    rw [Nat.testBit_two_pow_add_eq]; simp
  · have h1 : n < 2 ^ j := Nat.lt_trans h (Nat.pow_lt_pow_right (by decide) g)
    have h2 : 2 ^ 31 + n < 2 ^ j := Nat.lt_of_lt_of_le (by omega : 2 ^ 31 + n < 2 ^ 32) (Nat.pow_le_pow_right (by decide) g)
    rw [Nat.testBit_lt_two_pow h1, Nat.testBit_lt_two_pow h2, decide_eq_false (by omega)]; rfl
theorem xor_lo (s : Int) (h0 : 0 ≤ s) (h1 : s < 2147483648) : bits .xor .u32 s 2147483648 = s + 2147483648 := by
  go_bits2
  rw [xorN (by omega)]; omega
theorem xor_hi (s : Int) (h0 : 2147483648 ≤ s) (h1 : s ≤ 4294967295) : bits .xor .u32 s 2147483648 = s - 2147483648 := by
  go_bits2
  obtain ⟨n, hn⟩ : ∃ n, s.toNat = n + 2147483648 := ⟨s.toNat - 2147483648, by omega⟩
  rw [hn, ← xorN (by omega), Nat.xor_assoc, Nat.xor_self, Nat.xor_zero]; omega
theorem xor_turn {s : Nat} (h : s < 4294967296) : bits .xor .u32 (s : Int) 2147483648 = ((turnN s : Nat) : Int) := by
  unfold turnN
  by_cases g : s < 2147483648
  · rw [xor_lo _ (by omega) (by omega), if_pos g]; omega
  · rw [xor_hi _ (by omega) (by omega), if_neg g]; omega
theorem kkey_any (s : Nat) (h : s < 4294967296) (w : World) : Calls Try.prog 15 #[.int .u32 (s : Int)] w fun e w' => e = .returned (.int .u32 ((keyN s : Nat) : Int)) ∧ w' = w := by
  by_cases g : s < 2147483648
  · have h1 : (s : Int) / 2147483648 = 0 := by omega
    have e : ((keyN s : Nat) : Int) = (s : Int) + 2147483648 := by unfold keyN; rw [if_pos g]; omega
    rw [e]
    go_enter Try.func15, Try.ntmps15
    go_wp2_with fail
    go_ret
    exact ⟨rfl, rfl⟩
  · have h1 : (s : Int) / 2147483648 = 1 := by omega
    have e : ((keyN s : Nat) : Int) = 4294967295 - (s : Int) := by unfold keyN; rw [if_neg g]; omega
    rw [e]
    go_enter Try.func15, Try.ntmps15
    go_wp2_with fail
    go_ret
    exact ⟨rfl, rfl⟩
/-- A key kept between two, and made rough. -/
def clN (k a b : Nat) : Nat := min (max k (min a b)) (max a b)
def rsN (s lo hi dr : Nat) : Nat := fkeyN (clN (keyN s) (keyN lo) (keyN hi) / 2 ^ dr * 2 ^ dr)
theorem clN_lt {k a b : Nat} (hk : k < 4294967296) (ha : a < 4294967296) (hb : b < 4294967296) : clN k a b < 4294967296 := by unfold clN; omega
theorem fl_le (n dr : Nat) : n / 2 ^ dr * 2 ^ dr ≤ n := Nat.div_mul_le_self n _
theorem rsN_lt {s lo hi dr : Nat} (h : s < 4294967296) (hl : lo < 4294967296) (hh : hi < 4294967296) : rsN s lo hi dr < 4294967296 := by
  have h1 := clN_lt (keyN_lt h) (keyN_lt hl) (keyN_lt hh)
  have h2 := fl_le (clN (keyN s) (keyN lo) (keyN hi)) dr
  exact fkeyN_lt (by omega)
theorem rsN_rises {lo hi dr : Nat} (hl : lo < 4294967296) (hh : hi < 4294967296) (a b : Nat) (ha : a < 4294967296) (hb : b < 4294967296) (h : keyN a ≤ keyN b) : keyN (rsN a lo hi dr) ≤ keyN (rsN b lo hi dr) := by
  have a1 := clN_lt (keyN_lt ha) (keyN_lt hl) (keyN_lt hh)
  have a2 := fl_le (clN (keyN a) (keyN lo) (keyN hi)) dr
  have b1 := clN_lt (keyN_lt hb) (keyN_lt hl) (keyN_lt hh)
  have b2 := fl_le (clN (keyN b) (keyN lo) (keyN hi)) dr
  unfold rsN
  rw [key_fkey (by omega), key_fkey (by omega)]
  exact Nat.mul_le_mul_right _ (Nat.div_le_div_right (by unfold clN; omega))
end Go.Proofs.Ytikhmlcmmabapaa
/- Two rows being written, and what stands by (out of RkT). -/
namespace Go.Proofs.Ytikhmlcmmabapaa
open Go.RowKit
set_option linter.unusedVariables false
set_option linter.unusedSimpArgs false

/-- Two copies being written. -/
structure Tw (wp x : World) (g1 g2 r1 r2 pa pb n c1 c2 : Nat) (F1 F2 : Nat → Nat) : Prop where
  q : Qb wp x
  c10 : x.cell? ⟨g1, 0, none⟩ = some (.int .i64 (pa : Int))
  c11 : x.cell? ⟨g1, 1, none⟩ = some (.int .i64 (pb : Int))
  c12 : x.cell? ⟨g1, 2, none⟩ = some (.slice (some ⟨r1, 0, none⟩) n c1)
  c20 : x.cell? ⟨g2, 0, none⟩ = some (.int .i64 (pa : Int))
  c21 : x.cell? ⟨g2, 1, none⟩ = some (.int .i64 (pb : Int))
  c22 : x.cell? ⟨g2, 2, none⟩ = some (.slice (some ⟨r2, 0, none⟩) n c2)
  v1 : VR x r1 n (fun j => .int .u32 ((F1 j : Nat) : Int))
  v2 : VR x r2 n (fun j => .int .u32 ((F2 j : Nat) : Int))
  n12 : r1 ≠ r2
  n1a : r1 ≠ g1
  n1b : r1 ≠ g2
  n2a : r2 ≠ g1
  n2b : r2 ≠ g2
  l1 : wp.heap.size ≤ r1
  l2 : wp.heap.size ≤ r2
theorem Tw.drew {wp x : World} {g1 g2 r1 r2 pa pb n c1 c2 : Nat} {F1 F2 : Nat → Nat} (h : Tw wp x g1 g2 r1 r2 pa pb n c1 c2 F1 F2) : Tw wp x.drew g1 g2 r1 r2 pa pb n c1 c2 F1 F2 :=
  ⟨h.q.drew, h.c10, h.c11, h.c12, h.c20, h.c21, h.c22, ⟨h.v1.cell, h.v1.free⟩, ⟨h.v2.cell, h.v2.free⟩, h.n12, h.n1a, h.n1b, h.n2a, h.n2b, h.l1, h.l2⟩
theorem cell_other {x : World} {b o g i : Nat} {z u : Value} (hb : b ≠ g) (hz : x.cell? ⟨b, o, none⟩ = some z) : (x.setCell ⟨g, i, none⟩ u).cell? ⟨b, o, none⟩ = some z := by
  rw [World.cell?_setCell_other _ _ _ _ (fun e => hb (by injection e with e1; exact e1.symm))]; exact hz
theorem Tw.put1 {wp x : World} {g1 g2 r1 r2 pa pb n c1 c2 i : Nat} {F1 F2 G : Nat → Nat} (h : Tw wp x g1 g2 r1 r2 pa pb n c1 c2 F1 F2) (hi : i < n) {v : Nat} (hv : G i = v) (ho : ∀ j, j < n → j ≠ i → G j = F1 j) : Tw wp (x.setCell ⟨r1, i, none⟩ (.int .u32 (v : Int))) g1 g2 r1 r2 pa pb n c1 c2 G F2 :=
  ⟨h.q.set h.l1 _, cell_other h.n1a.symm h.c10, cell_other h.n1a.symm h.c11, cell_other h.n1a.symm h.c12, cell_other h.n1b.symm h.c20, cell_other h.n1b.symm h.c21, cell_other h.n1b.symm h.c22, h.v1.put hi (by rw [hv]) (fun j hj hne => by rw [ho j hj hne]), h.v2.other h.n12 _, h.n12, h.n1a, h.n1b, h.n2a, h.n2b, h.l1, h.l2⟩
theorem Tw.put2 {wp x : World} {g1 g2 r1 r2 pa pb n c1 c2 i : Nat} {F1 F2 G : Nat → Nat} (h : Tw wp x g1 g2 r1 r2 pa pb n c1 c2 F1 F2) (hi : i < n) {v : Nat} (hv : G i = v) (ho : ∀ j, j < n → j ≠ i → G j = F2 j) : Tw wp (x.setCell ⟨r2, i, none⟩ (.int .u32 (v : Int))) g1 g2 r1 r2 pa pb n c1 c2 F1 G :=
  ⟨h.q.set h.l2 _, cell_other h.n2a.symm h.c10, cell_other h.n2a.symm h.c11, cell_other h.n2a.symm h.c12, cell_other h.n2b.symm h.c20, cell_other h.n2b.symm h.c21, cell_other h.n2b.symm h.c22, h.v1.other (fun e => h.n12 e.symm) _, h.v2.put hi (by rw [hv]) (fun j hj hne => by rw [ho j hj hne]), h.n12, h.n1a, h.n1b, h.n2a, h.n2b, h.l1, h.l2⟩
/-- A list mapped as far as k. -/
def mapK (f : Nat → Nat) (S : List Nat) (k j : Nat) : Nat := if j < k then f (S.getD j 0) else S.getD j 0
theorem mapK_step {f : Nat → Nat} {S : List Nat} {k n : Nat} : ∀ j, j < n → j ≠ k → mapK f S (k + 1) j = mapK f S k j := fun j _ hj => by
  unfold mapK
  by_cases h : j < k
  · rw [if_pos (by omega), if_pos h]
  · rw [if_neg (by omega), if_neg h]
theorem mapK_new {f : Nat → Nat} {S : List Nat} {k : Nat} : mapK f S (k + 1) k = f (S.getD k 0) := by unfold mapK; rw [if_pos (by omega)]
theorem map_getD {f : Nat → Nat} {S : List Nat} {i : Nat} (h : i < S.length) : (S.map f).getD i 0 = f (S.getD i 0) := by
  rw [List.getD_eq_getElem?_getD, List.getElem?_map, List.getD_eq_getElem?_getD, List.getElem?_eq_getElem h]; rfl
theorem map_lt {f : Nat → Nat} {S : List Nat} (hS : ∀ i, S.getD i 0 < 4294967296) (hf : ∀ s, s < 4294967296 → f s < 4294967296) (i : Nat) : (S.map f).getD i 0 < 4294967296 := by
  by_cases h : i < S.length
  · rw [map_getD h]; exact hf _ (hS i)
  · rw [List.getD_eq_getElem?_getD, List.getElem?_eq_none (by simpa using h)]; decide
theorem mapK_all {f : Nat → Nat} {S : List Nat} {x : World} {r n : Nat} (hl : S.length = n) (h : VR x r n (fun j => .int .u32 ((mapK f S n j : Nat) : Int))) : UIs x r 0 (S.map f) := fun i hi => by
  have hi' : i < n := by rw [List.length_map, hl] at hi; exact hi
  rw [Nat.zero_add, h.cell i hi', map_getD (by omega)]
  unfold mapK
  rw [if_pos hi']
theorem rnkL_at {S : List Nat} {pa pb bd w h k i : Nat} (hi : i < pa * pb) : (rnkL S pa pb bd w h k).getD i 0 = rnkV S pa pb bd w h k (i % pa) (i / pa) := by unfold rnkL; rw [tab_get hi]
set_option maxHeartbeats 2000000 in
theorem sized_yes (a b : Int) (p q : Option Addr) (n c d : Nat) (w : World) : Calls Try.prog 16 #[.agg #[.int .i64 a, .int .i64 b, .slice p n c], .agg #[.int .i64 a, .int .i64 b, .slice q n d]] w fun e w' => e = .returned (.bool true) ∧ Q w w' := by
  have HQ : Hid (∀ a b c d, Q w ((w.alloc (.cells a b)).alloc (.cells c d))) := fun a b c d => ((Q.refl w).cells _ _).cells _ _
  have h1 : (a == a) = true := by simp
  have h2 : (b == b) = true := by simp
  have h3 : ((n : Int) == (n : Int)) = true := by simp
  go_enter Try.func16, Try.ntmps16
  go_wp2_with fail
  go_ret
  exact ⟨rfl, HQ.out _ _ _ _⟩
theorem drop_rem (dp : Int) : ∃ (t : Int) (dr : Nat), Int.tmod dp 32 = t ∧ -32 < t ∧ t < 32 ∧ Int.tmod (t + 32) 32 = (dr : Int) ∧ dr < 32 := by
  have h := tmod_mod dp 32 (by decide)
  obtain ⟨t, ht⟩ : ∃ t, Int.tmod dp 32 = t := ⟨_, rfl⟩
  rw [ht] at h
  have h2 := tmod_mod (t + 32) 32 (by decide)
  have h3 : 0 ≤ Int.tmod (t + 32) 32 := Int.tmod_nonneg _ (by omega)
  exact ⟨t, (Int.tmod (t + 32) 32).toNat, ht, by omega, by omega, by omega, by omega⟩
end Go.Proofs.Ytikhmlcmmabapaa
