/- rank: the chapter's examples, walked. -/
import Derived.Test.YtdfdbamopeocjaaG815b4b31
import Derived.Test.YtdfdbamopeocjaaG4987d4ad
import Derived.Test.YtdfdbamopeocjaaGbc938c7d
namespace Go.Proofs.Ytdfdbamopeocjaa
open Go.RowKit
set_option linter.unusedVariables false
set_option linter.unusedSimpArgs false

theorem usl_vr {w : World} {g n : Nat} {V : Nat → Nat} {l : List Nat} (h : VR w g n (fun i => .int .u32 ((V i : Nat) : Int))) (hl : l.length = n) (hv : ∀ i, i < n → V i = l.getD i 0) : USl w (.slice (some ⟨g, 0, none⟩) n n) l :=
  Or.inl ⟨g, 0, n, by rw [hl], by omega, fun i hi => by rw [Nat.zero_add, ← hv i (by omega)]; exact h.cell i (by omega)⟩
theorem setcell_same {w : World} {b o : Nat} {v : Value} (h : w.cell? ⟨b, o, none⟩ = some v) : w.setCell ⟨b, o, none⟩ v = w := by
  have hh : w.heap.modify b (fun | .cells c e f => .cells (c.setIfInBounds o v) e f | x => x) = w.heap := by
    apply Array.ext_getElem?
    intro i
    rw [Array.getElem?_modify]
    by_cases hi : b = i
    · subst hi
      rw [if_pos rfl]
      unfold World.cell? at h
      cases hb : w.heap[b]? with
      | none => rfl
      | some ob =>
        rw [hb] at h
        cases ob with
        | cells c e f =>
          simp at h
          simp only [Option.map_some]
          congr 2
          apply Array.ext_getElem?
          intro k
          rw [Array.getElem?_setIfInBounds]
          split
          · rename_i hk; subst hk
            rw [h]
            split
            · rfl
            · rename_i hx; rw [Array.getElem?_eq_none (by omega)] at h; cases h
          · rfl
        | _ => rfl
    · rw [if_neg hi]
  refine Eq.trans ?_ (congrArg (fun z => ({ w with heap := z } : World)) hh)
  unfold World.setCell
  simp
  congr 1
  all_goals (funext ob; cases ob <;> rfl)
theorem kn_med (gp : Nat) (x : World) (h : USl x (.slice (some ⟨gp, 0, none⟩) 5 5) exS) :
    Calls Try.prog 16 #[.agg #[.int .i64 5, .int .i64 1, .slice (some ⟨gp, 0, none⟩) 5 5], .int .i64 1, .int .i64 3, .int .i64 1] x fun e w' => ∃ g, e = .returned (.tuple #[.agg #[.int .i64 5, .int .i64 1, .slice (some ⟨g, 0, none⟩) 5 5], .int .i64 0]) ∧ USl w' (.slice (some ⟨g, 0, none⟩) 5 5) [1065353216, 1065353216, 1073741824, 1073741824, 0] ∧ Qb x w' := by
  have hC := median_any 5 1 (some ⟨gp, 0, none⟩) 5 5 exS 1 3 1 x h rfl exS_lt (by decide)
  refine Calls.mono hC ?_
  rintro e w' ⟨a, b, ad', m, cc, E, rfl, hP⟩
  have h0 : rkE 5 1 5 1 3 1 (cntV 3 1 / 2) = 0 := by decide
  rw [h0] at hP
  obtain ⟨g, rfl, rfl, rfl, rfl, rfl, hV, _, _⟩ := hP.good rfl
  obtain rfl := hP.e
  exact ⟨g, rfl, usl_vr hV rfl ex_med, hP.q⟩
theorem kn_ero (gp : Nat) (x : World) (h : USl x (.slice (some ⟨gp, 0, none⟩) 5 5) exS) :
    Calls Try.prog 17 #[.agg #[.int .i64 5, .int .i64 1, .slice (some ⟨gp, 0, none⟩) 5 5], .int .i64 1, .int .i64 3, .int .i64 1] x fun e w' => ∃ g, e = .returned (.tuple #[.agg #[.int .i64 5, .int .i64 1, .slice (some ⟨g, 0, none⟩) 5 5], .int .i64 0]) ∧ USl w' (.slice (some ⟨g, 0, none⟩) 5 5) [2147483648, 2147483648, 2147483648, 0, 0] ∧ Qb x w' := by
  have hC := erode_any 5 1 (some ⟨gp, 0, none⟩) 5 5 exS 1 3 1 x h rfl exS_lt (by decide)
  refine Calls.mono hC ?_
  rintro e w' ⟨a, b, ad', m, cc, E, rfl, hP⟩
  have h0 : rkE 5 1 5 1 3 1 0 = 0 := by decide
  rw [h0] at hP
  obtain ⟨g, rfl, rfl, rfl, rfl, rfl, hV, _, _⟩ := hP.good rfl
  obtain rfl := hP.e
  exact ⟨g, rfl, usl_vr hV rfl ex_ero, hP.q⟩
theorem kn_dil (gp : Nat) (x : World) (h : USl x (.slice (some ⟨gp, 0, none⟩) 5 5) exS) :
    Calls Try.prog 18 #[.agg #[.int .i64 5, .int .i64 1, .slice (some ⟨gp, 0, none⟩) 5 5], .int .i64 1, .int .i64 3, .int .i64 1] x fun e w' => ∃ g, e = .returned (.tuple #[.agg #[.int .i64 5, .int .i64 1, .slice (some ⟨g, 0, none⟩) 5 5], .int .i64 0]) ∧ USl w' (.slice (some ⟨g, 0, none⟩) 5 5) [1065353216, 2143289345, 2143289345, 2143289345, 1073741824] ∧ Qb x w' := by
  have hC := dilate_any 5 1 (some ⟨gp, 0, none⟩) 5 5 exS 1 3 1 x h rfl exS_lt (by decide)
  refine Calls.mono hC ?_
  rintro e w' ⟨a, b, ad', m, cc, E, rfl, hP⟩
  have h0 : rkE 5 1 5 1 3 1 (cntV 3 1 - 1) = 0 := by decide
  rw [h0] at hP
  obtain ⟨g, rfl, rfl, rfl, rfl, rfl, hV, _, _⟩ := hP.good rfl
  obtain rfl := hP.e
  exact ⟨g, rfl, usl_vr hV rfl ex_dil, hP.q⟩
theorem kn_two (gp : Nat) (x : World) (h : USl x (.slice (some ⟨gp, 0, none⟩) 5 5) exS) :
    Calls Try.prog 13 #[.agg #[.int .i64 5, .int .i64 1, .slice (some ⟨gp, 0, none⟩) 5 5], .int .i64 1, .int .i64 2, .int .i64 1, .int .i64 0] x fun e w' => ∃ g, e = .returned (.tuple #[.agg #[.int .i64 5, .int .i64 1, .slice (some ⟨g, 0, none⟩) 5 5], .int .i64 0]) ∧ USl w' (.slice (some ⟨g, 0, none⟩) 5 5) [1065353216, 2147483648, 2147483648, 1073741824, 0] ∧ Qb x w' := by
  have hC := rplane_any 5 1 (some ⟨gp, 0, none⟩) 5 5 exS 1 2 1 0 x h rfl exS_lt (by decide)
  refine Calls.mono hC ?_
  rintro e w' ⟨a, b, ad', m, cc, E, rfl, hP⟩
  have h0 : rkE 5 1 5 1 2 1 0 = 0 := by decide
  rw [h0] at hP
  obtain ⟨g, rfl, rfl, rfl, rfl, rfl, hV, _, _⟩ := hP.good rfl
  obtain rfl := hP.e
  exact ⟨g, rfl, usl_vr hV rfl ex_two, hP.q⟩
theorem kn_part (gp : Nat) (x : World) (h : USl x (.slice (some ⟨gp, 0, none⟩) 5 5) exS) :
    Calls Try.prog 20 #[.agg #[.int .i64 5, .int .i64 1, .slice (some ⟨gp, 0, none⟩) 5 5], .int .i64 1, .int .i64 3, .int .i64 1, .int .i64 1, .agg #[.int .i64 1, .int .i64 0, .int .i64 3, .int .i64 1]] x fun e w' => ∃ g, e = .returned (.tuple #[.agg #[.int .i64 2, .int .i64 1, .slice (some ⟨g, 0, none⟩) 2 2], .int .i64 0]) ∧ USl w' (.slice (some ⟨g, 0, none⟩) 2 2) [1065353216, 1073741824] ∧ Qb x w' := by
  have hC := part_any 5 1 (some ⟨gp, 0, none⟩) 5 5 exS 1 3 1 1 1 0 3 1 x h rfl exS_lt (by decide)
  refine Calls.mono hC ?_
  rintro e w' ⟨a, b, ad', m, cc, E, rfl, hP⟩
  have h0 : paE 5 1 5 1 3 1 1 1 0 3 1 = 0 := by decide
  rw [h0] at hP
  obtain ⟨g, rfl, rfl, rfl, rfl, rfl, hV, _, _⟩ := hP.good rfl
  obtain rfl := hP.e
  exact ⟨g, rfl, usl_vr hV rfl (fun i (hi : i < 2) => by have : i = 0 ∨ i = 1 := (by omega); rcases this with rfl | rfl; exact ex_part.1; exact ex_part.2), hP.q⟩
theorem kn_e1 (gp : Nat) (x : World) (h : USl x (.slice (some ⟨gp, 0, none⟩) 5 5) exS) :
    Calls Try.prog 13 #[.agg #[.int .i64 5, .int .i64 1, .slice (some ⟨gp, 0, none⟩) 5 5], .int .i64 1, .int .i64 2, .int .i64 1, .int .i64 2] x fun e w' => e = .returned (.tuple #[.agg #[.int .i64 0, .int .i64 0, .slice none 0 0], .int .i64 121]) ∧ Qb x w' := by
  have hC := rplane_any 5 1 (some ⟨gp, 0, none⟩) 5 5 exS 1 2 1 2 x h rfl exS_lt (by decide)
  refine Calls.mono hC ?_
  rintro e w' ⟨a, b, ad', m, cc, E, rfl, hP⟩
  have h0 : rkE 5 1 5 1 2 1 2 = 121 := by decide
  rw [h0] at hP
  obtain ⟨rfl, rfl, rfl, rfl, rfl⟩ := hP.bad (by decide)
  obtain rfl := hP.e
  exact ⟨rfl, hP.q⟩
theorem kn_e2 (gp : Nat) (x : World) (h : USl x (.slice (some ⟨gp, 0, none⟩) 5 5) exS) :
    Calls Try.prog 13 #[.agg #[.int .i64 5, .int .i64 1, .slice (some ⟨gp, 0, none⟩) 5 5], .int .i64 1, .int .i64 16, .int .i64 1, .int .i64 0] x fun e w' => e = .returned (.tuple #[.agg #[.int .i64 0, .int .i64 0, .slice none 0 0], .int .i64 120]) ∧ Qb x w' := by
  have hC := rplane_any 5 1 (some ⟨gp, 0, none⟩) 5 5 exS 1 16 1 0 x h rfl exS_lt (by decide)
  refine Calls.mono hC ?_
  rintro e w' ⟨a, b, ad', m, cc, E, rfl, hP⟩
  have h0 : rkE 5 1 5 1 16 1 0 = 120 := by decide
  rw [h0] at hP
  obtain ⟨rfl, rfl, rfl, rfl, rfl⟩ := hP.bad (by decide)
  obtain rfl := hP.e
  exact ⟨rfl, hP.q⟩
theorem kn_at (gp : Nat) (x : World) (h : USl x (.slice (some ⟨gp, 0, none⟩) 5 5) exS) :
    Calls Try.prog 22 #[.agg #[.int .i64 5, .int .i64 1, .slice (some ⟨gp, 0, none⟩) 5 5], .int .i64 1, .int .i64 3, .int .i64 1, .int .i64 1, .int .i64 0, .int .i64 0] x fun e w' => e = .returned (.tuple #[.int .u32 1065353216, .int .i64 0]) ∧ Qb x w' := by
  have hC := at12_any 5 1 (some ⟨gp, 0, none⟩) 5 5 exS 1 3 1 1 0 0 x h rfl exS_lt (by decide)
  have h0 : atE 5 1 5 1 3 1 1 0 0 = 0 := by decide
  have h1 : atW exS 5 1 5 1 3 1 1 0 0 = 1065353216 := by
    unfold atW
    rw [if_pos h0]
    exact ex_at
  rw [h0, h1] at hC
  exact hC
theorem kn_sorted (gp : Nat) (x : World) (h : USl x (.slice (some ⟨gp, 0, none⟩) 5 5) [1073741824, 2147483648, 4294967295, 0, 1065353216]) :
    Calls Try.prog 23 #[.slice (some ⟨gp, 0, none⟩) 5 5] x fun e w' => ∃ g, e = .returned (.slice (some ⟨g, 0, none⟩) 5 5) ∧ USl w' (.slice (some ⟨g, 0, none⟩) 5 5) [4294967295, 2147483648, 0, 1065353216, 1073741824] ∧ Qb x w' := by
  refine Calls.mono (sorted_any _ 5 5 _ x rfl h (by decide) (by decide)) ?_
  rintro e w' ⟨g, rfl, hI, _, _, _, q⟩
  rw [ex_sorted] at hI
  exact ⟨g, rfl, hI.usl (by decide), q⟩
/-- A literal list of five samples. -/
theorem lit5 (w : World) (a b c d e : Nat) : USl (w.alloc (.cells #[.int .u32 (a : Int), .int .u32 (b : Int), .int .u32 (c : Int), .int .u32 (d : Int), .int .u32 (e : Int)] 41)) (.slice (some ⟨w.heap.size, 0, none⟩) 5 5) [a, b, c, d, e] :=
  Or.inl ⟨w.heap.size, 0, 5, rfl, Nat.le_refl _, fun i hi => by
    have hi : i < 5 := hi
    have : i = 0 ∨ i = 1 ∨ i = 2 ∨ i = 3 ∨ i = 4 := by omega
    rcases this with rfl | rfl | rfl | rfl | rfl <;> simp [go_sem]⟩
theorem lit2 (w : World) (a b : Nat) : USl (w.alloc (.cells #[.int .u32 (a : Int), .int .u32 (b : Int)] 41)) (.slice (some ⟨w.heap.size, 0, none⟩) 2 2) [a, b] :=
  Or.inl ⟨w.heap.size, 0, 2, rfl, Nat.le_refl _, fun i hi => by
    have hi : i < 2 := hi
    have : i = 0 ∨ i = 1 := by omega
    rcases this with rfl | rfl <;> simp [go_sem]⟩
set_option maxHeartbeats 8000000 in
set_option maxRecDepth 100000 in
theorem known12_any (w : World) : Calls Try.prog 9 #[] w fun e w' => e = .returned (.bool true) ∧ Qb w w' := by
  obtain ⟨gp, hgp⟩ : ∃ gp, w.heap.size = gp := ⟨_, rfl⟩
  obtain ⟨w1, hw1⟩ : ∃ w1, w.alloc (.cells #[.int .u32 1065353216, .int .u32 2147483648, .int .u32 2143289345, .int .u32 1073741824, .int .u32 0] 41) = w1 := ⟨_, rfl⟩
  obtain ⟨bp, hbp⟩ : ∃ bp, w1.heap.size = bp := ⟨_, rfl⟩
  obtain ⟨w2, hw2⟩ : ∃ w2, w1.alloc (.cells #[.int .i64 5, .int .i64 1, .slice (some ⟨gp, 0, none⟩) 5 5] 25) = w2 := ⟨_, rfl⟩
  have HQ : Hid (Qb w w2 ∧ w2.cell? ⟨bp, 0, none⟩ = some (.int .i64 5) ∧ w2.cell? ⟨bp, 1, none⟩ = some (.int .i64 1) ∧ w2.cell? ⟨bp, 2, none⟩ = some (.slice (some ⟨gp, 0, none⟩) 5 5) ∧ USl w2 (.slice (some ⟨gp, 0, none⟩) 5 5) exS) := by
    have u := lit5 w 1065353216 2147483648 2143289345 1073741824 0
    have u : USl w1 (.slice (some ⟨gp, 0, none⟩) 5 5) exS := by rw [← hw1, ← hgp]; exact u
    rw [← hw2, ← hbp]
    refine ⟨?_, by simp [go_sem], by simp [go_sem], by simp [go_sem], u.nextB ((Qb.refl w1).alloc _)⟩
    rw [← hw1]
    exact ((Qb.refl w).alloc _).alloc _
  have k0 := HQ.out.2.1
  have k1 := HQ.out.2.2.1
  have k2 := HQ.out.2.2.2.1
  go_enter Try.func9, Try.ntmps9
  go_wp2_with fail
  clear hw1 hw2
  have HQw : Hid (Qb w w2) := HQ.out.1
  clear hbp hgp
  refine Calls.mono (kn_med gp _ (HQ.out.2.2.2.2.nextB (Qb.refl w2))) ?_
  rintro e x0 ⟨ga, rfl, hua, r0⟩
  obtain ⟨z0, hz0⟩ : ∃ z0, x0.alloc (.cells #[.int .i64 5, .int .i64 1, .slice (some ⟨ga, 0, none⟩) 5 5] 25) = z0 := ⟨_, rfl⟩
  have hq0 : Qb x0 z0 := by rw [← hz0]; exact (Qb.refl x0).alloc _
  have HUa : Hid (USl z0 (.slice (some ⟨ga, 0, none⟩) 5 5) [1065353216, 1065353216, 1073741824, 1073741824, 0] ∧ z0.cell? ⟨x0.heap.size, 2, none⟩ = some (.slice (some ⟨ga, 0, none⟩) 5 5)) := ⟨hua.nextB hq0, by rw [← hz0]; simp [go_sem]⟩
  have HB0 : Hid (Qb w2 z0 ∧ Qb w2 z0) := ⟨Qb.trans (Qb.refl w2) (r0.trans hq0), r0.trans hq0⟩
  have k0 := HB0.out.2.cell k0
  have k1 := HB0.out.2.cell k1
  have k2 := HB0.out.2.cell k2
  clear hua r0 hq0
  go_wp2_with fail
  clear hz0
  refine Calls.mono (kn_ero gp _ (HQ.out.2.2.2.2.nextB HB0.out.1)) ?_
  rintro e x1 ⟨gb, rfl, hub, r1⟩
  obtain ⟨z1, hz1⟩ : ∃ z1, x1.alloc (.cells #[.int .i64 5, .int .i64 1, .slice (some ⟨gb, 0, none⟩) 5 5] 25) = z1 := ⟨_, rfl⟩
  have hq1 : Qb x1 z1 := by rw [← hz1]; exact (Qb.refl x1).alloc _
  have HUb : Hid (USl z1 (.slice (some ⟨gb, 0, none⟩) 5 5) [2147483648, 2147483648, 2147483648, 0, 0] ∧ z1.cell? ⟨x1.heap.size, 2, none⟩ = some (.slice (some ⟨gb, 0, none⟩) 5 5)) := ⟨hub.nextB hq1, by rw [← hz1]; simp [go_sem]⟩
  have HB1 : Hid (Qb w2 z1 ∧ Qb z0 z1) := ⟨Qb.trans HB0.out.1 (r1.trans hq1), r1.trans hq1⟩
  have k0 := HB1.out.2.cell k0
  have k1 := HB1.out.2.cell k1
  have k2 := HB1.out.2.cell k2
  clear hub r1 hq1
  go_wp2_with fail
  clear hz1
  refine Calls.mono (kn_dil gp _ (HQ.out.2.2.2.2.nextB HB1.out.1)) ?_
  rintro e x2 ⟨gc, rfl, huc, r2⟩
  obtain ⟨z2, hz2⟩ : ∃ z2, x2.alloc (.cells #[.int .i64 5, .int .i64 1, .slice (some ⟨gc, 0, none⟩) 5 5] 25) = z2 := ⟨_, rfl⟩
  have hq2 : Qb x2 z2 := by rw [← hz2]; exact (Qb.refl x2).alloc _
  have HUc : Hid (USl z2 (.slice (some ⟨gc, 0, none⟩) 5 5) [1065353216, 2143289345, 2143289345, 2143289345, 1073741824] ∧ z2.cell? ⟨x2.heap.size, 2, none⟩ = some (.slice (some ⟨gc, 0, none⟩) 5 5)) := ⟨huc.nextB hq2, by rw [← hz2]; simp [go_sem]⟩
  have HB2 : Hid (Qb w2 z2 ∧ Qb z1 z2) := ⟨Qb.trans HB1.out.1 (r2.trans hq2), r2.trans hq2⟩
  have k0 := HB2.out.2.cell k0
  have k1 := HB2.out.2.cell k1
  have k2 := HB2.out.2.cell k2
  clear huc r2 hq2
  go_wp2_with fail
  clear hz2
  refine Calls.mono (kn_two gp _ (HQ.out.2.2.2.2.nextB HB2.out.1)) ?_
  rintro e x3 ⟨gd, rfl, hud, r3⟩
  obtain ⟨z3, hz3⟩ : ∃ z3, x3.alloc (.cells #[.int .i64 5, .int .i64 1, .slice (some ⟨gd, 0, none⟩) 5 5] 25) = z3 := ⟨_, rfl⟩
  have hq3 : Qb x3 z3 := by rw [← hz3]; exact (Qb.refl x3).alloc _
  have HUd : Hid (USl z3 (.slice (some ⟨gd, 0, none⟩) 5 5) [1065353216, 2147483648, 2147483648, 1073741824, 0] ∧ z3.cell? ⟨x3.heap.size, 2, none⟩ = some (.slice (some ⟨gd, 0, none⟩) 5 5)) := ⟨hud.nextB hq3, by rw [← hz3]; simp [go_sem]⟩
  have HB3 : Hid (Qb w2 z3 ∧ Qb z2 z3) := ⟨Qb.trans HB2.out.1 (r3.trans hq3), r3.trans hq3⟩
  have k0 := HB3.out.2.cell k0
  have k1 := HB3.out.2.cell k1
  have k2 := HB3.out.2.cell k2
  clear hud r3 hq3
  go_wp2_with fail
  clear hz3
  refine Calls.mono (kn_e1 gp _ (HQ.out.2.2.2.2.nextB HB3.out.1)) ?_
  rintro e x4 ⟨rfl, r4⟩
  obtain ⟨z4, hz4⟩ : ∃ z4, x4.alloc (.cells #[.int .i64 0, .int .i64 0, .slice none 0 0] 25) = z4 := ⟨_, rfl⟩
  have hq4 : Qb x4 z4 := by rw [← hz4]; exact (Qb.refl x4).alloc _
  have HB4 : Hid (Qb w2 z4 ∧ Qb z3 z4) := ⟨Qb.trans HB3.out.1 (r4.trans hq4), r4.trans hq4⟩
  have k0 := HB4.out.2.cell k0
  have k1 := HB4.out.2.cell k1
  have k2 := HB4.out.2.cell k2
  have m0 : z4.cell? ⟨x4.heap.size, 0, none⟩ = some (.int .i64 0) := by rw [← hz4]; simp [go_sem]
  have m1 : z4.cell? ⟨x4.heap.size, 1, none⟩ = some (.int .i64 0) := by rw [← hz4]; simp [go_sem]
  have m2 : z4.cell? ⟨x4.heap.size, 2, none⟩ = some (.slice none 0 0) := by rw [← hz4]; simp [go_sem]
  have mf0 : z4.frozen? ⟨x4.heap.size, 0, none⟩ = false := by rw [← hz4]; simp [go_sem]
  have mf1 : z4.frozen? ⟨x4.heap.size, 1, none⟩ = false := by rw [← hz4]; simp [go_sem]
  have mf2 : z4.frozen? ⟨x4.heap.size, 2, none⟩ = false := by rw [← hz4]; simp [go_sem]
  have ms0 := setcell_same m0
  have ms1 := setcell_same m1
  have ms2 := setcell_same m2
  clear r4 hq4
  go_wp2_with fail
  clear hz4
  refine Calls.mono (kn_e2 gp _ (HQ.out.2.2.2.2.nextB HB4.out.1)) ?_
  rintro e x5 ⟨rfl, r5⟩
  obtain ⟨z5, hz5⟩ : ∃ z5, x5.alloc (.cells #[.int .i64 0, .int .i64 0, .slice none 0 0] 25) = z5 := ⟨_, rfl⟩
  have hq5 : Qb x5 z5 := by rw [← hz5]; exact (Qb.refl x5).alloc _
  have HB5 : Hid (Qb w2 z5 ∧ Qb z4 z5) := ⟨Qb.trans HB4.out.1 (r5.trans hq5), r5.trans hq5⟩
  have k0 := HB5.out.2.cell k0
  have k1 := HB5.out.2.cell k1
  have k2 := HB5.out.2.cell k2
  have m0 : z5.cell? ⟨x5.heap.size, 0, none⟩ = some (.int .i64 0) := by rw [← hz5]; simp [go_sem]
  have m1 : z5.cell? ⟨x5.heap.size, 1, none⟩ = some (.int .i64 0) := by rw [← hz5]; simp [go_sem]
  have m2 : z5.cell? ⟨x5.heap.size, 2, none⟩ = some (.slice none 0 0) := by rw [← hz5]; simp [go_sem]
  have mf0 : z5.frozen? ⟨x5.heap.size, 0, none⟩ = false := by rw [← hz5]; simp [go_sem]
  have mf1 : z5.frozen? ⟨x5.heap.size, 1, none⟩ = false := by rw [← hz5]; simp [go_sem]
  have mf2 : z5.frozen? ⟨x5.heap.size, 2, none⟩ = false := by rw [← hz5]; simp [go_sem]
  have ms0 := setcell_same m0
  have ms1 := setcell_same m1
  have ms2 := setcell_same m2
  clear r5 hq5
  go_wp2_with fail
  clear hz5
  refine Calls.mono (kn_at gp _ (HQ.out.2.2.2.2.nextB HB5.out.1)) ?_
  rintro e x6 ⟨rfl, r6⟩
  have HB6 : Hid (Qb w2 x6 ∧ Qb z5 x6) := ⟨Qb.trans HB5.out.1 r6, r6⟩
  have k0 := HB6.out.2.cell k0
  have k1 := HB6.out.2.cell k1
  have k2 := HB6.out.2.cell k2
  clear r6
  go_wp2_with fail
  refine Calls.mono (kn_part gp _ (HQ.out.2.2.2.2.nextB HB6.out.1)) ?_
  rintro e x7 ⟨gq, rfl, huq, r7⟩
  obtain ⟨z7, hz7⟩ : ∃ z7, x7.alloc (.cells #[.int .i64 2, .int .i64 1, .slice (some ⟨gq, 0, none⟩) 2 2] 25) = z7 := ⟨_, rfl⟩
  have hq7 : Qb x7 z7 := by rw [← hz7]; exact (Qb.refl x7).alloc _
  have HUq : Hid (USl z7 (.slice (some ⟨gq, 0, none⟩) 2 2) [1065353216, 1073741824] ∧ z7.cell? ⟨x7.heap.size, 2, none⟩ = some (.slice (some ⟨gq, 0, none⟩) 2 2)) := ⟨huq.nextB hq7, by rw [← hz7]; simp [go_sem]⟩
  have HB7 : Hid (Qb w2 z7 ∧ Qb x6 z7) := ⟨Qb.trans HB6.out.1 (r7.trans hq7), r7.trans hq7⟩
  have k0 := HB7.out.2.cell k0
  have k1 := HB7.out.2.cell k1
  have k2 := HB7.out.2.cell k2
  clear huq r7 hq7
  have j2 := HUq.out.2
  go_wp2_with fail
  clear hz7
  have C17 : Hid (Qb z0 z7 ∧ Qb z1 z7 ∧ Qb z2 z7 ∧ Qb z3 z7) := ⟨HB1.out.2.trans (HB2.out.2.trans (HB3.out.2.trans (HB4.out.2.trans (HB5.out.2.trans (HB6.out.2.trans HB7.out.2))))), HB2.out.2.trans (HB3.out.2.trans (HB4.out.2.trans (HB5.out.2.trans (HB6.out.2.trans HB7.out.2)))), HB3.out.2.trans (HB4.out.2.trans (HB5.out.2.trans (HB6.out.2.trans HB7.out.2))), HB4.out.2.trans (HB5.out.2.trans (HB6.out.2.trans HB7.out.2))⟩
  clear k0 k1 k2 j2
  have CHq0 := Qb.refl z7
  have u0 : USl (z7.alloc (.cells #[.int .u32 1065353216, .int .u32 1073741824] 41)) (.slice (some ⟨z7.heap.size, 0, none⟩) 2 2) [1065353216, 1073741824] := lit2 z7 1065353216 1073741824
  have q0 : Qb z7 (z7.alloc (.cells #[.int .u32 1065353216, .int .u32 1073741824] 41)) := (Qb.refl z7).alloc _
  refine Calls.mono (words_eq _ _ _ _ (HUq.out.1.nextB (Qb.trans CHq0 q0)) u0 (by decide)) ?_
  rintro e y0 ⟨rfl, r0⟩
  have HY0 : Hid (Qb z7 y0) := q0.trans r0.qb
  clear u0 q0 r0
  clear CHq0
  go_wp2_with fail
  have us : USl (y0.alloc (.cells #[.int .u32 1073741824, .int .u32 2147483648, .int .u32 4294967295, .int .u32 0, .int .u32 1065353216] 41)) (.slice (some ⟨y0.heap.size, 0, none⟩) 5 5) [1073741824, 2147483648, 4294967295, 0, 1065353216] := lit5 y0 1073741824 2147483648 4294967295 0 1065353216
  have qs : Qb y0 (y0.alloc (.cells #[.int .u32 1073741824, .int .u32 2147483648, .int .u32 4294967295, .int .u32 0, .int .u32 1065353216] 41)) := (Qb.refl y0).alloc _
  refine Calls.mono (kn_sorted _ _ us) ?_
  rintro e yl ⟨gl, rfl, hul, rl⟩
  have HUl : Hid (USl yl (.slice (some ⟨gl, 0, none⟩) 5 5) [4294967295, 2147483648, 0, 1065353216, 1073741824] ∧ True) := ⟨hul, trivial⟩
  have HYl : Hid (Qb z7 yl) := HY0.out.trans (qs.trans rl)
  have ja := (C17.out.1.trans HYl.out).cell HUa.out.2
  clear us qs hul rl
  go_wp2_with fail
  have CHa1 := C17.out.1.trans HYl.out
  have u1 : USl (yl.alloc (.cells #[.int .u32 1065353216, .int .u32 1065353216, .int .u32 1073741824, .int .u32 1073741824, .int .u32 0] 41)) (.slice (some ⟨yl.heap.size, 0, none⟩) 5 5) [1065353216, 1065353216, 1073741824, 1073741824, 0] := lit5 yl 1065353216 1065353216 1073741824 1073741824 0
  have q1 : Qb yl (yl.alloc (.cells #[.int .u32 1065353216, .int .u32 1065353216, .int .u32 1073741824, .int .u32 1073741824, .int .u32 0] 41)) := (Qb.refl yl).alloc _
  refine Calls.mono (words_eq _ _ _ _ (HUa.out.1.nextB (Qb.trans CHa1 q1)) u1 (by decide)) ?_
  rintro e y1 ⟨rfl, r1⟩
  have HY1 : Hid (Qb yl y1) := q1.trans r1.qb
  clear u1 q1 r1
  clear CHa1
  have jb := (C17.out.2.1.trans (HYl.out.trans HY1.out)).cell HUb.out.2
  go_wp2_with fail
  have CHb2 := C17.out.2.1.trans (HYl.out.trans HY1.out)
  have u2 : USl (y1.alloc (.cells #[.int .u32 2147483648, .int .u32 2147483648, .int .u32 2147483648, .int .u32 0, .int .u32 0] 41)) (.slice (some ⟨y1.heap.size, 0, none⟩) 5 5) [2147483648, 2147483648, 2147483648, 0, 0] := lit5 y1 2147483648 2147483648 2147483648 0 0
  have q2 : Qb y1 (y1.alloc (.cells #[.int .u32 2147483648, .int .u32 2147483648, .int .u32 2147483648, .int .u32 0, .int .u32 0] 41)) := (Qb.refl y1).alloc _
  refine Calls.mono (words_eq _ _ _ _ (HUb.out.1.nextB (Qb.trans CHb2 q2)) u2 (by decide)) ?_
  rintro e y2 ⟨rfl, r2⟩
  have HY2 : Hid (Qb y1 y2) := q2.trans r2.qb
  clear u2 q2 r2
  clear CHb2
  have jc := (C17.out.2.2.1.trans ((HYl.out.trans HY1.out).trans HY2.out)).cell HUc.out.2
  go_wp2_with fail
  have CHc3 := C17.out.2.2.1.trans ((HYl.out.trans HY1.out).trans HY2.out)
  have u3 : USl (y2.alloc (.cells #[.int .u32 1065353216, .int .u32 2143289345, .int .u32 2143289345, .int .u32 2143289345, .int .u32 1073741824] 41)) (.slice (some ⟨y2.heap.size, 0, none⟩) 5 5) [1065353216, 2143289345, 2143289345, 2143289345, 1073741824] := lit5 y2 1065353216 2143289345 2143289345 2143289345 1073741824
  have q3 : Qb y2 (y2.alloc (.cells #[.int .u32 1065353216, .int .u32 2143289345, .int .u32 2143289345, .int .u32 2143289345, .int .u32 1073741824] 41)) := (Qb.refl y2).alloc _
  refine Calls.mono (words_eq _ _ _ _ (HUc.out.1.nextB (Qb.trans CHc3 q3)) u3 (by decide)) ?_
  rintro e y3 ⟨rfl, r3⟩
  have HY3 : Hid (Qb y2 y3) := q3.trans r3.qb
  clear u3 q3 r3
  clear CHc3
  have jd := (C17.out.2.2.2.trans (((HYl.out.trans HY1.out).trans HY2.out).trans HY3.out)).cell HUd.out.2
  go_wp2_with fail
  have CHd4 := C17.out.2.2.2.trans (((HYl.out.trans HY1.out).trans HY2.out).trans HY3.out)
  have u4 : USl (y3.alloc (.cells #[.int .u32 1065353216, .int .u32 2147483648, .int .u32 2147483648, .int .u32 1073741824, .int .u32 0] 41)) (.slice (some ⟨y3.heap.size, 0, none⟩) 5 5) [1065353216, 2147483648, 2147483648, 1073741824, 0] := lit5 y3 1065353216 2147483648 2147483648 1073741824 0
  have q4 : Qb y3 (y3.alloc (.cells #[.int .u32 1065353216, .int .u32 2147483648, .int .u32 2147483648, .int .u32 1073741824, .int .u32 0] 41)) := (Qb.refl y3).alloc _
  refine Calls.mono (words_eq _ _ _ _ (HUd.out.1.nextB (Qb.trans CHd4 q4)) u4 (by decide)) ?_
  rintro e y4 ⟨rfl, r4⟩
  have HY4 : Hid (Qb y3 y4) := q4.trans r4.qb
  clear u4 q4 r4
  clear CHd4
  go_wp2_with fail
  have CHl5 := (Qb.trans (Qb.trans (Qb.trans (Qb.trans (Qb.refl yl) HY1.out) HY2.out) HY3.out) HY4.out)
  have u5 : USl (y4.alloc (.cells #[.int .u32 4294967295, .int .u32 2147483648, .int .u32 0, .int .u32 1065353216, .int .u32 1073741824] 41)) (.slice (some ⟨y4.heap.size, 0, none⟩) 5 5) [4294967295, 2147483648, 0, 1065353216, 1073741824] := lit5 y4 4294967295 2147483648 0 1065353216 1073741824
  have q5 : Qb y4 (y4.alloc (.cells #[.int .u32 4294967295, .int .u32 2147483648, .int .u32 0, .int .u32 1065353216, .int .u32 1073741824] 41)) := (Qb.refl y4).alloc _
  refine Calls.mono (words_eq _ _ _ _ (HUl.out.1.nextB (Qb.trans CHl5 q5)) u5 (by decide)) ?_
  rintro e y5 ⟨rfl, r5⟩
  have HY5 : Hid (Qb y4 y5) := q5.trans r5.qb
  clear u5 q5 r5
  clear CHl5
  go_wp2_with fail
  go_ret
  exact ⟨rfl, HQw.out.trans (HB7.out.1.trans (((((HYl.out.trans HY1.out).trans HY2.out).trans HY3.out).trans HY4.out).trans HY5.out))⟩
end Go.Proofs.Ytdfdbamopeocjaa
/- The statement RankSorted: its walk. -/
namespace Go.Proofs.Ytdfdbamopeocjaa
open Go.RowKit
set_option linter.unusedVariables false
set_option linter.unusedSimpArgs false

set_option maxHeartbeats 8000000 in
set_option maxRecDepth 100000 in
theorem rsort_walk (W0 : World) (ad : Option Addr) (n c : Nat) (L : List Nat) (us : USl W0 (.slice ad n c) L) (hL : L.length = n) (hb : ∀ s ∈ L, s < 4294967296) :
    Calls Try.prog 6 #[.slice ad n c] W0 fun e w' => e = .returned (.bool true) ∧ Qb W0 w' := by
  have HU : Hid (USl W0 (.slice ad n c) L ∧ L.length = n ∧ ∀ s ∈ L, s < 4294967296) := ⟨us, hL, hb⟩
  clear us hL hb
  go_enter Try.func6, Try.ntmps6
  go_wp2_with fail
  refine Calls.mono (known12_any _) ?_
  rintro e w1 ⟨rfl, q1⟩
  have H1 : Hid (Qb W0 w1) := q1
  clear q1
  by_cases hn : 2000 < n
  · have hn' : (2000 : Int) < (n : Int) := by omega
    go_wp2_with fail
    go_ret
    exact ⟨rfl, H1.out⟩
  · have hn' : ¬ (2000 : Int) < (n : Int) := by omega
    go_wp2_with (at_builtin; go_must (refine wpList_copyR _ rfl _ rfl ad n c L HU.out.2.1 (by omega) rfl (HU.out.1.nextB H1.out) ?_))
    intro la lc w2 q2 u2
    have H2 : Hid (Qb W0 w2 ∧ USl w2 (.slice la n lc) L) := ⟨H1.out.trans q2.qb, u2⟩
    clear q2 u2
    go_wp2_with fail
    refine Calls.mono (sorted_any L n lc la w2 HU.out.2.1 H2.out.2 HU.out.2.2 (by omega)) ?_
    rintro e w3 ⟨g, rfl, hI, _, _, _, q3⟩
    have H3 : Hid (Qb W0 w3 ∧ USl w3 (.slice (some ⟨g, 0, none⟩) n n) (rkL L) ∧ USl w3 (.slice la n lc) L) := by
      refine ⟨H2.out.1.trans q3, ?_, H2.out.2.nextB q3⟩
      have := hI.usl (cap := n) (by rw [rkL_len, HU.out.2.1]; exact Nat.le_refl n)
      rw [rkL_len, HU.out.2.1] at this
      exact this
    clear hI q3
    go_wp2_with fail
    refine Calls.mono (rsorted_any L n c ad w3 HU.out.2.1 (HU.out.1.nextB H3.out.1) HU.out.2.2 (by omega)) ?_
    rintro e w4 ⟨ad4, c4, rfl, u4, q4⟩
    have H4 : Hid (Qb W0 w4 ∧ USl w4 (.slice (some ⟨g, 0, none⟩) n n) (rkL L) ∧ USl w4 (.slice la n lc) L ∧ USl w4 (.slice ad4 n c4) (rkL L)) := ⟨H3.out.1.trans q4.qb, H3.out.2.1.next q4, H3.out.2.2.next q4, u4⟩
    clear u4 q4
    go_wp2_with fail
    refine Calls.mono (words_eq _ _ _ _ H4.out.2.1 H4.out.2.2.2 (by rw [rkL_len, HU.out.2.1]; omega)) ?_
    rintro e w5 ⟨rfl, q5⟩
    have H5 : Hid (Qb W0 w5 ∧ USl w5 (.slice la n lc) L ∧ USl w5 (.slice ad n c) L) := ⟨H4.out.1.trans q5.qb, H4.out.2.2.1.next q5, HU.out.1.nextB (H4.out.1.trans q5.qb)⟩
    clear q5
    go_wp2_with fail
    refine Calls.mono (words_eq _ _ _ _ H5.out.2.1 H5.out.2.2 (by rw [HU.out.2.1]; omega)) ?_
    rintro e w6 ⟨rfl, q6⟩
    have H6 : Hid (Qb W0 w6) := H5.out.1.trans q6.qb
    clear q6
    go_wp2_with fail
    go_ret
    exact ⟨rfl, H6.out⟩
theorem rsort_walk2 (W0 : World) (v : Value) (L : List Nat) (us : USl W0 v L) (hb : ∀ i, L.getD i 0 < 4294967296) :
    Calls Try.prog 6 #[v] W0 fun e w' => e = .returned (.bool true) ∧ Qb W0 w' := by
  obtain ⟨ad, c, rfl⟩ := us.form
  refine rsort_walk W0 ad L.length c L us rfl (fun s hs => ?_)
  obtain ⟨i, hi, rfl⟩ := List.getElem_of_mem hs
  have := hb i
  rw [List.getD_eq_getElem?_getD, List.getElem?_eq_getElem hi] at this
  exact this
end Go.Proofs.Ytdfdbamopeocjaa
