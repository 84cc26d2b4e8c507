/- known of layer 15: the chapter's examples. (gen_mxi.py) -/
import Derived.Test.YtkgojnjlfkijiaaGreatG46198478
import Derived.Test.YtkgojnjlfkijiaaGreatGb5d2037a
import Derived.Test.YtkgojnjlfkijiaaGreatG8dc64662
namespace Go.Proofs.YtkgojnjlfkijiaaGreat
open Go.RowKit
set_option linter.unusedVariables false
set_option linter.unusedSimpArgs false

set_option maxHeartbeats 1000000 in
theorem single_any (s : Nat) (w : World) : Calls Tryz.prog 25 #[.int .u32 (s : Int)] w fun e w' => ∃ b, e = .returned (.agg #[.int .i64 1, .int .i64 1, .slice (some ⟨b, 0, none⟩) 1 1]) ∧ w'.cell? ⟨b, 0, none⟩ = some (.int .u32 (s : Int)) ∧ w.heap.size ≤ b ∧ Q w w' := by
  obtain ⟨w1, hw1⟩ : ∃ w1, w.alloc (.cells #[.int .i64 0, .int .i64 0, .slice none 0 0] 52) = w1 := ⟨_, rfl⟩
  have H1 : Hid (Q w w1) := by show Q w w1; rw [← hw1]; exact (Q.refl w).cells _ _
  have r0 : w1.cell? ⟨w.heap.size, 0, none⟩ = some (.int .i64 0) := by rw [← hw1]; simp [go_sem]
  have r1 : w1.cell? ⟨w.heap.size, 1, none⟩ = some (.int .i64 0) := by rw [← hw1]; simp [go_sem]
  have r2 : w1.cell? ⟨w.heap.size, 2, none⟩ = some (.slice none 0 0) := by rw [← hw1]; simp [go_sem]
  have rf : ∀ j, w1.frozen? ⟨w.heap.size, j, none⟩ = false := fun j => by rw [← hw1]; simp [go_sem]
  have r0a := fun c t => ((Q.refl w1).cells c t).cell r0
  have r1a := fun c t => ((Q.refl w1).cells c t).cell r1
  have r2a := fun c t => ((Q.refl w1).cells c t).cell r2
  have rfa : ∀ c t j, (w1.alloc (.cells c t)).frozen? ⟨w.heap.size, j, none⟩ = false := fun c t j => (((Q.refl w1).cells c t).2 _).trans (rf j)
  have hlt := cell_in r0
  go_enter Tryz.func25, Tryz.ntmps25
  go_wp2_with fail
  obtain ⟨w2, hw2⟩ : ∃ w2, ((w1.setCell ⟨w.heap.size, 0, none⟩ (.int .i64 1)).setCell ⟨w.heap.size, 1, none⟩ (.int .i64 1)).setCell ⟨w.heap.size, 2, none⟩ (.slice (some ⟨w1.heap.size, 0, none⟩) 1 1) = w2 := ⟨_, rfl⟩
  have k0 : w2.cell? ⟨w.heap.size, 0, none⟩ = some (.int .i64 1) := by rw [← hw2]; simp [go_sem, r0, r1, r2]
  have k1 : w2.cell? ⟨w.heap.size, 1, none⟩ = some (.int .i64 1) := by rw [← hw2]; simp [go_sem, r0, r1, r2]
  have k2 : w2.cell? ⟨w.heap.size, 2, none⟩ = some (.slice (some ⟨w1.heap.size, 0, none⟩) 1 1) := by rw [← hw2]; simp [go_sem, r0, r1, r2]
  have hz : w2.heap.size = w1.heap.size := by rw [← hw2]; simp
  have H2 : Q w w2 := by rw [← hw2]; exact ((H1.out.set (Nat.le_refl _) _).set (Nat.le_refl _) _).set (Nat.le_refl _) _
  rw [hw2]
  have k0a := fun c t => ((Q.refl w2).cells c t).cell k0
  have k1a := fun c t => ((Q.refl w2).cells c t).cell k1
  have k2a := fun c t => ((Q.refl w2).cells c t).cell k2
  clear hw2 hw1 r0a r1a r2a rfa
  refine bodyPost_ret (v := .agg #[.int .i64 1, .int .i64 1, .slice (some ⟨w1.heap.size, 0, none⟩) 1 1]) (by simp [results, Tryz.results25, go_sem, k0a, k1a, k2a]) rfl ⟨w1.heap.size, rfl, ?_, by omega, H2.cells _ _⟩
  rw [← hz]
  simp [go_sem]
set_option maxHeartbeats 1000000 in
theorem at_any {w : World} {g o a b cap : Nat} {L : List PL} (sp : Int) (h : Pc w g o a b L) (hn : L.length = 4) (hm : a * b = 1) (k : Nat) (hk : k < 4) : Calls Tryz.prog 26 #[.agg #[.int .i64 sp, .slice (some ⟨g, o, none⟩) 4 cap], .int .i64 (k : Int)] w fun e w' => e = .returned (.int .u32 (pix (L.map PL.S) k 0 : Nat)) ∧ Q w w' := by
  obtain ⟨g1, o1, c1, v1, a1, b1, e1, l1⟩ := h.pix hm (p := k) (by omega) (j := 0) (by omega)
  rw [← e1]
  rw [Nat.add_zero] at b1
  have i0 : (0 : Int) ≤ (k : Int) := by omega
  have i1 : (k : Int) < 4 := by omega
  have a1 := fun c t => ((Q.refl w).cells c t).cell a1
  have b1 := fun c t => ((Q.refl w).cells c t).cell b1
  have HQ : Hid (∀ c t, Q w (w.alloc (.cells c t))) := fun c t => (Q.refl w).cells c t
  clear h e1
  go_enter Tryz.func26, Tryz.ntmps26
  go_wp2_with fail
  go_ret
  exact ⟨rfl, HQ.out _ _⟩
theorem kv0 : mxV 1 1056964608 1056964608 1065353216 1065353216 = 1065353216 := by decide +kernel
theorem kn0 (w : World) : Calls Tryz.prog 7 #[.int .i64 1, .int .u32 1056964608, .int .u32 1056964608, .int .u32 1065353216, .int .u32 1065353216] w fun e w' => e = .returned (.tuple #[.int .u32 1065353216, .int .i64 0]) ∧ Q w w' := by
  have := mone_any 1 1056964608 1056964608 1065353216 1065353216 (by decide) (by decide) (by decide) (by decide) w
  unfold oneR at this
  rw [if_pos (by decide), show Int.toNat 1 = 1 from rfl, kv0] at this
  exact this
theorem kv1 : mxV 2 1056964608 1056964608 1065353216 1048576000 = 1040187392 := by decide +kernel
theorem kn1 (w : World) : Calls Tryz.prog 7 #[.int .i64 2, .int .u32 1056964608, .int .u32 1056964608, .int .u32 1065353216, .int .u32 1048576000] w fun e w' => e = .returned (.tuple #[.int .u32 1040187392, .int .i64 0]) ∧ Q w w' := by
  have := mone_any 2 1056964608 1056964608 1065353216 1048576000 (by decide) (by decide) (by decide) (by decide) w
  unfold oneR at this
  rw [if_pos (by decide), show Int.toNat 2 = 2 from rfl, kv1] at this
  exact this
theorem kv2 : mxV 5 1056964608 1056964608 1056964608 1056964608 = 1056964608 := by decide +kernel
theorem kn2 (w : World) : Calls Tryz.prog 7 #[.int .i64 5, .int .u32 1056964608, .int .u32 1056964608, .int .u32 1056964608, .int .u32 1056964608] w fun e w' => e = .returned (.tuple #[.int .u32 1056964608, .int .i64 0]) ∧ Q w w' := by
  have := mone_any 5 1056964608 1056964608 1056964608 1056964608 (by decide) (by decide) (by decide) (by decide) w
  unfold oneR at this
  rw [if_pos (by decide), show Int.toNat 5 = 5 from rfl, kv2] at this
  exact this
theorem kn3 (w : World) : Calls Tryz.prog 7 #[.int .i64 7, .int .u32 0, .int .u32 0, .int .u32 0, .int .u32 0] w fun e w' => e = .returned (.tuple #[.int .u32 0, .int .i64 150]) ∧ Q w w' := by
  have := mone_any 7 0 0 0 0 (by decide) (by decide) (by decide) (by decide) w
  unfold oneR at this
  rw [if_neg (by decide)] at this
  exact this
theorem ksv0 : mstV 1065353216 1077936128 1048576000 = 1069547520 := by decide +kernel
theorem ksv1 : mstV 1065353216 2139095040 0 = 2143289344 := by decide +kernel
theorem ks0 (w : World) : Calls Tryz.prog 9 #[.int .u32 1065353216, .int .u32 1077936128, .int .u32 1048576000] w fun e w' => e = .returned (.int .u32 1069547520) ∧ Q w w' := by
  have := mstep_any 1065353216 1077936128 1048576000 (by decide) (by decide) (by decide) w
  rw [ksv0] at this
  exact this
theorem ks1 (w : World) : Calls Tryz.prog 9 #[.int .u32 1065353216, .int .u32 2139095040, .int .u32 0] w fun e w' => e = .returned (.int .u32 2143289344) ∧ Q w w' := by
  have := mstep_any 1065353216 2139095040 0 (by decide) (by decide) (by decide) w
  rw [ksv1] at this
  exact this
/-- The picture of the examples. -/
def exL (b0 b1 b2 b3 : Nat) : List PL := [⟨b0, 0, 1, [1056964608]⟩, ⟨b1, 0, 1, [2143289345]⟩, ⟨b2, 0, 1, [0]⟩, ⟨b3, 0, 1, [1048576000]⟩]
def exS : List (List Nat) := [[1056964608], [2143289345], [0], [1048576000]]
theorem us1 {w : World} {b s : Nat} (h : w.cell? ⟨b, 0, none⟩ = some (.int .u32 (s : Int))) : UIs w b 0 [s] := fun i hi => by
  have : i = 0 := by simpa using hi
  subst this
  exact h
theorem one_lt4 {s : Nat} (h : s < 4294967296) (i : Nat) : [s].getD i 0 < 4294967296 := by
  cases i with
  | zero => exact h
  | succ n => simp
theorem pc_four {w : World} {g b0 b1 b2 b3 s0 s1 s2 s3 : Nat} (hr : PIs w g 0 1 1 [⟨b0, 0, 1, [s0]⟩, ⟨b1, 0, 1, [s1]⟩, ⟨b2, 0, 1, [s2]⟩, ⟨b3, 0, 1, [s3]⟩]) (h0 : w.cell? ⟨b0, 0, none⟩ = some (.int .u32 (s0 : Int))) (h1 : w.cell? ⟨b1, 0, none⟩ = some (.int .u32 (s1 : Int))) (h2 : w.cell? ⟨b2, 0, none⟩ = some (.int .u32 (s2 : Int))) (h3 : w.cell? ⟨b3, 0, none⟩ = some (.int .u32 (s3 : Int)))
    (l0 : s0 < 4294967296) (l1 : s1 < 4294967296) (l2 : s2 < 4294967296) (l3 : s3 < 4294967296) : Pc w g 0 1 1 [⟨b0, 0, 1, [s0]⟩, ⟨b1, 0, 1, [s1]⟩, ⟨b2, 0, 1, [s2]⟩, ⟨b3, 0, 1, [s3]⟩] := by
  refine ⟨⟨by decide, by decide, by decide, by decide, by decide⟩, by show 1 ≤ 4; decide, by show 4 ≤ 4; decide, hr, fun x hx => ?_⟩
  simp only [List.mem_cons, List.not_mem_nil, or_false] at hx
  rcases hx with rfl | rfl | rfl | rfl
  · exact ⟨rfl, Nat.le_refl _, us1 h0, one_lt4 l0⟩
  · exact ⟨rfl, Nat.le_refl _, us1 h1, one_lt4 l1⟩
  · exact ⟨rfl, Nat.le_refl _, us1 h2, one_lt4 l2⟩
  · exact ⟨rfl, Nat.le_refl _, us1 h3, one_lt4 l3⟩
/-- Four planes of one place in a row that was made. -/
theorem row_four {w y : World} {t : TypeId} {b0 b1 b2 b3 s0 s1 s2 s3 : Nat} (hy : w.alloc (.cells #[.int .i64 1, .int .i64 1, .slice (some ⟨b0, 0, none⟩) 1 1, .int .i64 1, .int .i64 1, .slice (some ⟨b1, 0, none⟩) 1 1, .int .i64 1, .int .i64 1, .slice (some ⟨b2, 0, none⟩) 1 1, .int .i64 1, .int .i64 1, .slice (some ⟨b3, 0, none⟩) 1 1] t) = y) :
    PIs y w.heap.size 0 1 1 [⟨b0, 0, 1, [s0]⟩, ⟨b1, 0, 1, [s1]⟩, ⟨b2, 0, 1, [s2]⟩, ⟨b3, 0, 1, [s3]⟩] := fun i x hx => by
  rw [← hy]
  rcases (by have := (List.getElem?_eq_some_iff.1 hx).1; simp at this; omega : i = 0 ∨ i = 1 ∨ i = 2 ∨ i = 3) with rfl | rfl | rfl | rfl <;> (injection hx with hx; subst hx; exact ⟨by simp [go_sem], by simp [go_sem], by simp [go_sem, PL.v]⟩)
theorem kfd : fl (byaV quoV exS) 4 1 = [[1073741824], [2143289344], [0], [1048576000]] := by decide +kernel
theorem kfm : fl (byaV (fun s t => toldD ((Ieee.single.read s).product (Ieee.single.read t))) exS) 4 1 = [[1040187392], [2143289344], [0], [1048576000]] := by decide +kernel
theorem kff : fadV 1056964608 exS = [[1048576000], [2143289344], [0], [1040187392]] := by decide +kernel
theorem kfx : fl (mixP 1 exS exS) 4 1 = [[1063256064], [2143289344], [0], [1054867456]] := by decide +kernel
theorem kfb : fl (btwP 1056964608 exS exS) 4 1 = [[1056964608], [2143289344], [0], [1048576000]] := by decide +kernel
set_option maxHeartbeats 8000000 in
set_option maxRecDepth 100000 in
theorem known15_any (w : World) : Calls Tryz.prog 6 #[] w fun e w' => e = .returned (.bool true) ∧ Q w w' := by
  go_enter Tryz.func6, Tryz.ntmps6
  go_wp2_with fail
  refine (kn0 _).mono ?_
  rintro e w0 ⟨rfl, q0⟩
  go_wp2_with fail
  refine (kn1 _).mono ?_
  rintro e w1 ⟨rfl, q1⟩
  go_wp2_with fail
  refine (kn2 _).mono ?_
  rintro e w2 ⟨rfl, q2⟩
  go_wp2_with fail
  refine (kn3 _).mono ?_
  rintro e w3 ⟨rfl, q3⟩
  go_wp2_with fail
  refine (ks0 _).mono ?_
  rintro e w4 ⟨rfl, q4⟩
  go_wp2_with fail
  refine (ks1 _).mono ?_
  rintro e w5 ⟨rfl, q5⟩
  go_wp2_with fail
  have HQ : Hid (Q w w5) := ((((q0.trans q1).trans q2).trans q3).trans q4).trans q5
  clear q0 q1 q2 q3 q4 q5
  refine (single_any 1056964608 _).mono ?_
  rintro e w6 ⟨b0, rfl, c0, _, q6⟩
  have HQ : Hid (Q w w6) := HQ.out.trans q6
  clear q6
  go_wp2_with fail
  refine (single_any 2143289345 _).mono ?_
  rintro e w7 ⟨b1, rfl, c1, _, q7⟩
  have HQ : Hid (Q w w7) := HQ.out.trans q7
  have c0 := q7.cell c0
  clear q7
  go_wp2_with fail
  refine (single_any 0 _).mono ?_
  rintro e w8 ⟨b2, rfl, c2, _, q8⟩
  have HQ : Hid (Q w w8) := HQ.out.trans q8
  have c0 := q8.cell c0
  have c1 := q8.cell c1
  clear q8
  go_wp2_with fail
  refine (single_any 1048576000 _).mono ?_
  rintro e w9 ⟨b3, rfl, c3, _, q9⟩
  have HQ : Hid (Q w w9) := HQ.out.trans q9
  have c0 := q9.cell c0
  have c1 := q9.cell c1
  have c2 := q9.cell c2
  clear q9
  go_wp2_with fail
  obtain ⟨w10, hw10⟩ : ∃ y, w9.alloc (.cells #[.int .i64 1, .int .i64 1, .slice (some ⟨b0, 0, none⟩) 1 1, .int .i64 1, .int .i64 1, .slice (some ⟨b1, 0, none⟩) 1 1, .int .i64 1, .int .i64 1, .slice (some ⟨b2, 0, none⟩) 1 1, .int .i64 1, .int .i64 1, .slice (some ⟨b3, 0, none⟩) 1 1] 52) = y := ⟨_, rfl⟩
  have kr := row_four (s0 := 1056964608) (s1 := 2143289345) (s2 := 0) (s3 := 1048576000) hw10
  have k10 : Q w9 w10 := by rw [← hw10]; exact (Q.refl w9).cells _ _
  have hz : w10.heap.size = w9.heap.size + 1 := by rw [← hw10]; simp
  have HP : Hid (Pc w10 w9.heap.size 0 1 1 (exL b0 b1 b2 b3)) := pc_four kr (k10.cell c0) (k10.cell c1) (k10.cell c2) (k10.cell c3) (by decide) (by decide) (by decide) (by decide)
  have HS : Hid ((exL b0 b1 b2 b3).map PL.S = exS) := rfl
  have HL : Hid ((exL b0 b1 b2 b3).length = 4) := rfl
  rw [hw10]
  obtain ⟨G, hG⟩ : ∃ G, w9.heap.size = G := ⟨_, rfl⟩
  rw [hG] at HP hz ⊢
  generalize exL b0 b1 b2 b3 = L at *
  obtain ⟨w11, hw11⟩ : ∃ y, w10.alloc (.cells #[.int .i64 1, .slice (some ⟨G, 0, none⟩) 4 4] 33) = y := ⟨_, rfl⟩
  have k11 : Q w10 w11 := by rw [← hw11]; exact (Q.refl w10).cells _ _
  have p0 : w11.cell? ⟨G + 1, 0, none⟩ = some (.int .i64 1) := by rw [← hw11, ← hz]; simp [go_sem]
  have p1 : w11.cell? ⟨G + 1, 1, none⟩ = some (.slice (some ⟨G, 0, none⟩) 4 4) := by rw [← hw11, ← hz]; simp [go_sem]
  have HP : Hid (Pc w11 G 0 1 1 L) := HP.out.next k11
  have HQ : Hid (Q w w11) := (HQ.out.trans k10).trans k11
  have HSP : Hid (spcB 1 4 = true) := (by decide : spcB 1 4 = true)
  rw [hw11]
  clear c0 c1 c2 c3 hw10 hw11 k10 k11 kr hz hG
  refine (divide_good _ 1 G 0 1 1 4 1 L HP.out HL.out (Nat.le_refl _) HSP.out rfl).mono ?_
  rintro e x0 ⟨g0, cap0, M0, rfl, hM0, hW0, q0⟩
  have HQ : Hid (Q w x0) := HQ.out.trans q0
  have HP : Hid (Pc x0 G 0 1 1 L) := HP.out.next q0
  have p0 := q0.cell p0
  have p1 := q0.cell p1
  have R0 : Hid (Pc x0 g0 0 1 1 M0) := hW0.out.pc
  rw [HS.out, kfd] at hM0
  have S0 : Hid (M0.map PL.S = [[1073741824], [2143289344], [0], [1048576000]]) := hM0
  have N0 : Hid (M0.length = 4) := by have := congrArg List.length hM0; rw [List.length_map] at this; exact this
  clear hM0 hW0 q0
  have p0a := fun c t => ((Q.refl x0).cells c t).cell p0
  have p1a := fun c t => ((Q.refl x0).cells c t).cell p1
  go_wp2_with fail
  obtain ⟨y0, hy0⟩ : ∃ y, x0.alloc (.cells #[.int .i64 1, .slice (some ⟨g0, 0, none⟩) 4 cap0] 33) = y := ⟨_, rfl⟩
  have k0 : Q x0 y0 := by rw [← hy0]; exact (Q.refl x0).cells _ _
  have HQ : Hid (Q w y0) := HQ.out.trans k0
  have HP : Hid (Pc y0 G 0 1 1 L) := HP.out.next k0
  have p0 := k0.cell p0
  have p1 := k0.cell p1
  have R0 : Hid (Pc y0 g0 0 1 1 M0) := R0.out.next k0
  have d00 : y0.cell? ⟨x0.heap.size, 0, none⟩ = some (.int .i64 1) := by rw [← hy0]; simp [go_sem]
  have d01 : y0.cell? ⟨x0.heap.size, 1, none⟩ = some (.slice (some ⟨g0, 0, none⟩) 4 cap0) := by rw [← hy0]; simp [go_sem]
  rw [hy0]
  clear p0a p1a hy0 k0
  refine (multiply_good _ 1 G 0 1 1 4 1 L HP.out HL.out (Nat.le_refl _) HSP.out rfl).mono ?_
  rintro e x1 ⟨g1, cap1, M1, rfl, hM1, hW1, q1⟩
  have HQ : Hid (Q w x1) := HQ.out.trans q1
  have HP : Hid (Pc x1 G 0 1 1 L) := HP.out.next q1
  have p0 := q1.cell p0
  have p1 := q1.cell p1
  have d00 := q1.cell d00
  have d01 := q1.cell d01
  have R0 : Hid (Pc x1 g0 0 1 1 M0) := R0.out.next q1
  have R1 : Hid (Pc x1 g1 0 1 1 M1) := hW1.out.pc
  rw [HS.out, kfm] at hM1
  have S1 : Hid (M1.map PL.S = [[1040187392], [2143289344], [0], [1048576000]]) := hM1
  have N1 : Hid (M1.length = 4) := by have := congrArg List.length hM1; rw [List.length_map] at this; exact this
  clear hM1 hW1 q1
  have p0a := fun c t => ((Q.refl x1).cells c t).cell p0
  have p1a := fun c t => ((Q.refl x1).cells c t).cell p1
  have d00a := fun c t => ((Q.refl x1).cells c t).cell d00
  have d01a := fun c t => ((Q.refl x1).cells c t).cell d01
  go_wp2_with fail
  obtain ⟨y1, hy1⟩ : ∃ y, x1.alloc (.cells #[.int .i64 1, .slice (some ⟨g1, 0, none⟩) 4 cap1] 33) = y := ⟨_, rfl⟩
  have k1 : Q x1 y1 := by rw [← hy1]; exact (Q.refl x1).cells _ _
  have HQ : Hid (Q w y1) := HQ.out.trans k1
  have HP : Hid (Pc y1 G 0 1 1 L) := HP.out.next k1
  have p0 := k1.cell p0
  have p1 := k1.cell p1
  have d00 := k1.cell d00
  have d01 := k1.cell d01
  have R0 : Hid (Pc y1 g0 0 1 1 M0) := R0.out.next k1
  have R1 : Hid (Pc y1 g1 0 1 1 M1) := R1.out.next k1
  have d10 : y1.cell? ⟨x1.heap.size, 0, none⟩ = some (.int .i64 1) := by rw [← hy1]; simp [go_sem]
  have d11 : y1.cell? ⟨x1.heap.size, 1, none⟩ = some (.slice (some ⟨g1, 0, none⟩) 4 cap1) := by rw [← hy1]; simp [go_sem]
  rw [hy1]
  clear p0a p1a d00a d01a hy1 k1
  refine (fade_good 1056964608 _ 1 G 0 1 1 4 4 L HP.out HL.out (Nat.le_refl _) HSP.out).mono ?_
  rintro e x2 ⟨g2, cap2, M2, rfl, hM2, hW2, q2⟩
  have HQ : Hid (Q w x2) := HQ.out.trans q2
  have HP : Hid (Pc x2 G 0 1 1 L) := HP.out.next q2
  have p0 := q2.cell p0
  have p1 := q2.cell p1
  have d00 := q2.cell d00
  have d01 := q2.cell d01
  have d10 := q2.cell d10
  have d11 := q2.cell d11
  have R0 : Hid (Pc x2 g0 0 1 1 M0) := R0.out.next q2
  have R1 : Hid (Pc x2 g1 0 1 1 M1) := R1.out.next q2
  have R2 : Hid (Pc x2 g2 0 1 1 M2) := hW2.out.pc
  rw [HS.out, kff] at hM2
  have S2 : Hid (M2.map PL.S = [[1048576000], [2143289344], [0], [1040187392]]) := hM2
  have N2 : Hid (M2.length = 4) := by have := congrArg List.length hM2; rw [List.length_map] at this; exact this
  clear hM2 hW2 q2
  have p0a := fun c t => ((Q.refl x2).cells c t).cell p0
  have p1a := fun c t => ((Q.refl x2).cells c t).cell p1
  have d00a := fun c t => ((Q.refl x2).cells c t).cell d00
  have d01a := fun c t => ((Q.refl x2).cells c t).cell d01
  have d10a := fun c t => ((Q.refl x2).cells c t).cell d10
  have d11a := fun c t => ((Q.refl x2).cells c t).cell d11
  go_wp2_with fail
  obtain ⟨y2, hy2⟩ : ∃ y, x2.alloc (.cells #[.int .i64 1, .slice (some ⟨g2, 0, none⟩) 4 cap2] 33) = y := ⟨_, rfl⟩
  have k2 : Q x2 y2 := by rw [← hy2]; exact (Q.refl x2).cells _ _
  have HQ : Hid (Q w y2) := HQ.out.trans k2
  have HP : Hid (Pc y2 G 0 1 1 L) := HP.out.next k2
  have p0 := k2.cell p0
  have p1 := k2.cell p1
  have d00 := k2.cell d00
  have d01 := k2.cell d01
  have d10 := k2.cell d10
  have d11 := k2.cell d11
  have R0 : Hid (Pc y2 g0 0 1 1 M0) := R0.out.next k2
  have R1 : Hid (Pc y2 g1 0 1 1 M1) := R1.out.next k2
  have R2 : Hid (Pc y2 g2 0 1 1 M2) := R2.out.next k2
  have d20 : y2.cell? ⟨x2.heap.size, 0, none⟩ = some (.int .i64 1) := by rw [← hy2]; simp [go_sem]
  have d21 : y2.cell? ⟨x2.heap.size, 1, none⟩ = some (.slice (some ⟨g2, 0, none⟩) 4 cap2) := by rw [← hy2]; simp [go_sem]
  rw [hy2]
  clear p0a p1a d00a d01a d10a d11a hy2 k2
  refine (mix_good 1 (by decide) (by decide) _ 1 G 0 1 1 4 G 0 4 1 L L HP.out HL.out (Nat.le_refl _) HP.out HL.out (Nat.le_refl _) HSP.out rfl).mono ?_
  rintro e x3 ⟨g3, cap3, M3, rfl, hM3, hW3, q3⟩
  have HQ : Hid (Q w x3) := HQ.out.trans q3
  have HP : Hid (Pc x3 G 0 1 1 L) := HP.out.next q3
  have p0 := q3.cell p0
  have p1 := q3.cell p1
  have d00 := q3.cell d00
  have d01 := q3.cell d01
  have d10 := q3.cell d10
  have d11 := q3.cell d11
  have d20 := q3.cell d20
  have d21 := q3.cell d21
  have R0 : Hid (Pc x3 g0 0 1 1 M0) := R0.out.next q3
  have R1 : Hid (Pc x3 g1 0 1 1 M1) := R1.out.next q3
  have R2 : Hid (Pc x3 g2 0 1 1 M2) := R2.out.next q3
  have R3 : Hid (Pc x3 g3 0 1 1 M3) := hW3.out.pc
  rw [HS.out, kfx] at hM3
  have S3 : Hid (M3.map PL.S = [[1063256064], [2143289344], [0], [1054867456]]) := hM3
  have N3 : Hid (M3.length = 4) := by have := congrArg List.length hM3; rw [List.length_map] at this; exact this
  clear hM3 hW3 q3
  have p0a := fun c t => ((Q.refl x3).cells c t).cell p0
  have p1a := fun c t => ((Q.refl x3).cells c t).cell p1
  have d00a := fun c t => ((Q.refl x3).cells c t).cell d00
  have d01a := fun c t => ((Q.refl x3).cells c t).cell d01
  have d10a := fun c t => ((Q.refl x3).cells c t).cell d10
  have d11a := fun c t => ((Q.refl x3).cells c t).cell d11
  have d20a := fun c t => ((Q.refl x3).cells c t).cell d20
  have d21a := fun c t => ((Q.refl x3).cells c t).cell d21
  go_wp2_with fail
  obtain ⟨y3, hy3⟩ : ∃ y, x3.alloc (.cells #[.int .i64 1, .slice (some ⟨g3, 0, none⟩) 4 cap3] 33) = y := ⟨_, rfl⟩
  have k3 : Q x3 y3 := by rw [← hy3]; exact (Q.refl x3).cells _ _
  have HQ : Hid (Q w y3) := HQ.out.trans k3
  have HP : Hid (Pc y3 G 0 1 1 L) := HP.out.next k3
  have p0 := k3.cell p0
  have p1 := k3.cell p1
  have d00 := k3.cell d00
  have d01 := k3.cell d01
  have d10 := k3.cell d10
  have d11 := k3.cell d11
  have d20 := k3.cell d20
  have d21 := k3.cell d21
  have R0 : Hid (Pc y3 g0 0 1 1 M0) := R0.out.next k3
  have R1 : Hid (Pc y3 g1 0 1 1 M1) := R1.out.next k3
  have R2 : Hid (Pc y3 g2 0 1 1 M2) := R2.out.next k3
  have R3 : Hid (Pc y3 g3 0 1 1 M3) := R3.out.next k3
  have d30 : y3.cell? ⟨x3.heap.size, 0, none⟩ = some (.int .i64 1) := by rw [← hy3]; simp [go_sem]
  have d31 : y3.cell? ⟨x3.heap.size, 1, none⟩ = some (.slice (some ⟨g3, 0, none⟩) 4 cap3) := by rw [← hy3]; simp [go_sem]
  rw [hy3]
  clear p0a p1a d00a d01a d10a d11a d20a d21a hy3 k3
  refine (btw_good 1056964608 (by decide) _ 1 G 0 1 1 4 G 0 4 1 4 L L HP.out HL.out (Nat.le_refl _) HP.out HL.out (Nat.le_refl _) HSP.out rfl).mono ?_
  rintro e x4 ⟨g4, cap4, M4, rfl, hM4, hW4, q4⟩
  have HQ : Hid (Q w x4) := HQ.out.trans q4
  have HP : Hid (Pc x4 G 0 1 1 L) := HP.out.next q4
  have p0 := q4.cell p0
  have p1 := q4.cell p1
  have d00 := q4.cell d00
  have d01 := q4.cell d01
  have d10 := q4.cell d10
  have d11 := q4.cell d11
  have d20 := q4.cell d20
  have d21 := q4.cell d21
  have d30 := q4.cell d30
  have d31 := q4.cell d31
  have R0 : Hid (Pc x4 g0 0 1 1 M0) := R0.out.next q4
  have R1 : Hid (Pc x4 g1 0 1 1 M1) := R1.out.next q4
  have R2 : Hid (Pc x4 g2 0 1 1 M2) := R2.out.next q4
  have R3 : Hid (Pc x4 g3 0 1 1 M3) := R3.out.next q4
  have R4 : Hid (Pc x4 g4 0 1 1 M4) := hW4.out.pc
  rw [HS.out, kfb] at hM4
  have S4 : Hid (M4.map PL.S = [[1056964608], [2143289344], [0], [1048576000]]) := hM4
  have N4 : Hid (M4.length = 4) := by have := congrArg List.length hM4; rw [List.length_map] at this; exact this
  clear hM4 hW4 q4
  have p0a := fun c t => ((Q.refl x4).cells c t).cell p0
  have p1a := fun c t => ((Q.refl x4).cells c t).cell p1
  have d00a := fun c t => ((Q.refl x4).cells c t).cell d00
  have d01a := fun c t => ((Q.refl x4).cells c t).cell d01
  have d10a := fun c t => ((Q.refl x4).cells c t).cell d10
  have d11a := fun c t => ((Q.refl x4).cells c t).cell d11
  have d20a := fun c t => ((Q.refl x4).cells c t).cell d20
  have d21a := fun c t => ((Q.refl x4).cells c t).cell d21
  have d30a := fun c t => ((Q.refl x4).cells c t).cell d30
  have d31a := fun c t => ((Q.refl x4).cells c t).cell d31
  go_wp2_with fail
  obtain ⟨y4, hy4⟩ : ∃ y, x4.alloc (.cells #[.int .i64 1, .slice (some ⟨g4, 0, none⟩) 4 cap4] 33) = y := ⟨_, rfl⟩
  have k4 : Q x4 y4 := by rw [← hy4]; exact (Q.refl x4).cells _ _
  have HQ : Hid (Q w y4) := HQ.out.trans k4
  have HP : Hid (Pc y4 G 0 1 1 L) := HP.out.next k4
  have p0 := k4.cell p0
  have p1 := k4.cell p1
  have d00 := k4.cell d00
  have d01 := k4.cell d01
  have d10 := k4.cell d10
  have d11 := k4.cell d11
  have d20 := k4.cell d20
  have d21 := k4.cell d21
  have d30 := k4.cell d30
  have d31 := k4.cell d31
  have R0 : Hid (Pc y4 g0 0 1 1 M0) := R0.out.next k4
  have R1 : Hid (Pc y4 g1 0 1 1 M1) := R1.out.next k4
  have R2 : Hid (Pc y4 g2 0 1 1 M2) := R2.out.next k4
  have R3 : Hid (Pc y4 g3 0 1 1 M3) := R3.out.next k4
  have R4 : Hid (Pc y4 g4 0 1 1 M4) := R4.out.next k4
  have d40 : y4.cell? ⟨x4.heap.size, 0, none⟩ = some (.int .i64 1) := by rw [← hy4]; simp [go_sem]
  have d41 : y4.cell? ⟨x4.heap.size, 1, none⟩ = some (.slice (some ⟨g4, 0, none⟩) 4 cap4) := by rw [← hy4]; simp [go_sem]
  rw [hy4]
  clear p0a p1a d00a d01a d10a d11a d20a d21a d30a d31a hy4 k4
  have A0 := at_any (cap := cap0) 1 R0.out N0.out rfl 0 (by decide)
  rw [S0.out, show pix [[1073741824], [2143289344], [0], [1048576000]] 0 0 = 1073741824 from rfl] at A0
  refine A0.mono ?_
  rintro e z0 ⟨rfl, q0⟩
  have HQ : Hid (Q w z0) := HQ.out.trans q0
  have R0 : Hid (Pc z0 g0 0 1 1 M0) := R0.out.next q0
  have d00 := q0.cell d00
  have d01 := q0.cell d01
  have R1 : Hid (Pc z0 g1 0 1 1 M1) := R1.out.next q0
  have d10 := q0.cell d10
  have d11 := q0.cell d11
  have R2 : Hid (Pc z0 g2 0 1 1 M2) := R2.out.next q0
  have d20 := q0.cell d20
  have d21 := q0.cell d21
  have R3 : Hid (Pc z0 g3 0 1 1 M3) := R3.out.next q0
  have d30 := q0.cell d30
  have d31 := q0.cell d31
  have R4 : Hid (Pc z0 g4 0 1 1 M4) := R4.out.next q0
  have d40 := q0.cell d40
  have d41 := q0.cell d41
  clear q0 A0
  go_wp2_with fail
  have A1 := at_any (cap := cap0) 1 R0.out N0.out rfl 1 (by decide)
  rw [S0.out, show pix [[1073741824], [2143289344], [0], [1048576000]] 1 0 = 2143289344 from rfl] at A1
  refine A1.mono ?_
  rintro e z1 ⟨rfl, q1⟩
  have HQ : Hid (Q w z1) := HQ.out.trans q1
  have R1 : Hid (Pc z1 g1 0 1 1 M1) := R1.out.next q1
  have d10 := q1.cell d10
  have d11 := q1.cell d11
  have R2 : Hid (Pc z1 g2 0 1 1 M2) := R2.out.next q1
  have d20 := q1.cell d20
  have d21 := q1.cell d21
  have R3 : Hid (Pc z1 g3 0 1 1 M3) := R3.out.next q1
  have d30 := q1.cell d30
  have d31 := q1.cell d31
  have R4 : Hid (Pc z1 g4 0 1 1 M4) := R4.out.next q1
  have d40 := q1.cell d40
  have d41 := q1.cell d41
  clear q1 A1
  go_wp2_with fail
  have A2 := at_any (cap := cap1) 1 R1.out N1.out rfl 0 (by decide)
  rw [S1.out, show pix [[1040187392], [2143289344], [0], [1048576000]] 0 0 = 1040187392 from rfl] at A2
  refine A2.mono ?_
  rintro e z2 ⟨rfl, q2⟩
  have HQ : Hid (Q w z2) := HQ.out.trans q2
  have R1 : Hid (Pc z2 g1 0 1 1 M1) := R1.out.next q2
  have d10 := q2.cell d10
  have d11 := q2.cell d11
  have R2 : Hid (Pc z2 g2 0 1 1 M2) := R2.out.next q2
  have d20 := q2.cell d20
  have d21 := q2.cell d21
  have R3 : Hid (Pc z2 g3 0 1 1 M3) := R3.out.next q2
  have d30 := q2.cell d30
  have d31 := q2.cell d31
  have R4 : Hid (Pc z2 g4 0 1 1 M4) := R4.out.next q2
  have d40 := q2.cell d40
  have d41 := q2.cell d41
  clear q2 A2
  go_wp2_with fail
  have A3 := at_any (cap := cap1) 1 R1.out N1.out rfl 3 (by decide)
  rw [S1.out, show pix [[1040187392], [2143289344], [0], [1048576000]] 3 0 = 1048576000 from rfl] at A3
  refine A3.mono ?_
  rintro e z3 ⟨rfl, q3⟩
  have HQ : Hid (Q w z3) := HQ.out.trans q3
  have R2 : Hid (Pc z3 g2 0 1 1 M2) := R2.out.next q3
  have d20 := q3.cell d20
  have d21 := q3.cell d21
  have R3 : Hid (Pc z3 g3 0 1 1 M3) := R3.out.next q3
  have d30 := q3.cell d30
  have d31 := q3.cell d31
  have R4 : Hid (Pc z3 g4 0 1 1 M4) := R4.out.next q3
  have d40 := q3.cell d40
  have d41 := q3.cell d41
  clear q3 A3
  go_wp2_with fail
  have A4 := at_any (cap := cap2) 1 R2.out N2.out rfl 3 (by decide)
  rw [S2.out, show pix [[1048576000], [2143289344], [0], [1040187392]] 3 0 = 1040187392 from rfl] at A4
  refine A4.mono ?_
  rintro e z4 ⟨rfl, q4⟩
  have HQ : Hid (Q w z4) := HQ.out.trans q4
  have R3 : Hid (Pc z4 g3 0 1 1 M3) := R3.out.next q4
  have d30 := q4.cell d30
  have d31 := q4.cell d31
  have R4 : Hid (Pc z4 g4 0 1 1 M4) := R4.out.next q4
  have d40 := q4.cell d40
  have d41 := q4.cell d41
  clear q4 A4
  go_wp2_with fail
  have A5 := at_any (cap := cap3) 1 R3.out N3.out rfl 0 (by decide)
  rw [S3.out, show pix [[1063256064], [2143289344], [0], [1054867456]] 0 0 = 1063256064 from rfl] at A5
  refine A5.mono ?_
  rintro e z5 ⟨rfl, q5⟩
  have HQ : Hid (Q w z5) := HQ.out.trans q5
  have R4 : Hid (Pc z5 g4 0 1 1 M4) := R4.out.next q5
  have d40 := q5.cell d40
  have d41 := q5.cell d41
  clear q5 A5
  go_wp2_with fail
  have A6 := at_any (cap := cap4) 1 R4.out N4.out rfl 0 (by decide)
  rw [S4.out, show pix [[1056964608], [2143289344], [0], [1048576000]] 0 0 = 1056964608 from rfl] at A6
  refine A6.mono ?_
  rintro e z6 ⟨rfl, q6⟩
  have HQ : Hid (Q w z6) := HQ.out.trans q6
  clear q6 A6
  go_wp2_with fail
  go_ret
  exact ⟨rfl, HQ.out⟩
end Go.Proofs.YtkgojnjlfkijiaaGreat
/- MixOne: the walk. -/
namespace Go.Proofs.YtkgojnjlfkijiaaGreat
open Go.RowKit
set_option linter.unusedVariables false
set_option linter.unusedSimpArgs false

def oneV (s sa d da : Nat) (K : Int) : Int := if 1 ≤ K ∧ K ≤ 6 then (mxV K.toNat s sa d da : Nat) else 0
def oneE (K : Int) : Int := if 1 ≤ K ∧ K ≤ 6 then 0 else 150
theorem oneR_shape (K : Int) (s sa d da : Nat) : oneR K s sa d da = .tuple #[.int .u32 (oneV s sa d da K), .int .i64 (oneE K)] := by
  unfold oneR oneV oneE
  split <;> rfl
theorem roneR_shape (K : Int) (s sa d da : Nat) : roneR K s sa d da = .tuple #[.int .u32 (oneV s sa d da K), .int .i64 (oneE K)] := by
  unfold roneR oneV oneE
  split <;> rfl
set_option maxHeartbeats 4000000 in
set_option maxRecDepth 100000 in
theorem mone_walk (K : Int) (s sa d da : Nat) (hs : s < 4294967296) (ha : sa < 4294967296) (hd : d < 4294967296) (hb : da < 4294967296) (w : World) :
    Calls Tryz.prog 3 #[.int .i64 K, .int .u32 (s : Int), .int .u32 (sa : Int), .int .u32 (d : Int), .int .u32 (da : Int)] w fun e w' => e = .returned (.bool true) ∧ Q w w' := by
  obtain ⟨V, E, HA, HB⟩ : ∃ V E : Int → Int,
      Hid (∀ (k : Int) (x : World), Calls Tryz.prog 7 #[.int .i64 k, .int .u32 (s : Int), .int .u32 (sa : Int), .int .u32 (d : Int), .int .u32 (da : Int)] x fun e w' => e = .returned (.tuple #[.int .u32 (V k), .int .i64 (E k)]) ∧ Q x w') ∧
      Hid (∀ (k : Int) (x : World), Calls Tryz.prog 8 #[.int .i64 k, .int .u32 (s : Int), .int .u32 (sa : Int), .int .u32 (d : Int), .int .u32 (da : Int)] x fun e w' => e = .returned (.tuple #[.int .u32 (V k), .int .i64 (E k)]) ∧ Q x w') :=
    ⟨oneV s sa d da, oneE, fun k x => by rw [← oneR_shape]; exact mone_any k s sa d da hs ha hd hb x, fun k x => by rw [← roneR_shape]; exact rone_any k s sa d da hs ha hd hb x⟩
  obtain ⟨T, HT, HU⟩ : ∃ T : Int,
      Hid (∀ (x : World), Calls Tryz.prog 9 #[.int .u32 (s : Int), .int .u32 (d : Int), .int .u32 (sa : Int)] x fun e w' => e = .returned (.int .u32 T) ∧ Q x w') ∧
      Hid (∀ (x : World), Calls Tryz.prog 10 #[.int .u32 (s : Int), .int .u32 (d : Int), .int .u32 (sa : Int)] x fun e w' => e = .returned (.int .u32 T) ∧ Q x w') :=
    ⟨(mstV s d sa : Nat), fun x => mstep_any s d sa hs hd ha x, fun x => rstep_any s d sa hs hd ha x⟩
  clear hs ha hd hb
  go_enter Tryz.func3, Tryz.ntmps3
  go_wp2_with fail
  refine (known15_any _).mono ?_
  rintro e w1 ⟨rfl, q1⟩
  have HQ : Hid (Q w w1) := q1
  clear q1
  go_wp2_with fail
  go_loopg [11] 8 (fun m s11 wx => ∃ i : Nat, s11 = .int .i64 i ∧ i + m = 8 ∧ Hid (Q w wx))
  case atStart => exact ⟨0, rfl, by omega, HQ⟩
  case round =>
    obtain ⟨i, rfl, him, HQr⟩ := hrel
    by_cases hi : i < 8
    · have h1 : (i : Int) ≤ 7 := by omega
      go_wp2_with fail
      refine (HA.out _ _).mono ?_
      rintro e x1 ⟨rfl, q1⟩
      have HQr : Hid (Q w x1) := HQr.out.trans q1
      clear q1
      go_wp2_with fail
      refine (HB.out _ _).mono ?_
      rintro e x2 ⟨rfl, q2⟩
      have HQr : Hid (Q w x2) := HQr.out.trans q2
      clear q2
      go_wp2_with fail
      go_roundg (8 - (i + 1))
      case measure => go_light; omega
      case rel => go_light; exact ⟨i + 1, by go_num, by omega, HQr⟩
    · have hie : i = 8 := by omega
      subst hie
      go_wp2_with fail
      refine (HA.out _ _).mono ?_
      rintro e x1 ⟨rfl, q1⟩
      have HQr : Hid (Q w x1) := HQr.out.trans q1
      clear q1
      go_wp2_with fail
      refine (HB.out _ _).mono ?_
      rintro e x2 ⟨rfl, q2⟩
      have HQr : Hid (Q w x2) := HQr.out.trans q2
      clear q2
      go_wp2_with fail
      refine (HT.out _).mono ?_
      rintro e x3 ⟨rfl, q3⟩
      have HQr : Hid (Q w x3) := HQr.out.trans q3
      clear q3
      go_wp2_with fail
      refine (HU.out _).mono ?_
      rintro e x4 ⟨rfl, q4⟩
      have HQr : Hid (Q w x4) := HQr.out.trans q4
      clear q4
      go_wp2_with fail
      go_ret
      exact ⟨rfl, HQr.out⟩
end Go.Proofs.YtkgojnjlfkijiaaGreat
