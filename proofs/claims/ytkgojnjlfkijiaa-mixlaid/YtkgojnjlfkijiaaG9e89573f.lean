/- known of layer 15: the chapter's examples. (gen_mxi.py) -/
import Derived.Test.YtkgojnjlfkijiaaGf8abec56
import Derived.Test.YtkgojnjlfkijiaaG355830f6
import Derived.Test.YtkgojnjlfkijiaaG75909c20
namespace Go.Proofs.Ytkgojnjlfkijiaa
open Go.RowKit
set_option linter.unusedVariables false
set_option linter.unusedSimpArgs false

set_option maxHeartbeats 1000000 in
theorem single_any (s : Nat) (w : World) : Calls Try.prog 14 #[.int .u32 (s : Int)] w fun e w' => ∃ b, e = .returned (.agg #[.int .i64 1, .int .i64 1, .slice (some ⟨b, 0, none⟩) 1 1]) ∧ w'.cell? ⟨b, 0, none⟩ = some (.int .u32 (s : Int)) ∧ w.heap.size ≤ b ∧ Q w w' := by
  obtain ⟨w1, hw1⟩ : ∃ w1, w.alloc (.cells #[.int .i64 0, .int .i64 0, .slice none 0 0] 38) = w1 := ⟨_, rfl⟩
  have H1 : Hid (Q w w1) := by show Q w w1; rw [← hw1]; exact (Q.refl w).cells _ _
  have r0 : w1.cell? ⟨w.heap.size, 0, none⟩ = some (.int .i64 0) := by rw [← hw1]; simp [go_sem]
  have r1 : w1.cell? ⟨w.heap.size, 1, none⟩ = some (.int .i64 0) := by rw [← hw1]; simp [go_sem]
  have r2 : w1.cell? ⟨w.heap.size, 2, none⟩ = some (.slice none 0 0) := by rw [← hw1]; simp [go_sem]
  have rf : ∀ j, w1.frozen? ⟨w.heap.size, j, none⟩ = false := fun j => by rw [← hw1]; simp [go_sem]
  have r0a := fun c t => ((Q.refl w1).cells c t).cell r0
  have r1a := fun c t => ((Q.refl w1).cells c t).cell r1
  have r2a := fun c t => ((Q.refl w1).cells c t).cell r2
  have rfa : ∀ c t j, (w1.alloc (.cells c t)).frozen? ⟨w.heap.size, j, none⟩ = false := fun c t j => (((Q.refl w1).cells c t).2 _).trans (rf j)
  have hlt := cell_in r0
  go_enter Try.func14, Try.ntmps14
  go_wp2_with fail
  obtain ⟨w2, hw2⟩ : ∃ w2, ((w1.setCell ⟨w.heap.size, 0, none⟩ (.int .i64 1)).setCell ⟨w.heap.size, 1, none⟩ (.int .i64 1)).setCell ⟨w.heap.size, 2, none⟩ (.slice (some ⟨w1.heap.size, 0, none⟩) 1 1) = w2 := ⟨_, rfl⟩
  have k0 : w2.cell? ⟨w.heap.size, 0, none⟩ = some (.int .i64 1) := by rw [← hw2]; simp [go_sem, r0, r1, r2]
  have k1 : w2.cell? ⟨w.heap.size, 1, none⟩ = some (.int .i64 1) := by rw [← hw2]; simp [go_sem, r0, r1, r2]
  have k2 : w2.cell? ⟨w.heap.size, 2, none⟩ = some (.slice (some ⟨w1.heap.size, 0, none⟩) 1 1) := by rw [← hw2]; simp [go_sem, r0, r1, r2]
  have hz : w2.heap.size = w1.heap.size := by rw [← hw2]; simp
  have H2 : Q w w2 := by rw [← hw2]; exact ((H1.out.set (Nat.le_refl _) _).set (Nat.le_refl _) _).set (Nat.le_refl _) _
  rw [hw2]
  have k0a := fun c t => ((Q.refl w2).cells c t).cell k0
  have k1a := fun c t => ((Q.refl w2).cells c t).cell k1
  have k2a := fun c t => ((Q.refl w2).cells c t).cell k2
  clear hw2 hw1 r0a r1a r2a rfa
  refine bodyPost_ret (v := .agg #[.int .i64 1, .int .i64 1, .slice (some ⟨w1.heap.size, 0, none⟩) 1 1]) (by simp [results, Try.results14, go_sem, k0a, k1a, k2a]) rfl ⟨w1.heap.size, rfl, ?_, by omega, H2.cells _ _⟩
  rw [← hz]
  simp [go_sem]
set_option maxHeartbeats 1000000 in
theorem at_any {w : World} {g o a b cap : Nat} {L : List PL} (sp : Int) (h : Pc w g o a b L) (hn : L.length = 4) (hm : a * b = 1) (k : Nat) (hk : k < 4) : Calls Try.prog 20 #[.agg #[.int .i64 sp, .slice (some ⟨g, o, none⟩) 4 cap], .int .i64 (k : Int)] w fun e w' => e = .returned (.int .u32 (pix (L.map PL.S) k 0 : Nat)) ∧ Q w w' := by
  obtain ⟨g1, o1, c1, v1, a1, b1, e1, l1⟩ := h.pix hm (p := k) (by omega) (j := 0) (by omega)
  rw [← e1]
  rw [Nat.add_zero] at b1
  have i0 : (0 : Int) ≤ (k : Int) := by omega
  have i1 : (k : Int) < 4 := by omega
  have a1 := fun c t => ((Q.refl w).cells c t).cell a1
  have b1 := fun c t => ((Q.refl w).cells c t).cell b1
  have HQ : Hid (∀ c t, Q w (w.alloc (.cells c t))) := fun c t => (Q.refl w).cells c t
  clear h e1
  go_enter Try.func20, Try.ntmps20
  go_wp2_with fail
  go_ret
  exact ⟨rfl, HQ.out _ _⟩
theorem kv0 : mxV 1 1056964608 1056964608 1065353216 1065353216 = 1065353216 := by decide +kernel
theorem kn0 (w : World) : Calls Try.prog 12 #[.int .i64 1, .int .u32 1056964608, .int .u32 1056964608, .int .u32 1065353216, .int .u32 1065353216] w fun e w' => e = .returned (.tuple #[.int .u32 1065353216, .int .i64 0]) ∧ Q w w' := by
  have := mone_any 1 1056964608 1056964608 1065353216 1065353216 (by decide) (by decide) (by decide) (by decide) w
  unfold oneR at this
  rw [if_pos (by decide), show Int.toNat 1 = 1 from rfl, kv0] at this
  exact this
theorem kv1 : mxV 2 1056964608 1056964608 1065353216 1048576000 = 1040187392 := by decide +kernel
theorem kn1 (w : World) : Calls Try.prog 12 #[.int .i64 2, .int .u32 1056964608, .int .u32 1056964608, .int .u32 1065353216, .int .u32 1048576000] w fun e w' => e = .returned (.tuple #[.int .u32 1040187392, .int .i64 0]) ∧ Q w w' := by
  have := mone_any 2 1056964608 1056964608 1065353216 1048576000 (by decide) (by decide) (by decide) (by decide) w
  unfold oneR at this
  rw [if_pos (by decide), show Int.toNat 2 = 2 from rfl, kv1] at this
  exact this
theorem kv2 : mxV 5 1056964608 1056964608 1056964608 1056964608 = 1056964608 := by decide +kernel
theorem kn2 (w : World) : Calls Try.prog 12 #[.int .i64 5, .int .u32 1056964608, .int .u32 1056964608, .int .u32 1056964608, .int .u32 1056964608] w fun e w' => e = .returned (.tuple #[.int .u32 1056964608, .int .i64 0]) ∧ Q w w' := by
  have := mone_any 5 1056964608 1056964608 1056964608 1056964608 (by decide) (by decide) (by decide) (by decide) w
  unfold oneR at this
  rw [if_pos (by decide), show Int.toNat 5 = 5 from rfl, kv2] at this
  exact this
theorem kn3 (w : World) : Calls Try.prog 12 #[.int .i64 7, .int .u32 0, .int .u32 0, .int .u32 0, .int .u32 0] w fun e w' => e = .returned (.tuple #[.int .u32 0, .int .i64 150]) ∧ Q w w' := by
  have := mone_any 7 0 0 0 0 (by decide) (by decide) (by decide) (by decide) w
  unfold oneR at this
  rw [if_neg (by decide)] at this
  exact this
theorem ksv0 : mstV 1065353216 1077936128 1048576000 = 1069547520 := by decide +kernel
theorem ksv1 : mstV 1065353216 2139095040 0 = 2143289344 := by decide +kernel
theorem ks0 (w : World) : Calls Try.prog 13 #[.int .u32 1065353216, .int .u32 1077936128, .int .u32 1048576000] w fun e w' => e = .returned (.int .u32 1069547520) ∧ Q w w' := by
  have := mstep_any 1065353216 1077936128 1048576000 (by decide) (by decide) (by decide) w
  rw [ksv0] at this
  exact this
theorem ks1 (w : World) : Calls Try.prog 13 #[.int .u32 1065353216, .int .u32 2139095040, .int .u32 0] w fun e w' => e = .returned (.int .u32 2143289344) ∧ Q w w' := by
  have := mstep_any 1065353216 2139095040 0 (by decide) (by decide) (by decide) w
  rw [ksv1] at this
  exact this
/-- The picture of the examples. -/
def exL (b0 b1 b2 b3 : Nat) : List PL := [⟨b0, 0, 1, [1056964608]⟩, ⟨b1, 0, 1, [2143289345]⟩, ⟨b2, 0, 1, [0]⟩, ⟨b3, 0, 1, [1048576000]⟩]
def exS : List (List Nat) := [[1056964608], [2143289345], [0], [1048576000]]
theorem us1 {w : World} {b s : Nat} (h : w.cell? ⟨b, 0, none⟩ = some (.int .u32 (s : Int))) : UIs w b 0 [s] := fun i hi => by
  have : i = 0 := by simpa using hi
  subst this
  exact h
theorem one_lt4 {s : Nat} (h : s < 4294967296) (i : Nat) : [s].getD i 0 < 4294967296 := by
  cases i with
  | zero => exact h
  | succ n => simp
theorem pc_four {w : World} {g b0 b1 b2 b3 s0 s1 s2 s3 : Nat} (hr : PIs w g 0 1 1 [⟨b0, 0, 1, [s0]⟩, ⟨b1, 0, 1, [s1]⟩, ⟨b2, 0, 1, [s2]⟩, ⟨b3, 0, 1, [s3]⟩]) (h0 : w.cell? ⟨b0, 0, none⟩ = some (.int .u32 (s0 : Int))) (h1 : w.cell? ⟨b1, 0, none⟩ = some (.int .u32 (s1 : Int))) (h2 : w.cell? ⟨b2, 0, none⟩ = some (.int .u32 (s2 : Int))) (h3 : w.cell? ⟨b3, 0, none⟩ = some (.int .u32 (s3 : Int)))
    (l0 : s0 < 4294967296) (l1 : s1 < 4294967296) (l2 : s2 < 4294967296) (l3 : s3 < 4294967296) : Pc w g 0 1 1 [⟨b0, 0, 1, [s0]⟩, ⟨b1, 0, 1, [s1]⟩, ⟨b2, 0, 1, [s2]⟩, ⟨b3, 0, 1, [s3]⟩] := by
  refine ⟨⟨by decide, by decide, by decide, by decide, by decide⟩, by show 1 ≤ 4; decide, by show 4 ≤ 4; decide, hr, fun x hx => ?_⟩
  simp only [List.mem_cons, List.not_mem_nil, or_false] at hx
  rcases hx with rfl | rfl | rfl | rfl
  · exact ⟨rfl, Nat.le_refl _, us1 h0, one_lt4 l0⟩
  · exact ⟨rfl, Nat.le_refl _, us1 h1, one_lt4 l1⟩
  · exact ⟨rfl, Nat.le_refl _, us1 h2, one_lt4 l2⟩
  · exact ⟨rfl, Nat.le_refl _, us1 h3, one_lt4 l3⟩
/-- Four planes of one place in a row that was made. -/
theorem row_four {w y : World} {t : TypeId} {b0 b1 b2 b3 s0 s1 s2 s3 : Nat} (hy : w.alloc (.cells #[.int .i64 1, .int .i64 1, .slice (some ⟨b0, 0, none⟩) 1 1, .int .i64 1, .int .i64 1, .slice (some ⟨b1, 0, none⟩) 1 1, .int .i64 1, .int .i64 1, .slice (some ⟨b2, 0, none⟩) 1 1, .int .i64 1, .int .i64 1, .slice (some ⟨b3, 0, none⟩) 1 1] t) = y) :
    PIs y w.heap.size 0 1 1 [⟨b0, 0, 1, [s0]⟩, ⟨b1, 0, 1, [s1]⟩, ⟨b2, 0, 1, [s2]⟩, ⟨b3, 0, 1, [s3]⟩] := fun i x hx => by
  rw [← hy]
  rcases (by have := (List.getElem?_eq_some_iff.1 hx).1; simp at this; omega : i = 0 ∨ i = 1 ∨ i = 2 ∨ i = 3) with rfl | rfl | rfl | rfl <;> (injection hx with hx; subst hx; exact ⟨by simp [go_sem], by simp [go_sem], by simp [go_sem, PL.v]⟩)
theorem kfd : fl (byaV quoV exS) 4 1 = [[1073741824], [2143289344], [0], [1048576000]] := by decide +kernel
theorem kfm : fl (byaV (fun s t => toldD ((Ieee.single.read s).product (Ieee.single.read t))) exS) 4 1 = [[1040187392], [2143289344], [0], [1048576000]] := by decide +kernel
theorem kff : fadV 1056964608 exS = [[1048576000], [2143289344], [0], [1040187392]] := by decide +kernel
theorem kfx : fl (mixP 1 exS exS) 4 1 = [[1063256064], [2143289344], [0], [1054867456]] := by decide +kernel
theorem kfb : fl (btwP 1056964608 exS exS) 4 1 = [[1056964608], [2143289344], [0], [1048576000]] := by decide +kernel
set_option maxHeartbeats 8000000 in
set_option maxRecDepth 100000 in
theorem known15_any (w : World) : Calls Try.prog 6 #[] w fun e w' => e = .returned (.bool true) ∧ Q w w' := by
  go_enter Try.func6, Try.ntmps6
  go_wp2_with fail
  refine (kn0 _).mono ?_
  rintro e w0 ⟨rfl, q0⟩
  go_wp2_with fail
  refine (kn1 _).mono ?_
  rintro e w1 ⟨rfl, q1⟩
  go_wp2_with fail
  refine (kn2 _).mono ?_
  rintro e w2 ⟨rfl, q2⟩
  go_wp2_with fail
  refine (kn3 _).mono ?_
  rintro e w3 ⟨rfl, q3⟩
  go_wp2_with fail
  refine (ks0 _).mono ?_
  rintro e w4 ⟨rfl, q4⟩
  go_wp2_with fail
  refine (ks1 _).mono ?_
  rintro e w5 ⟨rfl, q5⟩
  go_wp2_with fail
  have HQ : Hid (Q w w5) := ((((q0.trans q1).trans q2).trans q3).trans q4).trans q5
  clear q0 q1 q2 q3 q4 q5
  refine (single_any 1056964608 _).mono ?_
  rintro e w6 ⟨b0, rfl, c0, _, q6⟩
  have HQ : Hid (Q w w6) := HQ.out.trans q6
  clear q6
  go_wp2_with fail
  refine (single_any 2143289345 _).mono ?_
  rintro e w7 ⟨b1, rfl, c1, _, q7⟩
  have HQ : Hid (Q w w7) := HQ.out.trans q7
  have c0 := q7.cell c0
  clear q7
  go_wp2_with fail
  refine (single_any 0 _).mono ?_
  rintro e w8 ⟨b2, rfl, c2, _, q8⟩
  have HQ : Hid (Q w w8) := HQ.out.trans q8
  have c0 := q8.cell c0
  have c1 := q8.cell c1
  clear q8
  go_wp2_with fail
  refine (single_any 1048576000 _).mono ?_
  rintro e w9 ⟨b3, rfl, c3, _, q9⟩
  have HQ : Hid (Q w w9) := HQ.out.trans q9
  have c0 := q9.cell c0
  have c1 := q9.cell c1
  have c2 := q9.cell c2
  clear q9
  go_wp2_with fail
  obtain ⟨w10, hw10⟩ : ∃ y, w9.alloc (.cells #[.int .i64 1, .int .i64 1, .slice (some ⟨b0, 0, none⟩) 1 1, .int .i64 1, .int .i64 1, .slice (some ⟨b1, 0, none⟩) 1 1, .int .i64 1, .int .i64 1, .slice (some ⟨b2, 0, none⟩) 1 1, .int .i64 1, .int .i64 1, .slice (some ⟨b3, 0, none⟩) 1 1] 38) = y := ⟨_, rfl⟩
  have kr := row_four (s0 := 1056964608) (s1 := 2143289345) (s2 := 0) (s3 := 1048576000) hw10
  have k10 : Q w9 w10 := by rw [← hw10]; exact (Q.refl w9).cells _ _
  have hz : w10.heap.size = w9.heap.size + 1 := by rw [← hw10]; simp
  have HP : Hid (Pc w10 w9.heap.size 0 1 1 (exL b0 b1 b2 b3)) := pc_four kr (k10.cell c0) (k10.cell c1) (k10.cell c2) (k10.cell c3) (by decide) (by decide) (by decide) (by decide)
  have HS : Hid ((exL b0 b1 b2 b3).map PL.S = exS) := rfl
  have HL : Hid ((exL b0 b1 b2 b3).length = 4) := rfl
  rw [hw10]
  obtain ⟨G, hG⟩ : ∃ G, w9.heap.size = G := ⟨_, rfl⟩
  rw [hG] at HP hz ⊢
  generalize exL b0 b1 b2 b3 = L at *
  obtain ⟨w11, hw11⟩ : ∃ y, w10.alloc (.cells #[.int .i64 1, .slice (some ⟨G, 0, none⟩) 4 4] 42) = y := ⟨_, rfl⟩
  have k11 : Q w10 w11 := by rw [← hw11]; exact (Q.refl w10).cells _ _
  have p0 : w11.cell? ⟨G + 1, 0, none⟩ = some (.int .i64 1) := by rw [← hw11, ← hz]; simp [go_sem]
  have p1 : w11.cell? ⟨G + 1, 1, none⟩ = some (.slice (some ⟨G, 0, none⟩) 4 4) := by rw [← hw11, ← hz]; simp [go_sem]
  have HP : Hid (Pc w11 G 0 1 1 L) := HP.out.next k11
  have HQ : Hid (Q w w11) := (HQ.out.trans k10).trans k11
  have HSP : Hid (spcB 1 4 = true) := (by decide : spcB 1 4 = true)
  rw [hw11]
  clear c0 c1 c2 c3 hw10 hw11 k10 k11 kr hz hG
  refine (divide_good _ 1 G 0 1 1 4 1 L HP.out HL.out (Nat.le_refl _) HSP.out rfl).mono ?_
  rintro e x0 ⟨g0, cap0, M0, rfl, hM0, hW0, q0⟩
  have HQ : Hid (Q w x0) := HQ.out.trans q0
  have HP : Hid (Pc x0 G 0 1 1 L) := HP.out.next q0
  have p0 := q0.cell p0
  have p1 := q0.cell p1
  have R0 : Hid (Pc x0 g0 0 1 1 M0) := hW0.out.pc
  rw [HS.out, kfd] at hM0
  have S0 : Hid (M0.map PL.S = [[1073741824], [2143289344], [0], [1048576000]]) := hM0
  have N0 : Hid (M0.length = 4) := by have := congrArg List.length hM0; rw [List.length_map] at this; exact this
  clear hM0 hW0 q0
  have p0a := fun c t => ((Q.refl x0).cells c t).cell p0
  have p1a := fun c t => ((Q.refl x0).cells c t).cell p1
  go_wp2_with fail
  obtain ⟨y0, hy0⟩ : ∃ y, x0.alloc (.cells #[.int .i64 1, .slice (some ⟨g0, 0, none⟩) 4 cap0] 42) = y := ⟨_, rfl⟩
  have k0 : Q x0 y0 := by rw [← hy0]; exact (Q.refl x0).cells _ _
  have HQ : Hid (Q w y0) := HQ.out.trans k0
  have HP : Hid (Pc y0 G 0 1 1 L) := HP.out.next k0
  have p0 := k0.cell p0
  have p1 := k0.cell p1
  have R0 : Hid (Pc y0 g0 0 1 1 M0) := R0.out.next k0
  have d00 : y0.cell? ⟨x0.heap.size, 0, none⟩ = some (.int .i64 1) := by rw [← hy0]; simp [go_sem]
  have d01 : y0.cell? ⟨x0.heap.size, 1, none⟩ = some (.slice (some ⟨g0, 0, none⟩) 4 cap0) := by rw [← hy0]; simp [go_sem]
  rw [hy0]
  clear p0a p1a hy0 k0
  refine (multiply_good _ 1 G 0 1 1 4 1 L HP.out HL.out (Nat.le_refl _) HSP.out rfl).mono ?_
  rintro e x1 ⟨g1, cap1, M1, rfl, hM1, hW1, q1⟩
  have HQ : Hid (Q w x1) := HQ.out.trans q1
  have HP : Hid (Pc x1 G 0 1 1 L) := HP.out.next q1
  have p0 := q1.cell p0
  have p1 := q1.cell p1
  have d00 := q1.cell d00
  have d01 := q1.cell d01
  have R0 : Hid (Pc x1 g0 0 1 1 M0) := R0.out.next q1
  have R1 : Hid (Pc x1 g1 0 1 1 M1) := hW1.out.pc
  rw [HS.out, kfm] at hM1
  have S1 : Hid (M1.map PL.S = [[1040187392], [2143289344], [0], [1048576000]]) := hM1
  have N1 : Hid (M1.length = 4) := by have := congrArg List.length hM1; rw [List.length_map] at this; exact this
  clear hM1 hW1 q1
  have p0a := fun c t => ((Q.refl x1).cells c t).cell p0
  have p1a := fun c t => ((Q.refl x1).cells c t).cell p1
  have d00a := fun c t => ((Q.refl x1).cells c t).cell d00
  have d01a := fun c t => ((Q.refl x1).cells c t).cell d01
  go_wp2_with fail
  obtain ⟨y1, hy1⟩ : ∃ y, x1.alloc (.cells #[.int .i64 1, .slice (some ⟨g1, 0, none⟩) 4 cap1] 42) = y := ⟨_, rfl⟩
  have k1 : Q x1 y1 := by rw [← hy1]; exact (Q.refl x1).cells _ _
  have HQ : Hid (Q w y1) := HQ.out.trans k1
  have HP : Hid (Pc y1 G 0 1 1 L) := HP.out.next k1
  have p0 := k1.cell p0
  have p1 := k1.cell p1
  have d00 := k1.cell d00
  have d01 := k1.cell d01
  have R0 : Hid (Pc y1 g0 0 1 1 M0) := R0.out.next k1
  have R1 : Hid (Pc y1 g1 0 1 1 M1) := R1.out.next k1
  have d10 : y1.cell? ⟨x1.heap.size, 0, none⟩ = some (.int .i64 1) := by rw [← hy1]; simp [go_sem]
  have d11 : y1.cell? ⟨x1.heap.size, 1, none⟩ = some (.slice (some ⟨g1, 0, none⟩) 4 cap1) := by rw [← hy1]; simp [go_sem]
  rw [hy1]
  clear p0a p1a d00a d01a hy1 k1
  refine (fade_good 1056964608 _ 1 G 0 1 1 4 4 L HP.out HL.out (Nat.le_refl _) HSP.out).mono ?_
  rintro e x2 ⟨g2, cap2, M2, rfl, hM2, hW2, q2⟩
  have HQ : Hid (Q w x2) := HQ.out.trans q2
  have HP : Hid (Pc x2 G 0 1 1 L) := HP.out.next q2
  have p0 := q2.cell p0
  have p1 := q2.cell p1
  have d00 := q2.cell d00
  have d01 := q2.cell d01
  have d10 := q2.cell d10
  have d11 := q2.cell d11
  have R0 : Hid (Pc x2 g0 0 1 1 M0) := R0.out.next q2
  have R1 : Hid (Pc x2 g1 0 1 1 M1) := R1.out.next q2
  have R2 : Hid (Pc x2 g2 0 1 1 M2) := hW2.out.pc
  rw [HS.out, kff] at hM2
  have S2 : Hid (M2.map PL.S = [[1048576000], [2143289344], [0], [1040187392]]) := hM2
  have N2 : Hid (M2.length = 4) := by have := congrArg List.length hM2; rw [List.length_map] at this; exact this
  clear hM2 hW2 q2
  have p0a := fun c t => ((Q.refl x2).cells c t).cell p0
  have p1a := fun c t => ((Q.refl x2).cells c t).cell p1
  have d00a := fun c t => ((Q.refl x2).cells c t).cell d00
  have d01a := fun c t => ((Q.refl x2).cells c t).cell d01
  have d10a := fun c t => ((Q.refl x2).cells c t).cell d10
  have d11a := fun c t => ((Q.refl x2).cells c t).cell d11
  go_wp2_with fail
  obtain ⟨y2, hy2⟩ : ∃ y, x2.alloc (.cells #[.int .i64 1, .slice (some ⟨g2, 0, none⟩) 4 cap2] 42) = y := ⟨_, rfl⟩
  have k2 : Q x2 y2 := by rw [← hy2]; exact (Q.refl x2).cells _ _
  have HQ : Hid (Q w y2) := HQ.out.trans k2
  have HP : Hid (Pc y2 G 0 1 1 L) := HP.out.next k2
  have p0 := k2.cell p0
  have p1 := k2.cell p1
  have d00 := k2.cell d00
  have d01 := k2.cell d01
  have d10 := k2.cell d10
  have d11 := k2.cell d11
  have R0 : Hid (Pc y2 g0 0 1 1 M0) := R0.out.next k2
  have R1 : Hid (Pc y2 g1 0 1 1 M1) := R1.out.next k2
  have R2 : Hid (Pc y2 g2 0 1 1 M2) := R2.out.next k2
  have d20 : y2.cell? ⟨x2.heap.size, 0, none⟩ = some (.int .i64 1) := by rw [← hy2]; simp [go_sem]
  have d21 : y2.cell? ⟨x2.heap.size, 1, none⟩ = some (.slice (some ⟨g2, 0, none⟩) 4 cap2) := by rw [← hy2]; simp [go_sem]
  rw [hy2]
  clear p0a p1a d00a d01a d10a d11a hy2 k2
  refine (mix_good 1 (by decide) (by decide) _ 1 G 0 1 1 4 G 0 4 1 L L HP.out HL.out (Nat.le_refl _) HP.out HL.out (Nat.le_refl _) HSP.out rfl).mono ?_
  rintro e x3 ⟨g3, cap3, M3, rfl, hM3, hW3, q3⟩
  have HQ : Hid (Q w x3) := HQ.out.trans q3
  have HP : Hid (Pc x3 G 0 1 1 L) := HP.out.next q3
  have p0 := q3.cell p0
  have p1 := q3.cell p1
  have d00 := q3.cell d00
  have d01 := q3.cell d01
  have d10 := q3.cell d10
  have d11 := q3.cell d11
  have d20 := q3.cell d20
  have d21 := q3.cell d21
  have R0 : Hid (Pc x3 g0 0 1 1 M0) := R0.out.next q3
  have R1 : Hid (Pc x3 g1 0 1 1 M1) := R1.out.next q3
  have R2 : Hid (Pc x3 g2 0 1 1 M2) := R2.out.next q3
  have R3 : Hid (Pc x3 g3 0 1 1 M3) := hW3.out.pc
  rw [HS.out, kfx] at hM3
  have S3 : Hid (M3.map PL.S = [[1063256064], [2143289344], [0], [1054867456]]) := hM3
  have N3 : Hid (M3.length = 4) := by have := congrArg List.length hM3; rw [List.length_map] at this; exact this
  clear hM3 hW3 q3
  have p0a := fun c t => ((Q.refl x3).cells c t).cell p0
  have p1a := fun c t => ((Q.refl x3).cells c t).cell p1
  have d00a := fun c t => ((Q.refl x3).cells c t).cell d00
  have d01a := fun c t => ((Q.refl x3).cells c t).cell d01
  have d10a := fun c t => ((Q.refl x3).cells c t).cell d10
  have d11a := fun c t => ((Q.refl x3).cells c t).cell d11
  have d20a := fun c t => ((Q.refl x3).cells c t).cell d20
  have d21a := fun c t => ((Q.refl x3).cells c t).cell d21
  go_wp2_with fail
  obtain ⟨y3, hy3⟩ : ∃ y, x3.alloc (.cells #[.int .i64 1, .slice (some ⟨g3, 0, none⟩) 4 cap3] 42) = y := ⟨_, rfl⟩
  have k3 : Q x3 y3 := by rw [← hy3]; exact (Q.refl x3).cells _ _
  have HQ : Hid (Q w y3) := HQ.out.trans k3
  have HP : Hid (Pc y3 G 0 1 1 L) := HP.out.next k3
  have p0 := k3.cell p0
  have p1 := k3.cell p1
  have d00 := k3.cell d00
  have d01 := k3.cell d01
  have d10 := k3.cell d10
  have d11 := k3.cell d11
  have d20 := k3.cell d20
  have d21 := k3.cell d21
  have R0 : Hid (Pc y3 g0 0 1 1 M0) := R0.out.next k3
  have R1 : Hid (Pc y3 g1 0 1 1 M1) := R1.out.next k3
  have R2 : Hid (Pc y3 g2 0 1 1 M2) := R2.out.next k3
  have R3 : Hid (Pc y3 g3 0 1 1 M3) := R3.out.next k3
  have d30 : y3.cell? ⟨x3.heap.size, 0, none⟩ = some (.int .i64 1) := by rw [← hy3]; simp [go_sem]
  have d31 : y3.cell? ⟨x3.heap.size, 1, none⟩ = some (.slice (some ⟨g3, 0, none⟩) 4 cap3) := by rw [← hy3]; simp [go_sem]
  rw [hy3]
  clear p0a p1a d00a d01a d10a d11a d20a d21a hy3 k3
  refine (btw_good 1056964608 (by decide) _ 1 G 0 1 1 4 G 0 4 1 4 L L HP.out HL.out (Nat.le_refl _) HP.out HL.out (Nat.le_refl _) HSP.out rfl).mono ?_
  rintro e x4 ⟨g4, cap4, M4, rfl, hM4, hW4, q4⟩
  have HQ : Hid (Q w x4) := HQ.out.trans q4
  have HP : Hid (Pc x4 G 0 1 1 L) := HP.out.next q4
  have p0 := q4.cell p0
  have p1 := q4.cell p1
  have d00 := q4.cell d00
  have d01 := q4.cell d01
  have d10 := q4.cell d10
  have d11 := q4.cell d11
  have d20 := q4.cell d20
  have d21 := q4.cell d21
  have d30 := q4.cell d30
  have d31 := q4.cell d31
  have R0 : Hid (Pc x4 g0 0 1 1 M0) := R0.out.next q4
  have R1 : Hid (Pc x4 g1 0 1 1 M1) := R1.out.next q4
  have R2 : Hid (Pc x4 g2 0 1 1 M2) := R2.out.next q4
  have R3 : Hid (Pc x4 g3 0 1 1 M3) := R3.out.next q4
  have R4 : Hid (Pc x4 g4 0 1 1 M4) := hW4.out.pc
  rw [HS.out, kfb] at hM4
  have S4 : Hid (M4.map PL.S = [[1056964608], [2143289344], [0], [1048576000]]) := hM4
  have N4 : Hid (M4.length = 4) := by have := congrArg List.length hM4; rw [List.length_map] at this; exact this
  clear hM4 hW4 q4
  have p0a := fun c t => ((Q.refl x4).cells c t).cell p0
  have p1a := fun c t => ((Q.refl x4).cells c t).cell p1
  have d00a := fun c t => ((Q.refl x4).cells c t).cell d00
  have d01a := fun c t => ((Q.refl x4).cells c t).cell d01
  have d10a := fun c t => ((Q.refl x4).cells c t).cell d10
  have d11a := fun c t => ((Q.refl x4).cells c t).cell d11
  have d20a := fun c t => ((Q.refl x4).cells c t).cell d20
  have d21a := fun c t => ((Q.refl x4).cells c t).cell d21
  have d30a := fun c t => ((Q.refl x4).cells c t).cell d30
  have d31a := fun c t => ((Q.refl x4).cells c t).cell d31
  go_wp2_with fail
  obtain ⟨y4, hy4⟩ : ∃ y, x4.alloc (.cells #[.int .i64 1, .slice (some ⟨g4, 0, none⟩) 4 cap4] 42) = y := ⟨_, rfl⟩
  have k4 : Q x4 y4 := by rw [← hy4]; exact (Q.refl x4).cells _ _
  have HQ : Hid (Q w y4) := HQ.out.trans k4
  have HP : Hid (Pc y4 G 0 1 1 L) := HP.out.next k4
  have p0 := k4.cell p0
  have p1 := k4.cell p1
  have d00 := k4.cell d00
  have d01 := k4.cell d01
  have d10 := k4.cell d10
  have d11 := k4.cell d11
  have d20 := k4.cell d20
  have d21 := k4.cell d21
  have d30 := k4.cell d30
  have d31 := k4.cell d31
  have R0 : Hid (Pc y4 g0 0 1 1 M0) := R0.out.next k4
  have R1 : Hid (Pc y4 g1 0 1 1 M1) := R1.out.next k4
  have R2 : Hid (Pc y4 g2 0 1 1 M2) := R2.out.next k4
  have R3 : Hid (Pc y4 g3 0 1 1 M3) := R3.out.next k4
  have R4 : Hid (Pc y4 g4 0 1 1 M4) := R4.out.next k4
  have d40 : y4.cell? ⟨x4.heap.size, 0, none⟩ = some (.int .i64 1) := by rw [← hy4]; simp [go_sem]
  have d41 : y4.cell? ⟨x4.heap.size, 1, none⟩ = some (.slice (some ⟨g4, 0, none⟩) 4 cap4) := by rw [← hy4]; simp [go_sem]
  rw [hy4]
  clear p0a p1a d00a d01a d10a d11a d20a d21a d30a d31a hy4 k4
  have A0 := at_any (cap := cap0) 1 R0.out N0.out rfl 0 (by decide)
  rw [S0.out, show pix [[1073741824], [2143289344], [0], [1048576000]] 0 0 = 1073741824 from rfl] at A0
  refine A0.mono ?_
  rintro e z0 ⟨rfl, q0⟩
  have HQ : Hid (Q w z0) := HQ.out.trans q0
  have R0 : Hid (Pc z0 g0 0 1 1 M0) := R0.out.next q0
  have d00 := q0.cell d00
  have d01 := q0.cell d01
  have R1 : Hid (Pc z0 g1 0 1 1 M1) := R1.out.next q0
  have d10 := q0.cell d10
  have d11 := q0.cell d11
  have R2 : Hid (Pc z0 g2 0 1 1 M2) := R2.out.next q0
  have d20 := q0.cell d20
  have d21 := q0.cell d21
  have R3 : Hid (Pc z0 g3 0 1 1 M3) := R3.out.next q0
  have d30 := q0.cell d30
  have d31 := q0.cell d31
  have R4 : Hid (Pc z0 g4 0 1 1 M4) := R4.out.next q0
  have d40 := q0.cell d40
  have d41 := q0.cell d41
  clear q0 A0
  go_wp2_with fail
  have A1 := at_any (cap := cap0) 1 R0.out N0.out rfl 1 (by decide)
  rw [S0.out, show pix [[1073741824], [2143289344], [0], [1048576000]] 1 0 = 2143289344 from rfl] at A1
  refine A1.mono ?_
  rintro e z1 ⟨rfl, q1⟩
  have HQ : Hid (Q w z1) := HQ.out.trans q1
  have R1 : Hid (Pc z1 g1 0 1 1 M1) := R1.out.next q1
  have d10 := q1.cell d10
  have d11 := q1.cell d11
  have R2 : Hid (Pc z1 g2 0 1 1 M2) := R2.out.next q1
  have d20 := q1.cell d20
  have d21 := q1.cell d21
  have R3 : Hid (Pc z1 g3 0 1 1 M3) := R3.out.next q1
  have d30 := q1.cell d30
  have d31 := q1.cell d31
  have R4 : Hid (Pc z1 g4 0 1 1 M4) := R4.out.next q1
  have d40 := q1.cell d40
  have d41 := q1.cell d41
  clear q1 A1
  go_wp2_with fail
  have A2 := at_any (cap := cap1) 1 R1.out N1.out rfl 0 (by decide)
  rw [S1.out, show pix [[1040187392], [2143289344], [0], [1048576000]] 0 0 = 1040187392 from rfl] at A2
  refine A2.mono ?_
  rintro e z2 ⟨rfl, q2⟩
  have HQ : Hid (Q w z2) := HQ.out.trans q2
  have R1 : Hid (Pc z2 g1 0 1 1 M1) := R1.out.next q2
  have d10 := q2.cell d10
  have d11 := q2.cell d11
  have R2 : Hid (Pc z2 g2 0 1 1 M2) := R2.out.next q2
  have d20 := q2.cell d20
  have d21 := q2.cell d21
  have R3 : Hid (Pc z2 g3 0 1 1 M3) := R3.out.next q2
  have d30 := q2.cell d30
  have d31 := q2.cell d31
  have R4 : Hid (Pc z2 g4 0 1 1 M4) := R4.out.next q2
  have d40 := q2.cell d40
  have d41 := q2.cell d41
  clear q2 A2
  go_wp2_with fail
  have A3 := at_any (cap := cap1) 1 R1.out N1.out rfl 3 (by decide)
  rw [S1.out, show pix [[1040187392], [2143289344], [0], [1048576000]] 3 0 = 1048576000 from rfl] at A3
  refine A3.mono ?_
  rintro e z3 ⟨rfl, q3⟩
  have HQ : Hid (Q w z3) := HQ.out.trans q3
  have R2 : Hid (Pc z3 g2 0 1 1 M2) := R2.out.next q3
  have d20 := q3.cell d20
  have d21 := q3.cell d21
  have R3 : Hid (Pc z3 g3 0 1 1 M3) := R3.out.next q3
  have d30 := q3.cell d30
  have d31 := q3.cell d31
  have R4 : Hid (Pc z3 g4 0 1 1 M4) := R4.out.next q3
  have d40 := q3.cell d40
  have d41 := q3.cell d41
  clear q3 A3
  go_wp2_with fail
  have A4 := at_any (cap := cap2) 1 R2.out N2.out rfl 3 (by decide)
  rw [S2.out, show pix [[1048576000], [2143289344], [0], [1040187392]] 3 0 = 1040187392 from rfl] at A4
  refine A4.mono ?_
  rintro e z4 ⟨rfl, q4⟩
  have HQ : Hid (Q w z4) := HQ.out.trans q4
  have R3 : Hid (Pc z4 g3 0 1 1 M3) := R3.out.next q4
  have d30 := q4.cell d30
  have d31 := q4.cell d31
  have R4 : Hid (Pc z4 g4 0 1 1 M4) := R4.out.next q4
  have d40 := q4.cell d40
  have d41 := q4.cell d41
  clear q4 A4
  go_wp2_with fail
  have A5 := at_any (cap := cap3) 1 R3.out N3.out rfl 0 (by decide)
  rw [S3.out, show pix [[1063256064], [2143289344], [0], [1054867456]] 0 0 = 1063256064 from rfl] at A5
  refine A5.mono ?_
  rintro e z5 ⟨rfl, q5⟩
  have HQ : Hid (Q w z5) := HQ.out.trans q5
  have R4 : Hid (Pc z5 g4 0 1 1 M4) := R4.out.next q5
  have d40 := q5.cell d40
  have d41 := q5.cell d41
  clear q5 A5
  go_wp2_with fail
  have A6 := at_any (cap := cap4) 1 R4.out N4.out rfl 0 (by decide)
  rw [S4.out, show pix [[1056964608], [2143289344], [0], [1048576000]] 0 0 = 1056964608 from rfl] at A6
  refine A6.mono ?_
  rintro e z6 ⟨rfl, q6⟩
  have HQ : Hid (Q w z6) := HQ.out.trans q6
  clear q6 A6
  go_wp2_with fail
  go_ret
  exact ⟨rfl, HQ.out⟩
end Go.Proofs.Ytkgojnjlfkijiaa
/- Layer 15's helpers: keys, NaNs, finite samples, values, ways, alphas. -/
namespace Go.Proofs.Ytkgojnjlfkijiaa
open Go.RowKit
set_option linter.unusedVariables false
set_option linter.unusedSimpArgs false

theorem and_7f15 (s : Int) (h0 : 0 ≤ s) (h1 : s ≤ 4294967295) : bits .and .u32 s 2147483647 = s % 2147483648 := by go_bits2
theorem srung_small15 {x : Nat} (h : x < 2147483648) : srung32 x = x := by
  unfold srung32 sgn32 rung32
  rw [show (x / 2147483648 % 2 == 1) = false from by rw [beq_eq_false_iff_ne]; omega, if_neg (by decide)]
  omega
set_option maxHeartbeats 400000 in
theorem key15_any (a : Nat) (ha : a < 4294967296) (w : World) : Calls Try.prog 22 #[.int .u32 (a : Int)] w fun e w' => e = .returned (.int .i64 (srung32 a)) ∧ w' = w := by
  have hs := sgn_hi ha
  by_cases h : a < 2147483648
  · have e1 : ((a : Int) / 2147483648 == 1) = false := by rw [beq_eq_false_iff_ne]; omega
    rw [srung_small15 h]
    clear hs
    go_enter Try.func22, Try.ntmps22
    go_wp2
    go_ret
    exact ⟨rfl, rfl⟩
  · have e1 : ((a : Int) / 2147483648 == 1) = true := by rw [beq_iff_eq]; omega
    have e2 := and_7f15 a (by omega) (by omega)
    have e3 : srung32 a = -((a : Int) % 2147483648) := by
      unfold srung32; rw [hs, decide_eq_true (by omega), if_pos rfl]; unfold rung32; omega
    rw [e3]
    clear e3 hs
    go_enter Try.func22, Try.ntmps22
    go_wp2
    go_ret
    exact ⟨rfl, rfl⟩
set_option maxHeartbeats 400000 in
theorem fin15_any (a : Nat) (ha : a < 4294967296) (w : World) : Calls Try.prog 7 #[.int .u32 (a : Int)] w fun e w' => e = .returned (.bool (decide (rung32 a < 2139095040))) ∧ w' = w := by
  have e2 := and_7f15 a (by omega) (by omega)
  have e3 : decide ((a : Int) % 2147483648 < 2139095040) = decide (rung32 a < 2139095040) := by rw [decide_eq_decide]; unfold rung32; omega
  go_enter Try.func7, Try.ntmps7
  go_wp2
  go_ret
  exact ⟨rfl, rfl⟩
set_option maxHeartbeats 400000 in
theorem nan15_any (a : Nat) (ha : a < 4294967296) (w : World) : Calls Try.prog 21 #[.int .u32 (a : Int)] w fun e w' => e = .returned (.bool (nanN a)) ∧ w' = w := by
  have e2 := and_7f15 a (by omega) (by omega)
  have e3 : decide ((a : Int) % 2147483648 > 2139095040) = nanN a := by
    rw [nanN_rung, decide_eq_decide]; unfold rung32; omega
  go_enter Try.func21, Try.ntmps21
  go_wp2
  go_ret
  exact ⟨rfl, rfl⟩
def valB (a b : Nat) : Bool := if nanN a = true ∨ nanN b = true then (a == 2143289344) && nanN b else srung32 a == srung32 b
set_option maxHeartbeats 1000000 in
theorem value15_any (a b : Nat) (ha : a < 4294967296) (hb : b < 4294967296) (w : World) : Calls Try.prog 8 #[.int .u32 (a : Int), .int .u32 (b : Int)] w fun e w' => e = .returned (.bool (valB a b)) ∧ w' = w := by
  have HNA : Hid (∀ x, Calls Try.prog 21 #[.int .u32 (a : Int)] x fun e w' => e = .returned (.bool (nanN a)) ∧ w' = x) := fun x => nan15_any a ha x
  have HNB : Hid (∀ x, Calls Try.prog 21 #[.int .u32 (b : Int)] x fun e w' => e = .returned (.bool (nanN b)) ∧ w' = x) := fun x => nan15_any b hb x
  have HKA : Hid (∀ x, Calls Try.prog 22 #[.int .u32 (a : Int)] x fun e w' => e = .returned (.int .i64 (srung32 a)) ∧ w' = x) := fun x => key15_any a ha x
  have HKB : Hid (∀ x, Calls Try.prog 22 #[.int .u32 (b : Int)] x fun e w' => e = .returned (.int .i64 (srung32 b)) ∧ w' = x) := fun x => key15_any b hb x
  obtain ⟨V, hV⟩ : ∃ V, valB a b = V := ⟨_, rfl⟩
  have HV : Hid (V = valB a b) := hV.symm
  rw [hV]
  clear hV ha hb
  obtain ⟨p, hp⟩ : ∃ p, nanN a = p := ⟨_, rfl⟩
  obtain ⟨q, hq⟩ : ∃ q, nanN b = q := ⟨_, rfl⟩
  have HP : Hid (nanN a = p ∧ nanN b = q) := ⟨hp, hq⟩
  rw [hp] at HNA
  rw [hq] at HNB
  clear hp hq
  cases p
  · cases q
    · have HR : Hid (V = (srung32 a == srung32 b)) := by show _ = _; rw [HV.out]; unfold valB; rw [HP.out.1, HP.out.2, if_neg (by decide)]
      generalize srung32 a = ka at *
      generalize srung32 b = kb at *
      go_enter Try.func8, Try.ntmps8
      go_wp2_with fail
      refine (HNA.out _).mono ?_
      rintro e w1 ⟨rfl, rfl⟩
      go_wp2_with fail
      refine (HNB.out _).mono ?_
      rintro e w1 ⟨rfl, rfl⟩
      go_wp2_with fail
      refine (HKA.out _).mono ?_
      rintro e w1 ⟨rfl, rfl⟩
      go_wp2_with fail
      refine (HKB.out _).mono ?_
      rintro e w1 ⟨rfl, rfl⟩
      go_wp2_with fail
      go_ret
      exact ⟨by rw [HR.out]; rfl, rfl⟩
    · have HR : Hid (V = ((a : Int) == 2143289344)) := by
        show _ = _; rw [HV.out]; unfold valB; rw [HP.out.1, HP.out.2, if_pos (Or.inr rfl), Bool.and_true, Bool.eq_iff_iff, beq_iff_eq, beq_iff_eq]; omega
      go_enter Try.func8, Try.ntmps8
      cases hc : ((a : Int) == 2143289344)
      all_goals (
        rw [hc] at HR
        have hc2 : ((a : Int) == 2143289344) = _ := hc
        go_wp2_with fail
        refine (HNA.out _).mono ?_
        rintro e w1 ⟨rfl, rfl⟩
        go_wp2_with fail
        refine (HNB.out _).mono ?_
        rintro e w1 ⟨rfl, rfl⟩
        go_wp2_with fail)
      · go_ret
        exact ⟨by rw [HR.out]; rfl, rfl⟩
      · refine (HNB.out _).mono ?_
        rintro e w1 ⟨rfl, rfl⟩
        go_wp2_with fail
        go_ret
        exact ⟨by rw [HR.out]; rfl, rfl⟩
  · have HR : Hid (V = (((a : Int) == 2143289344) && q)) := by
      show _ = _; rw [HV.out]; unfold valB; rw [HP.out.1, HP.out.2, if_pos (Or.inl rfl)]
      congr 1
      rw [Bool.eq_iff_iff, beq_iff_eq, beq_iff_eq]; omega
    go_enter Try.func8, Try.ntmps8
    cases hc : ((a : Int) == 2143289344)
    all_goals (
      rw [hc] at HR
      go_wp2_with fail
      refine (HNA.out _).mono ?_
      rintro e w1 ⟨rfl, rfl⟩
      go_wp2_with fail)
    · go_ret
      exact ⟨by rw [HR.out]; rfl, rfl⟩
    · refine (HNB.out _).mono ?_
      rintro e w1 ⟨rfl, rfl⟩
      go_wp2_with fail
      go_ret
      exact ⟨by rw [HR.out]; rfl, rfl⟩
set_option maxHeartbeats 1000000 in
theorem way15_any (k s sa d da : Nat) (h1 : 1 ≤ k) (h6 : k ≤ 6) (hs : s < 4294967296) (ha : sa < 4294967296) (hd : d < 4294967296) (hb : da < 4294967296) (w : World) :
    Calls Try.prog 9 #[.int .i64 (k : Int), .int .u32 (s : Int), .int .u32 (sa : Int), .int .u32 (d : Int), .int .u32 (da : Int)] w fun e w' => e = .returned (.int .u32 (mxV k s sa d da : Nat)) ∧ Q w w' := by
  have HC : Hid (∀ x, Calls Try.prog 12 #[.int .i64 (k : Int), .int .u32 (s : Int), .int .u32 (sa : Int), .int .u32 (d : Int), .int .u32 (da : Int)] x fun e w' => e = .returned (.tuple #[.int .u32 (mxV k s sa d da : Nat), .int .i64 0]) ∧ Q x w') := fun x => by
    have := mone_any (k : Int) s sa d da hs ha hd hb x
    unfold oneR at this
    rw [if_pos (by omega), Int.toNat_natCast] at this
    exact this
  clear hs ha hd hb h1 h6
  generalize mxV k s sa d da = V at *
  go_enter Try.func9, Try.ntmps9
  go_wp2_with fail
  refine (HC.out _).mono ?_
  rintro e w1 ⟨rfl, q1⟩
  go_wp2_with fail
  go_ret
  exact ⟨rfl, q1⟩
def unitN (s : Nat) : Nat := if s % 2147483648 ≤ 1065353216 then s % 2147483648 else 1065353216 - s % 2147483648 % 266338304
theorem unitN_le (s : Nat) : unitN s ≤ 1065353216 := by unfold unitN; split <;> omega
set_option maxHeartbeats 1000000 in
theorem unit15_any (s : Nat) (hs : s < 4294967296) (w : World) : Calls Try.prog 10 #[.int .u32 (s : Int)] w fun e w' => e = .returned (.int .u32 (unitN s : Nat)) ∧ w' = w := by
  have e2 := and_7f15 s (by omega) (by omega)
  by_cases h : s % 2147483648 ≤ 1065353216
  · have hU : Hid ((unitN s : Int) = (s : Int) % 2147483648) := by show _ = _; unfold unitN; rw [if_pos h]; omega
    obtain ⟨U, hUe⟩ : ∃ U : Int, (unitN s : Int) = U := ⟨_, rfl⟩
    have e3 : ¬ 1065353216 < (s : Int) % 2147483648 := by omega
    rw [hUe] at hU ⊢
    clear hUe h hs
    go_enter Try.func10, Try.ntmps10
    go_wp2_with fail
    go_ret
    exact ⟨by rw [hU.out]; rfl, rfl⟩
  · have hU : Hid ((unitN s : Int) = 1065353216 - (s : Int) % 2147483648 % 266338304) := by show _ = _; unfold unitN; rw [if_neg h]; omega
    obtain ⟨U, hUe⟩ : ∃ U : Int, (unitN s : Int) = U := ⟨_, rfl⟩
    have e3 : 1065353216 < (s : Int) % 2147483648 := by omega
    have e4 : (1065353216 - (s : Int) % 2147483648 % 266338304) % 4294967296 = 1065353216 - (s : Int) % 2147483648 % 266338304 := by omega
    rw [hUe] at hU ⊢
    clear hUe h hs
    go_enter Try.func10, Try.ntmps10
    go_wp2_with fail
    go_ret
    exact ⟨by rw [hU.out]; rfl, rfl⟩
end Go.Proofs.Ytkgojnjlfkijiaa
/- Mixing: alphas of 0 and 1; what rises: plain. -/
namespace Go.Proofs.Ytkgojnjlfkijiaa
open Go.RowKit
set_option linter.unusedVariables false

theorem wide_three (a : Nat) : (nanN a = true ∧ wideW a = 9221120237041090560) ∨ (rung32 a = 2139095040 ∧ Ieee.double.read (wideW a) = .infinity (sgn32 a)) ∨ rung32 a < 2139095040 := by
  cases h : nanN a
  · have e : wideW a = wideN a := wideW_of h
    have h' := h
    rw [nanN_rung] at h'
    have h' := of_decide_eq_false h'
    rcases Nat.lt_or_ge (rung32 a) 2139095040 with g | g
    · exact Or.inr (Or.inr g)
    · exact Or.inr (Or.inl ⟨by omega, by rw [e]; exact wide_read_inf (by omega)⟩)
  · exact Or.inl ⟨rfl, by unfold wideW; rw [h]; rfl⟩
theorem valB_fin {a b : Nat} (ha : nanN a = false) (hb : nanN b = false) (h : srung32 a = srung32 b) : valB a b = true := by
  unfold valB
  rw [ha, hb, if_neg (by decide), h]
  exact beq_self_eq_true _
theorem valB_nan {b : Nat} (hb : nanN b = true) : valB 2143289344 b = true := by
  unfold valB
  rw [if_pos (Or.inr hb), hb]; rfl
theorem narW_made : narW 9221120237041090560 = 2143289344 := by decide +kernel
theorem narW_inf (s : Bool) {x : Nat} (h : Ieee.double.read x = .infinity s) : narW x = Ieee.single.word s 2139095040 := by
  unfold narW
  rw [h]
  cases s <;> decide +kernel
theorem inf_word {a : Nat} (ha : a < 4294967296) (h : rung32 a = 2139095040) : Ieee.single.word (sgn32 a) 2139095040 = a := by
  have := sgn_hi ha
  have e : a = 2139095040 ∨ a = 4286578688 := by unfold rung32 at h; omega
  rcases e with rfl | rfl <;> decide +kernel
theorem rs_one : rsT (wideW 1065353216) = 0 := by decide +kernel
theorem rs_zero : rsT (wideW 0) = 4607182418800017408 := by decide +kernel
theorem wide_z : wideW 0 = 0 := by decide +kernel
theorem zero_wf : Wf 0 0 := ⟨by decide +kernel, by decide +kernel⟩
theorem RN_samp {a : Nat} (h : rung32 a < 2139095040) : RN (sampleZ a) = sampleZ a := by
  have hw := wide_wf h
  have := RN_self (v := wideW a) (by rw [hw.val]; exact mlog_lt (msamp_lt h (Nat.le_refl _)) (by unfold eB; omega))
  rw [hw.val] at this
  exact this
theorem zero_log : (0 : Int).natAbs.log2 ≤ 2000 := by decide
/-- What a sample times 0, times 1 is. -/
theorem mul_zero_wf {x : Nat} {X : Int} (hx : Wf x X) : Wf (opT .mul x 0) 0 := by
  have := mul_wf (P := 0) hx zero_wf (by rw [Int.mul_zero, Int.zero_mul]) zero_log
  rw [RN_zero] at this
  exact this
theorem mul_one_wf {a : Nat} (h : rung32 a < 2139095040) : Wf (opT .mul (wideW a) 4607182418800017408) (sampleZ a) := by
  have := mul_wf (wide_wf h) one_wf rfl (mlog_lt (msamp_lt h (Nat.le_refl _)) (by unfold eB; omega))
  rw [RN_samp h] at this
  exact this
theorem read_wf {x : Nat} {X : Int} (h : Wf x X) : ∃ s m p, Ieee.double.read x = .number s m p := ⟨_, _, _, read_fin64 h.fin⟩
theorem nan_made15 : (Ieee.double.read 9221120237041090560).isNaN = true := by decide +kernel
theorem told_opT {op : BinOp} {x y : Nat} {d : Ieee.Datum} (h : opD op (Ieee.double.read x) (Ieee.double.read y) = some d) (hd : d.isNaN = false) : opT op x y = Ieee.double.write d := by
  unfold opT
  rw [h, told64_some hd]
theorem read_inf_word (s : Bool) : Ieee.double.read (Ieee.double.write (.infinity s)) = .infinity s := by cases s <;> decide +kernel
/-- A sample and a nought. -/
theorem add_zero_val {s z : Nat} (hs : s < 4294967296) (hz : Wf z 0) : valB (narW (opT .add (wideW s) z)) s = true := by
  rcases wide_three s with ⟨h1, h2⟩ | ⟨h1, h2⟩ | h
  · have : opT .add (wideW s) z = 9221120237041090560 := by unfold opT; rw [h2]; exact opD_nan1 hA1 nan_made15 _
    rw [this, narW_made]
    exact valB_nan h1
  · obtain ⟨t, m, p, hr⟩ := read_wf hz
    have e : opT .add (wideW s) z = Ieee.double.write (.infinity (sgn32 s)) := told_opT (by rw [h2, hr]; rfl) rfl
    rw [e, narW_inf _ (read_inf_word _), inf_word hs h1]
    refine valB_fin ?_ ?_ rfl <;> (rw [nanN_rung, h1]; rfl)
  · have e := add_wf (wide_wf h) hz (by rw [Int.add_zero]; exact mlog_lt (msamp_lt h (Nat.le_refl _)) (by unfold eB; omega))
    rw [Int.add_zero, RN_samp h] at e
    obtain ⟨e1, e2⟩ := nar_wf e
    exact valB_fin e2 (fin_num h) (by rw [e1, RS_self h])
theorem mul_one_val {s : Nat} (hs : s < 4294967296) : valB (narW (opT .mul (wideW s) 4607182418800017408)) s = true := by
  rcases wide_three s with ⟨h1, h2⟩ | ⟨h1, h2⟩ | h
  · have : opT .mul (wideW s) 4607182418800017408 = 9221120237041090560 := by unfold opT; rw [h2]; exact opD_nan1 hA3 nan_made15 _
    rw [this, narW_made]
    exact valB_nan h1
  · have e : opT .mul (wideW s) 4607182418800017408 = Ieee.double.write (.infinity (sgn32 s)) := by
      refine told_opT ?_ rfl
      rw [h2, read_one]
      cases sgn32 s <;> rfl
    rw [e, narW_inf _ (read_inf_word _), inf_word hs h1]
    refine valB_fin ?_ ?_ rfl <;> (rw [nanN_rung, h1]; rfl)
  · obtain ⟨e1, e2⟩ := nar_wf (mul_one_wf h)
    exact valB_fin e2 (fin_num h) (by rw [e1, RS_self h])
theorem zero_add_val {d : Nat} (hd : d < 4294967296) : valB (narW (opT .add 0 (opT .mul (wideW d) 4607182418800017408))) d = true := by
  rcases wide_three d with ⟨h1, h2⟩ | ⟨h1, h2⟩ | h
  · have : opT .mul (wideW d) 4607182418800017408 = 9221120237041090560 := by unfold opT; rw [h2]; exact opD_nan1 hA3 nan_made15 _
    rw [this]
    have : opT .add 0 9221120237041090560 = 9221120237041090560 := by unfold opT; exact opD_nan2 hA1 nan_made15 _
    rw [this, narW_made]
    exact valB_nan h1
  · have e : opT .mul (wideW d) 4607182418800017408 = Ieee.double.write (.infinity (sgn32 d)) := by
      refine told_opT ?_ rfl
      rw [h2, read_one]
      cases sgn32 d <;> rfl
    have e' : opT .add 0 (Ieee.double.write (.infinity (sgn32 d))) = Ieee.double.write (.infinity (sgn32 d)) := by
      refine told_opT ?_ rfl
      rw [read_zero, read_inf_word]; rfl
    rw [e, e', narW_inf _ (read_inf_word _), inf_word hd h1]
    refine valB_fin ?_ ?_ rfl <;> (rw [nanN_rung, h1]; rfl)
  · have e := add_wf zero_wf (mul_one_wf h) (by rw [Int.zero_add]; exact mlog_lt (msamp_lt h (Nat.le_refl _)) (by unfold eB; omega))
    rw [Int.zero_add, RN_samp h] at e
    obtain ⟨e1, e2⟩ := nar_wf e
    exact valB_fin e2 (fin_num h) (by rw [e1, RS_self h])
theorem mul_zero_val {s : Nat} (h : rung32 s < 2139095040) : valB (narW (opT .mul (wideW s) 0)) 0 = true := by
  obtain ⟨e1, e2⟩ := nar_wf (mul_zero_wf (wide_wf h))
  refine valB_fin e2 (by decide) ?_
  rw [e1]
  decide +kernel
theorem ends1 {s d x : Nat} (hs : s < 4294967296) (hd : rung32 d < 2139095040) : valB (mxV 1 s 1065353216 d x) s = true := by
  have : mxV 1 s 1065353216 d x = narW (opT .add (wideW s) (opT .mul (wideW d) (rsT (wideW 1065353216)))) := rfl
  rw [this, rs_one]
  exact add_zero_val hs (mul_zero_wf (wide_wf hd))
theorem ends2 {d x : Nat} (hd : d < 4294967296) : valB (mxV 1 0 0 d x) d = true := by
  have : mxV 1 0 0 d x = narW (opT .add (wideW 0) (opT .mul (wideW d) (rsT (wideW 0)))) := rfl
  rw [this, rs_zero, wide_z]
  exact zero_add_val hd
theorem ends3 {s x d : Nat} (hs : s < 4294967296) : valB (mxV 2 s x d 1065353216) s = true := by
  have : mxV 2 s x d 1065353216 = narW (opT .mul (wideW s) (wideW 1065353216)) := rfl
  rw [this, wide_one]
  exact mul_one_val hs
theorem ends4 {s x d : Nat} (hs : s < 4294967296) : valB (mxV 3 s x d 0) s = true := by
  have : mxV 3 s x d 0 = narW (opT .mul (wideW s) (rsT (wideW 0))) := rfl
  rw [this, rs_zero]
  exact mul_one_val hs
theorem ends5 {s x d : Nat} (hs : rung32 s < 2139095040) : valB (mxV 3 s x d 1065353216) 0 = true := by
  have : mxV 3 s x d 1065353216 = narW (opT .mul (wideW s) (rsT (wideW 1065353216))) := rfl
  rw [this, rs_one]
  exact mul_zero_val hs
theorem ends6 {s x d : Nat} (hs : rung32 s < 2139095040) : valB (mxV 2 s x d 0) 0 = true := by
  have : mxV 2 s x d 0 = narW (opT .mul (wideW s) (wideW 0)) := rfl
  rw [this, wide_z]
  exact mul_zero_val hs
end Go.Proofs.Ytkgojnjlfkijiaa
/- Steps: what lies between, and at the ends: plain. -/
namespace Go.Proofs.Ytkgojnjlfkijiaa
open Go.RowKit
set_option linter.unusedVariables false

theorem plc_mag (r : Nat) : plc32 r * 8388608 + mag32 r = r := by unfold mag32 plc32; omega
theorem mag_lo {r : Nat} (h : 0 < plc32 r) : 8388608 ≤ mag32 r := by unfold mag32 plc32 at *; omega
theorem val_step (r : Nat) : val32 (r + 1) = (mag32 r + 1) * 2 ^ plc32 r := by
  have e : r + 1 = plc32 r * 8388608 + (mag32 r + 1) := by have := plc_mag r; omega
  have h1 := mag_lt32 r
  rw [e, val_of32 (by omega) (fun h => by have := mag_lo h; omega)]
theorem val_gap {r s : Nat} (h : r < s) : val32 s < 33554432 * (val32 s - val32 r) := by
  obtain ⟨u, rfl⟩ : ∃ u, s = u + 1 := ⟨s - 1, by omega⟩
  have h1 := val_le32 (show r ≤ u by omega)
  have h2 := mag_lt32 u
  rw [val_step]
  unfold val32 at h1 ⊢
  have h3 := Nat.two_pow_pos (plc32 u)
  generalize mag32 r * 2 ^ plc32 r = A at *
  generalize 2 ^ plc32 u = T at *
  generalize mag32 u = m at *
  have h4 : (m + 1) * T = m * T + T := by rw [Nat.add_mul, Nat.one_mul]
  have h5 : m * T ≤ 16777215 * T := Nat.mul_le_mul_right T (by omega)
  generalize m * T = B at *
  omega
theorem near_rung {r M c : Nat} (hc : c = 925) (hr : r < 2139095040) (h : 134217728 * (((val32 r * 2 ^ c : Nat) : Int) - (M : Int)).natAbs ≤ val32 r * 2 ^ c) (h0 : 0 < r) : rungOf Ieee.single M (-1074) = r := by
  have hT := Nat.two_pow_pos c
  have hv := val_pos32 h0
  have hN : 0 < val32 r * 2 ^ c := Nat.mul_pos hv hT
  have hfin : rungOf Ieee.single M (-1074) < 2139095040 := by
    obtain ⟨e, he⟩ : ∃ e, e = 1177 := ⟨_, rfl⟩
    have hg := great_iff (M := M) he
    have hle := rungOf_le Ieee.single M (-1074)
    have hle2 : rungOf Ieee.single M (-1074) ≤ 2139095040 := hle
    by_cases hh : rungOf Ieee.single M (-1074) = 2139095040
    · rw [decide_eq_true hh] at hg
      have hg := of_decide_eq_true hg
      have hm := val_le32 (show r ≤ 2139095039 by omega)
      have e1 : val32 2139095039 = 16777215 * 2 ^ 253 := by decide +kernel
      have e2 : 16777215 * 2 ^ 253 * 2 ^ c = 33554430 * 2 ^ e := by
        have : 253 + c = 1 + e := by omega
        rw [Nat.mul_assoc, ← Nat.pow_add, this, Nat.pow_add, ← Nat.mul_assoc]
      have hm2 : val32 r * 2 ^ c ≤ 33554430 * 2 ^ e := by
        rw [← e2, ← e1]; exact Nat.mul_le_mul_right _ hm
      generalize val32 r * 2 ^ c = N at *
      generalize 2 ^ e = T at *
      omega
    · omega
  have hb := bestZ hc hfin r
  obtain ⟨q, hq⟩ : ∃ q, rungOf Ieee.single M (-1074) = q := ⟨_, rfl⟩
  rw [hq] at hb ⊢
  have key : ∀ a b : Nat, a < b → val32 b * 2 ^ c < 33554432 * (val32 b * 2 ^ c - val32 a * 2 ^ c) := fun a b hab => by
    rw [← Nat.sub_mul, ← Nat.mul_assoc]
    exact Nat.mul_lt_mul_of_pos_right (val_gap hab) hT
  rcases Nat.lt_trichotomy q r with g | g | g
  · exfalso
    have k1 := key q r g
    generalize val32 r * 2 ^ c = N at *
    generalize val32 q * 2 ^ c = V at *
    omega
  · exact g
  · exfalso
    have k1 := key r q g
    generalize val32 r * 2 ^ c = N at *
    generalize val32 q * 2 ^ c = V at *
    omega
/-- A number that is much nearer to a sample than its neighbours are is told as that sample. -/
theorem RS_near {x : Nat} (hx : rung32 x < 2139095040) {Z : Int} (h : 134217728 * (Z - sampleZ x).natAbs ≤ (sampleZ x).natAbs) : RS Z = srung32 x := by
  by_cases h0 : sampleZ x = 0
  · rw [h0] at h
    have : Z = sampleZ x := by rw [h0]; omega
    rw [this, RS_self hx]
  · obtain ⟨c, hc⟩ : ∃ c, c = 925 := ⟨_, rfl⟩
    have ha := samp_abs (a := x) hc
    have hr0 : 0 < rung32 x := by
      rcases Nat.eq_zero_or_pos (rung32 x) with g | g
      · rw [g, val_zero32, Nat.zero_mul] at ha; omega
      · exact g
    have hs : Z < 0 ↔ sampleZ x < 0 := by omega
    have e1 : rungOf Ieee.single Z.natAbs (-1074) = rung32 x := by
      refine near_rung hc hx ?_ hr0
      rw [← ha]; omega
    have e2 : rungOf Ieee.single (sampleZ x).natAbs (-1074) = rung32 x := by
      refine near_rung hc hx ?_ hr0
      rw [← ha]; omega
    rw [← RS_self hx]
    unfold RS
    rw [e1, e2]
    by_cases g : Z < 0
    · rw [if_pos g, if_pos (hs.1 g)]
    · rw [if_neg g, if_neg (fun k => g (hs.2 k))]
theorem al_of {a : Nat} (h : a ≤ 1065353216) : Al a := by
  have h1 : srung32 a = a := srung_small15 (by omega)
  refine ⟨by unfold rung32; omega, ?_, ?_⟩
  · have := samp_le (a := 0) (b := a) (by rw [h1]; show (0 : Int) ≤ _; omega)
    have e : sampleZ 0 = 0 := by decide +kernel
    rw [e] at this; exact this
  · have := samp_le (a := a) (b := 1065353216) (by rw [h1, srung_small15 (by decide)]; omega)
    rw [samp_one] at this; exact this
/-- From a sample to itself. -/
theorem step_self {x t : Nat} (hx : rung32 x < 2139095040) (ht : Al t) : RS (mstZ (sampleZ x) (sampleZ x) (sampleZ t)) = srung32 x := by
  refine RS_near hx ?_
  obtain ⟨r0, r1⟩ := rs_bd ht.lo ht.hi
  have hRl := al_lt ht.lo ht.hi
  have e1 := RN_err hRl
  have pP := dvd_prod (samp_dvd x (Nat.le_refl _)) (rs_dvd ht rfl (e := 1073) rfl rfl) (by unfold eU; omega)
  have pQ := dvd_prod (samp_dvd x (Nat.le_refl _)) (samp_dvd t (Nat.le_refl _)) (by unfold eU; omega)
  have hX := samp_small hx
  have bP := pr_abs (X := sampleZ x) r0 r1
  have bQ := pr_abs (X := sampleZ x) ht.lo ht.hi
  have lX := mlog_lt hX (by unfold eB; omega)
  have lP : (prZ (sampleZ x) (rsZ (sampleZ t))).natAbs.log2 ≤ 2000 := mlog_lt (Nat.lt_of_le_of_lt bP hX) (by unfold eB; omega)
  have lQ : (prZ (sampleZ x) (sampleZ t)).natAbs.log2 ≤ 2000 := mlog_lt (Nat.lt_of_le_of_lt bQ hX) (by unfold eB; omega)
  have e2 := RN_err lP
  have e3 := RN_err lQ
  have sP := (ar_wf hx ht).2
  have sQ := (al_wf hx ht).2
  have e4 := RN_err (sum_lt sP sQ)
  unfold mstZ
  have hU := UZ_pos
  have hlo := ht.lo
  have hhi := ht.hi
  change 9007199254740992 * (rsZ (sampleZ t) - (UZ - sampleZ t)).natAbs ≤ (UZ - sampleZ t).natAbs at e1
  generalize rsZ (sampleZ t) = R at *
  generalize sampleZ t = A at *
  generalize sampleZ x = X at *
  generalize prZ X R = P at *
  generalize prZ X A = Q at *
  have k1 : (P + Q - X) * UZ = X * (R - (UZ - A)) := by rw [Int.sub_mul, Int.add_mul, ← pP, ← pQ, Int.mul_sub, Int.mul_sub]; omega
  have k2 : 9007199254740992 * (P + Q - X).natAbs ≤ X.natAbs := by
    have k3 := congrArg Int.natAbs k1
    rw [Int.natAbs_mul, Int.natAbs_mul] at k3
    have k4 : 9007199254740992 * (R - (UZ - A)).natAbs ≤ UZ.natAbs := by omega
    have k5 : 0 < UZ.natAbs := by omega
    refine Nat.le_of_mul_le_mul_right (c := UZ.natAbs) ?_ k5
    rw [Nat.mul_assoc, k3, Nat.mul_left_comm]
    exact Nat.mul_le_mul_left _ k4
  generalize RN (RN P + RN Q) = Z at *
  generalize RN P = p at *
  generalize RN Q = q at *
  clear k1 pP pQ e1 hRl lP lQ lX sP sQ hX
  omega
theorem step_between {s t a : Nat} (hs : rung32 s < 2139095040) (ht : rung32 t < 2139095040) (ha : Al a) (h : srung32 s ≤ srung32 t) :
    (srung32 s ≤ srung32 (mstV s t a) ∧ srung32 (mstV s t a) ≤ srung32 t) ∧ (srung32 s ≤ srung32 (mstV t s a) ∧ srung32 (mstV t s a) ≤ srung32 t) := by
  have hm := samp_le h
  obtain ⟨r0, r1⟩ := rs_bd ha.lo ha.hi
  have m1 := RN_mono (pr_mono hm r0)
  have m2 := RN_mono (pr_mono hm ha.lo)
  rw [(mst_key hs ht ha).1, (mst_key ht hs ha).1]
  refine ⟨⟨?_, ?_⟩, ?_, ?_⟩
  · rw [← step_self hs ha]
    exact RS_mono (RN_mono (Int.add_le_add_left m2 _))
  · rw [← step_self ht ha]
    exact RS_mono (RN_mono (Int.add_le_add_right m1 _))
  · rw [← step_self hs ha]
    exact RS_mono (RN_mono (Int.add_le_add_right m1 _))
  · rw [← step_self ht ha]
    exact RS_mono (RN_mono (Int.add_le_add_left m2 _))
theorem mx_rise {k s t d sa da : Nat} (hs : rung32 s < 2139095040) (ht : rung32 t < 2139095040) (hd : rung32 d < 2139095040) (ha : Al sa) (hb : Al da) (h : srung32 s ≤ srung32 t) :
    srung32 (mxV k s sa d da) ≤ srung32 (mxV k t sa d da) ∧ srung32 (mxV k d sa s da) ≤ srung32 (mxV k d sa t da) := by
  rw [(mx_key15 k hs hd ha hb).1, (mx_key15 k ht hd ha hb).1, (mx_key15 k hd hs ha hb).1, (mx_key15 k hd ht ha hb).1]
  obtain ⟨h1, h2⟩ := mxZ_rises k (D := sampleZ d) (samp_le h) ha.lo ha.hi hb.lo hb.hi
  exact ⟨RS_mono h1, RS_mono h2⟩
theorem al_zero : Al 0 := al_of (by decide)
theorem al_one : Al 1065353216 := al_of (by decide)
theorem samp_zero : sampleZ 0 = 0 := by decide +kernel
theorem rsZ_zero : rsZ 0 = UZ := by unfold rsZ; rw [Int.sub_zero, RN_U]
theorem rsZ_one : rsZ UZ = 0 := by unfold rsZ; rw [Int.sub_self, RN_zero]
theorem step_zero {s t : Nat} (hs : rung32 s < 2139095040) (ht : rung32 t < 2139095040) : valB (mstV s t 0) s = true := by
  obtain ⟨e1, e2⟩ := mst_key hs ht al_zero
  refine valB_fin e2 (fin_num hs) ?_
  rw [e1, samp_zero]
  unfold mstZ
  rw [rsZ_zero, pr_one, pr_zero', RN_zero, Int.add_zero, RN_samp hs, RN_samp hs, RS_self hs]
theorem step_one {s t : Nat} (hs : rung32 s < 2139095040) (ht : rung32 t < 2139095040) : valB (mstV s t 1065353216) t = true := by
  obtain ⟨e1, e2⟩ := mst_key hs ht al_one
  refine valB_fin e2 (fin_num ht) ?_
  rw [e1, samp_one]
  unfold mstZ
  rw [rsZ_one, pr_one, pr_zero', RN_zero, Int.zero_add, RN_samp ht, RN_samp ht, RS_self ht]
end Go.Proofs.Ytkgojnjlfkijiaa
