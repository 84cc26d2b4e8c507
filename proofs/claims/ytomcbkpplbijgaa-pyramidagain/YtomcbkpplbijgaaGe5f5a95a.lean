/- The chapter's examples: known. -/
import Derived.Test.YtomcbkpplbijgaaG106a7e7d
import Derived.Test.YtomcbkpplbijgaaG8c762b2b
import Derived.Test.YtomcbkpplbijgaaGda359fc2
namespace Go.Proofs.Ytomcbkpplbijgaa
open Go.RowKit
set_option linter.unusedVariables false
set_option linter.unusedSimpArgs false

theorem ex_red : tabB 2 (rdF 4 1 [1065353216, 1073741824, 1082130432, 1090519040]) = [1069023232, 1083310080] := by decide +kernel
theorem ex_exp : tabB 4 (exF 2 1 4 1 [1065353216, 1077936128]) = [1067450368, 1073741824, 1076887552, 1077936128] := by decide +kernel
theorem ex_spc : tabB 1 (rdF 1 1 [4294967295]) = [2143289344] := by decide +kernel
theorem ex_spf : tabB 1 (lkF 1 1 [4294967295]) = [4194304] := by decide +kernel
theorem lit_bdp {xs : List Nat} (h : ∀ x ∈ xs, x < 4294967296) (i : Nat) : xs.getD i 0 < 4294967296 := by
  rw [List.getD_eq_getElem?_getD]
  cases g : xs[i]? with
  | none => show 0 < 4294967296; decide
  | some x => exact h x (List.mem_of_getElem? g)
structure Kb (x : World) (V g n : Nat) (xs : List Nat) : Prop where
  a : x.cell? ⟨V, 0, none⟩ = some (.int .i64 (n : Int))
  b : x.cell? ⟨V, 1, none⟩ = some (.int .i64 1)
  c : x.cell? ⟨V, 2, none⟩ = some (.slice (some ⟨g, 0, none⟩) n n)
  u : UIs x g 0 xs
theorem Kb.nextB {x y : World} {V g n : Nat} {xs : List Nat} (h : Kb x V g n xs) (q : Qb x y) : Kb y V g n xs := ⟨q.cell h.a, q.cell h.b, q.cell h.c, h.u.nextB q⟩
set_option maxHeartbeats 8000000 in
set_option maxRecDepth 100000 in
theorem known14_any (w : World) : Calls Try.prog 9 #[] w fun e w' => e = .returned (.bool true) ∧ Qb w w' := by
  have sz41 : Size 4 1 := ⟨by decide, by decide, by decide, by decide, by decide⟩
  have sz21 : Size 2 1 := ⟨by decide, by decide, by decide, by decide, by decide⟩
  have sz11 : Size 1 1 := ⟨by decide, by decide, by decide, by decide, by decide⟩
  have HC1 : Hid (∀ (W : World) (g : Nat), UIs W g 0 [1065353216, 1073741824, 1082130432, 1090519040] → Calls Try.prog 13 #[.agg #[.int .i64 4, .int .i64 1, .slice (some ⟨g, 0, none⟩) 4 4]] W fun e w' => ∃ g, e = .returned (.tuple #[.agg #[.int .i64 2, .int .i64 1, .slice (some ⟨g, 0, none⟩) 2 2], .int .i64 0]) ∧ UIs w' g 0 [1069023232, 1083310080] ∧ Qb W w') := fun W g hu => (reduce_good 4 1 2 1 2 g 0 4 4 [1065353216, 1073741824, 1082130432, 1090519040] W sz41 rfl rfl rfl rfl rfl (lit_bdp (by decide)) hu (by decide)).mono fun e w' ⟨gt, h1, h2, h3, h4, h5⟩ => ⟨gt, h1, by rw [← ex_red]; exact vr_uis h2, h5⟩
  have HC2 : Hid (∀ (W : World) (g : Nat), UIs W g 0 [1065353216, 1077936128] → Calls Try.prog 17 #[.agg #[.int .i64 2, .int .i64 1, .slice (some ⟨g, 0, none⟩) 2 2], .int .i64 4, .int .i64 1] W fun e w' => ∃ g, e = .returned (.tuple #[.agg #[.int .i64 4, .int .i64 1, .slice (some ⟨g, 0, none⟩) 4 4], .int .i64 0]) ∧ UIs w' g 0 [1067450368, 1073741824, 1076887552, 1077936128] ∧ Qb W w') := fun W g hu => (expand_good 2 1 4 1 4 g 0 2 2 [1065353216, 1077936128] W sz21 rfl sz41 rfl rfl rfl rfl (lit_bdp (by decide)) hu (by decide)).mono fun e w' ⟨gt, h1, h2, h3, h4, h5⟩ => ⟨gt, h1, by rw [← ex_exp]; exact vr_uis h2, h5⟩
  have HC3 : Hid (∀ (W : World) (g : Nat), UIs W g 0 [4294967295] → Calls Try.prog 22 #[.agg #[.int .i64 1, .int .i64 1, .slice (some ⟨g, 0, none⟩) 1 1]] W fun e w' => ∃ gc gl, e = .returned (.tuple #[.agg #[.int .i64 1, .int .i64 1, .slice (some ⟨gc, 0, none⟩) 1 1], .agg #[.int .i64 1, .int .i64 1, .slice (some ⟨gl, 0, none⟩) 1 1], .int .i64 0]) ∧ UIs w' gc 0 [2143289344] ∧ UIs w' gl 0 [4194304] ∧ Qb W w') := fun W g hu => (Split_good 1 1 1 1 1 g 0 1 1 [4294967295] W sz11 rfl rfl rfl rfl rfl (lit_bdp (by decide)) hu (by decide)).mono fun e w' ⟨gc, gl, h1, h2, h3, _, _, _, _, _, h5⟩ => ⟨gc, gl, h1, by rw [← ex_spc]; exact vr_uis h2, by rw [← ex_spf]; exact vr_uis h3, h5⟩
  have HLR : Hid (∀ (W : World) (g n : Nat), Calls Try.prog 35 #[.slice (some ⟨g, 0, none⟩) n n] W fun e w' => e = .returned (.agg #[.int .i64 (n : Int), .int .i64 1, .slice (some ⟨g, 0, none⟩) n n]) ∧ Q W w') := fun W g n => prow_any _ n n W
  clear sz41 sz21 sz11
  go_enter Try.func9, Try.ntmps9
  go_wp2_with fail
  refine (HLR.out _ _ 4).mono ?_
  rintro e w1 ⟨rfl, q1⟩
  have H1 : Hid (UIs w1 w.heap.size 0 [1065353216, 1073741824, 1082130432, 1090519040] ∧ Qb w w1) := ⟨(lit_uis (xs := [1065353216, 1073741824, 1082130432, 1090519040]) rfl).next q1, (((Q.refl w).cells _ _).trans q1).qb⟩
  clear q1
  go_wp2_with fail
  refine (HC1.out w1 _ H1.out.1).mono ?_
  rintro e w2 ⟨g1, rfl, u1, q2⟩
  obtain ⟨w3, hw3⟩ : ∃ w3, w2.alloc (.cells #[.int .i64 2, .int .i64 1, .slice (some ⟨g1, 0, none⟩) 2 2] 24) = w3 := ⟨_, rfl⟩
  have H3 : Hid (Qb w w3 ∧ Kb w3 w2.heap.size g1 2 [1069023232, 1083310080]) := by
    have q23 : Q w2 w3 := by rw [← hw3]; exact (Q.refl w2).cells _ _
    exact ⟨(H1.out.2.trans q2).trans q23.qb, by rw [← hw3]; simp [go_sem], by rw [← hw3]; simp [go_sem], by rw [← hw3]; simp [go_sem], u1.next q23⟩
  clear u1 q2 H1
  go_wp2_with fail
  refine (HLR.out _ _ 2).mono ?_
  rintro e w4 ⟨rfl, q4⟩
  have H4 : Hid (UIs w4 w3.heap.size 0 [1065353216, 1077936128] ∧ Qb w3 w4) := ⟨(lit_uis (xs := [1065353216, 1077936128]) rfl).next q4, (((Q.refl w3).cells _ _).trans q4).qb⟩
  clear q4 hw3
  go_wp2_with fail
  refine (HC2.out w4 _ H4.out.1).mono ?_
  rintro e w5 ⟨g3, rfl, u3, q5⟩
  obtain ⟨w6, hw6⟩ : ∃ w6, w5.alloc (.cells #[.int .i64 4, .int .i64 1, .slice (some ⟨g3, 0, none⟩) 4 4] 24) = w6 := ⟨_, rfl⟩
  have H6 : Hid (Qb w w6 ∧ Kb w6 w2.heap.size g1 2 [1069023232, 1083310080] ∧ Kb w6 w5.heap.size g3 4 [1067450368, 1073741824, 1076887552, 1077936128]) := by
    have q56 : Q w5 w6 := by rw [← hw6]; exact (Q.refl w5).cells _ _
    have q36 := (H4.out.2.trans q5).trans q56.qb
    exact ⟨H3.out.1.trans q36, H3.out.2.nextB q36, by rw [← hw6]; simp [go_sem], by rw [← hw6]; simp [go_sem], by rw [← hw6]; simp [go_sem], u3.next q56⟩
  clear u3 q5 H4 H3
  go_wp2_with fail
  refine (HLR.out _ _ 1).mono ?_
  rintro e w7 ⟨rfl, q7⟩
  have H7 : Hid (UIs w7 w6.heap.size 0 [4294967295] ∧ Qb w6 w7) := ⟨(lit_uis (xs := [4294967295]) rfl).next q7, (((Q.refl w6).cells _ _).trans q7).qb⟩
  clear q7 hw6
  go_wp2_with fail
  refine (HC3.out w7 _ H7.out.1).mono ?_
  rintro e w8 ⟨g5, g6, rfl, u5, u6, q8⟩
  obtain ⟨w9, hw9⟩ : ∃ w9, (w8.alloc (.cells #[.int .i64 1, .int .i64 1, .slice (some ⟨g5, 0, none⟩) 1 1] 24)).alloc (.cells #[.int .i64 1, .int .i64 1, .slice (some ⟨g6, 0, none⟩) 1 1] 24) = w9 := ⟨_, rfl⟩
  have H9 : Hid (Qb w w9 ∧ Kb w9 w2.heap.size g1 2 [1069023232, 1083310080] ∧ Kb w9 w5.heap.size g3 4 [1067450368, 1073741824, 1076887552, 1077936128] ∧ Kb w9 w8.heap.size g5 1 [2143289344] ∧ Kb w9 (w8.heap.size + 1) g6 1 [4194304]) := by
    have q89 : Q w8 w9 := by rw [← hw9]; exact ((Q.refl w8).cells _ _).cells _ _
    have q69 := (H7.out.2.trans q8).trans q89.qb
    exact ⟨H6.out.1.trans q69, H6.out.2.1.nextB q69, H6.out.2.2.nextB q69, ⟨by rw [← hw9]; simp [go_sem], by rw [← hw9]; simp [go_sem], by rw [← hw9]; simp [go_sem], u5.next q89⟩, by rw [← hw9]; simp [go_sem], by rw [← hw9]; simp [go_sem], by rw [← hw9]; simp [go_sem], u6.next q89⟩
  clear u5 u6 q8 H7 H6
  go_wp2_with fail
  have z := H9.out
  refine regionKq rfl rfl (V1 := w2.heap.size) (V3 := w5.heap.size) (V5 := w8.heap.size) (V6 := w8.heap.size + 1) (g1 := g1) (g3 := g3) (g5 := g5) (g6 := g6) ⟨rfl, rfl, rfl, rfl, z.2.1.a, z.2.1.b, z.2.1.c, z.2.1.u, rfl, z.2.2.1.a, z.2.2.1.b, z.2.2.1.c, z.2.2.1.u, rfl, z.2.2.2.1.a, z.2.2.2.1.b, z.2.2.2.1.c, z.2.2.2.1.u, rfl, z.2.2.2.2.a, z.2.2.2.2.b, z.2.2.2.2.c, z.2.2.2.2.u⟩ ?_
  clear z
  intro x v11 v12 v17 v18 v23 v24 v29 v30 qx
  have HX : Hid (Qb w x) := H9.out.1.trans qx.qb
  clear qx hw9
  simp only [putAll]
  go_wp2_with fail
  refine bodyPost_ret (v := .bool true) (by simp [results, Try.results9, go_sem]) rfl ⟨rfl, HX.out⟩
end Go.Proofs.Ytomcbkpplbijgaa
/- pyramid: join. (gen_pyq.py) -/
namespace Go.Proofs.Ytomcbkpplbijgaa
open Go.RowKit Go.Shelf
set_option linter.unusedVariables false
set_option linter.unusedSimpArgs false
attribute [local go_sem] Oper.semAt_some

/-- A coarse plane and what lacks, put together. -/
def jnF (nr nc pa pb : Nat) (C F : List Nat) (j : Nat) : Nat := fkeyN (adN (F.getD j 0) (keyN (exF nr nc pa pb C j)))
theorem jnF_lt (nr nc pa pb : Nat) (C F : List Nat) (j : Nat) : jnF nr nc pa pb C F j < 4294967296 := fkeyN_lt (adN_lt _ _)
set_option maxHeartbeats 8000000 in
set_option maxRecDepth 100000 in
theorem pjoin_any (pa pb nr nc n g0 o0 cc gf of cf np : Nat) (C F : List Nat) (w : World) (hsz : Size pa pb) (hszc : Size nr nc) (hnp : np = pa * pb) (hnr : (pa + 1) / 2 = nr) (hnc : (pb + 1) / 2 = nc) (hn : n = nr * nc) (hC : C.length = n) (hb : ∀ i, C.getD i 0 < 4294967296) (hI : UIs w g0 o0 C) (hcc : n ≤ cc) (hF : F.length = np) (hbf : ∀ i, F.getD i 0 < 4294967296) (hJ : UIs w gf of F) :
    Calls Try.prog 57 #[.agg #[.int .i64 (nr : Int), .int .i64 (nc : Int), .slice (some ⟨g0, o0, none⟩) n cc], .agg #[.int .i64 (pa : Int), .int .i64 (pb : Int), .slice (some ⟨gf, of, none⟩) np cf]] w fun e w' => ∃ gt, e = .returned (.agg #[.int .i64 (pa : Int), .int .i64 (pb : Int), .slice (some ⟨gt, 0, none⟩) np np]) ∧ VR w' gt np (fun j => .int .u32 ((jnF nr nc pa pb C F j : Nat) : Int)) ∧ w.heap.size ≤ gt ∧ gt < w'.heap.size ∧ Qb w w' := by
  have hnp1 : 1 ≤ np := by rw [hnp]; exact hsz.pos
  have hnp2 : np ≤ 65536 := by rw [hnp]; exact hsz.ab
  have hgfw : gf < w.heap.size := World.block_lt_of_cell? _ _ (hJ 0 (by omega))
  have CX : Hid (∀ (x : World), Qb w x → Calls Try.prog 50 #[.agg #[.int .i64 (nr : Int), .int .i64 (nc : Int), .slice (some ⟨g0, o0, none⟩) n cc], .int .i64 (pa : Int), .int .i64 (pb : Int)] x fun e w' => ∃ gt, e = .returned (.agg #[.int .i64 (pa : Int), .int .i64 (pb : Int), .slice (some ⟨gt, 0, none⟩) np np]) ∧ VR w' gt np (fun j => .int .u32 ((exF nr nc pa pb C j : Nat) : Int)) ∧ x.heap.size ≤ gt ∧ gt < w'.heap.size ∧ Qb x w') := fun x q => expanded_any nr nc pa pb (pa * nc) np g0 o0 n cc C x hszc hn hsz (by have := hsz.b1; omega) rfl hnp.symm hC hb (hI.nextB q) hcc
  obtain ⟨w1, hw1⟩ : ∃ w1, ((w.alloc (.cells #[.int .i64 (nr : Int), .int .i64 (nc : Int), .slice (some ⟨g0, o0, none⟩) n cc] 24)).alloc (.cells #[.int .i64 (pa : Int), .int .i64 (pb : Int), .slice (some ⟨gf, of, none⟩) np cf] 24)).alloc (.cells #[.int .i64 0, .int .i64 0, .slice none 0 0] 24) = w1 := ⟨_, rfl⟩
  have q1 : Q w w1 := by rw [← hw1]; exact (((Q.refl w).cells _ _).cells _ _).cells _ _
  have s1 : w1.heap.size = w.heap.size + 3 := by rw [← hw1]; simp
  have p1 : PBx w1 w.heap.size nr nc (.slice (some ⟨g0, o0, none⟩) n cc) := ⟨by rw [← hw1]; simp [go_sem], by rw [← hw1]; simp [go_sem], by rw [← hw1]; simp [go_sem]⟩
  have m1 : PBx w1 (w.heap.size + 1) pa pb (.slice (some ⟨gf, of, none⟩) np cf) := ⟨by rw [← hw1]; simp [go_sem], by rw [← hw1]; simp [go_sem], by rw [← hw1]; simp [go_sem]⟩
  have z1 : ZBp w1 (w.heap.size + 2) := ⟨by rw [← hw1]; simp [go_sem], by rw [← hw1]; simp [go_sem], by rw [← hw1]; simp [go_sem], fun j => by rw [← hw1]; simp [go_sem]⟩
  have H1 : Hid (Q w w1 ∧ w1.heap.size = w.heap.size + 3 ∧ PBx w1 (w.heap.size + 1) pa pb (.slice (some ⟨gf, of, none⟩) np cf) ∧ ZBp w1 (w.heap.size + 2)) := ⟨q1, s1, m1, z1⟩
  have HN : Hid (np = pa * pb ∧ F.length = np ∧ (∀ i, F.getD i 0 < 4294967296)) := ⟨hnp, hF, hbf⟩
  have HS : Hid (UIs w gf of F ∧ gf < w.heap.size) := ⟨hJ, hgfw⟩
  have k0 := p1.c0
  have k1 := p1.c1
  have k2 := p1.c2
  have k3 := m1.c0
  have k4 := m1.c1
  clear hnp hnr hnc hn hC hb hI hF hbf hJ hgfw q1 s1 p1 m1 z1
  refine (callsIn_wide (n := 0)).1 (callsIn_of_wp_marks Try.func57 rfl trivial ?_ rfl)
  simp only [Try.ntmps57, List.size_toArray, List.length_cons, List.length_nil, Nat.reduceAdd, Nat.reduceSub, Array.replicate_succ, Array.replicate_zero, List.push_toArray, List.append_toArray, List.nil_append, List.cons_append]
  gi_wp2
  refine ⟨trivial, rfl, (callsIn_wide.2 (CX.out w1 H1.out.1.qb)).mono ?_⟩
  rintro e w4 ⟨gg, rfl, v4, l4, m4, q4⟩
  obtain ⟨w5, hw5⟩ : ∃ w5, w4.alloc (.cells #[.int .i64 (pa : Int), .int .i64 (pb : Int), .slice (some ⟨gg, 0, none⟩) np np] 24) = w5 := ⟨_, rfl⟩
  have q5 : Q w4 w5 := by rw [← hw5]; exact (Q.refl w4).cells _ _
  have c5 : PBx w5 w4.heap.size pa pb (.slice (some ⟨gg, 0, none⟩) np np) := ⟨by rw [← hw5]; simp [go_sem], by rw [← hw5]; simp [go_sem], by rw [← hw5]; simp [go_sem]⟩
  have q15 : Qb w1 w5 := q4.trans q5.qb
  have t0 := c5.c0
  have t1 := c5.c1
  have H5 : Hid (Qb w1 w5 ∧ VR w5 gg np (fun j => .int .u32 ((exF nr nc pa pb C j : Nat) : Int)) ∧ w1.heap.size ≤ gg ∧ gg < w4.heap.size ∧ w4.heap.size < w5.heap.size ∧ PBx w5 w4.heap.size pa pb (.slice (some ⟨gg, 0, none⟩) np np)) := ⟨q15, v4.next q5, l4, m4, World.block_lt_of_cell? _ _ c5.c0, c5⟩
  clear v4 l4 m4 q4 q5 c5 q15 k0 k1 k2 k3 k4 hw1
  gi_wp2
  refine ⟨trivial, rfl, (callsIn_wide.2 (places_any pa pb w5)).mono ?_⟩
  rintro e w6 ⟨rfl, q6, s6, d0, d1⟩
  obtain ⟨Bg, hBg⟩ : ∃ Bg, w4.heap.size = Bg := ⟨_, rfl⟩
  have HLT : Hid (w5.heap.size + 2 = w6.heap.size ∧ w.heap.size + 3 ≤ gg ∧ gg < Bg ∧ Bg < w5.heap.size ∧ gf < w.heap.size) := by
    have a1 := H1.out.2.1
    have a3 := H5.out
    rw [← hBg]
    refine ⟨by omega, by omega, by omega, by omega, HS.out.2⟩
  have q16 : Qb w1 w6 := H5.out.1.trans q6.qb
  have HQ6 : Hid (Qb w w6) := H1.out.1.qb.trans q16
  have HF : Hid (UIs w6 gf of F ∧ PBx w6 (w.heap.size + 1) pa pb (.slice (some ⟨gf, of, none⟩) np cf) ∧ ZBp w6 (w.heap.size + 2) ∧ VR w6 gg np (fun j => .int .u32 ((exF nr nc pa pb C j : Nat) : Int)) ∧ PBx w6 Bg pa pb (.slice (some ⟨gg, 0, none⟩) np np)) := by
    have hP : ∀ {x y : World} {B a b : Nat} {v : Value}, PBx x B a b v → Qb x y → PBx y B a b v := fun h q => ⟨q.cell h.c0, q.cell h.c1, q.cell h.c2⟩
    rw [← hBg]
    exact ⟨HS.out.1.nextB HQ6.out, hP H1.out.2.2.1 q16, H1.out.2.2.2.nextB q16, H5.out.2.1.next q6, H5.out.2.2.2.2.2.next q6⟩
  rw [hBg]
  clear hBg H1 H5 CX q16 q6 hw5 t0 t1
  gi_wp2
  refine range_fix (P := Try.prog) (gf := 84) (lb := #[.pointer (some ⟨w5.heap.size + 1, 0, none⟩), .pointer (some ⟨w5.heap.size, 0, none⟩)]) rfl (fun args w => by kernel_rfl) (places_it (w5.heap.size + 1) w5.heap.size pa pb hsz) ?pre ?rd ?ps
    (fun pre Wr => Seg Wr gg 0 np (sfr (fun j => .int .u32 ((jnF nr nc pa pb C F j : Nat) : Int)) (fun j => .int .u32 ((exF nr nc pa pb C j : Nat) : Int)) pre.length) ∧ KeptIn (fun b => b < w6.heap.size ∧ b ≠ gg) w6 Wr) (fun b => b = gg) ?hD ?hDR ?st ?start ?round ?done
  case pre =>
    intro Wr hk
    exact ⟨hk.one (show w5.heap.size + 1 < w6.heap.size by omega) d1, hk.one (show w5.heap.size < w6.heap.size by omega) d0⟩
  case rd => rintro b (rfl | rfl) <;> omega
  case ps => rintro x args B W ⟨rfl, _⟩; rfl
  case hD => rintro b rfl; have := HLT.out; omega
  case hDR => rintro b (rfl | rfl) h <;> (have := HLT.out; omega)
  case st =>
    rintro pre W W' ⟨h1, h3⟩ hk
    have hg : gg < w6.heap.size := by have := HLT.out; omega
    exact ⟨h1.kept hk hg, h3.trans (hk.mono fun b hb => hb.1)⟩
  case start => exact ⟨by rw [List.length_nil, sfr_zero]; exact HF.out.2.2.2.1.seg, KeptIn.reflP _ _⟩
  case round =>
    rintro l pre x rest W args B hl hlw hx ⟨hV, hK⟩ hs ⟨rfl, hB0⟩
    obtain ⟨x1, x2⟩ := range_at hx
    have HX : Hid (pre.length = x ∧ x < np) := ⟨x1, by rw [HN.out.1]; exact x2⟩
    have HRV : Hid (Seg W gg 0 np (sfr (fun j => .int .u32 ((jnF nr nc pa pb C F j : Nat) : Int)) (fun j => .int .u32 ((exF nr nc pa pb C j : Nat) : Int)) pre.length) ∧ KeptIn (fun b => b < w6.heap.size ∧ b ≠ gg) w6 W) := ⟨hV, hK⟩
    clear hV hK hB0 x1 x2 hx
    gi_wp2
    refine ⟨Q.refl _, ?_⟩
    intro W2 hk2 hf2
    have HLTv := HLT.out
    have HKK : Hid (KeptIn (fun b => b < w6.heap.size ∧ b ≠ gg) w6 W2 ∧ Seg W2 gg 0 np (sfr (fun j => .int .u32 ((jnF nr nc pa pb C F j : Nat) : Int)) (fun j => .int .u32 ((exF nr nc pa pb C j : Nat) : Int)) pre.length)) := by
      have kl : KeptIn (fun b => b < w6.heap.size ∧ b ≠ gg) W W2 := hk2.mono (fun b hb e => by subst e; have := hb.1; omega)
      have hgll : gg ≠ l := by omega
      exact ⟨HRV.out.2.trans kl, HRV.out.1.kept hk2 hgll⟩
    have k6 := HKK.out.1
    have hxn := HX.out.2
    have hxn' : (x : Int) < (np : Int) := by omega
    have n0 := qw_some W2
    have f0 := qw_cell (k6.one (b := Bg) ⟨by omega, by omega⟩ HF.out.2.2.2.2.c2)
    have f1 := qw_cell (k6.one (b := w.heap.size + 1) ⟨by omega, by omega⟩ HF.out.2.1.c2)
    have f3 := qw_cell (k6.one (b := gf) ⟨by omega, by omega⟩ (HF.out.1 x (by have := HN.out.2.1; omega)))
    have f4' := HKK.out.2.cell x hxn
    rw [Nat.zero_add, HX.out.1, show sfr (fun j => Value.int .u32 ((jnF nr nc pa pb C F j : Nat) : Int)) (fun j => .int .u32 ((exF nr nc pa pb C j : Nat) : Int)) x x = .int .u32 ((exF nr nc pa pb C x : Nat) : Int) by unfold sfr; rw [if_neg (by omega)]] at f4'
    obtain ⟨sv, hsv⟩ : ∃ sv, F.getD x 0 = sv := ⟨_, rfl⟩
    obtain ⟨gv, hgv⟩ : ∃ gv, exF nr nc pa pb C x = gv := ⟨_, rfl⟩
    rw [hsv] at f3
    rw [hgv] at f4'
    have f4 := qw_cell f4'
    have hs4 : sv < 4294967296 := by rw [← hsv]; exact HN.out.2.2 x
    have hg4 : gv < 4294967296 := by rw [← hgv]; exact dwnF_lt _ _ _ _
    have HSV : Hid (jnF nr nc pa pb C F x = fkeyN (adN sv (keyN gv))) := by show jnF nr nc pa pb C F x = _; unfold jnF; rw [hsv, hgv]
    have HFE : Hid ((∀ (args : Array Value) (x : World), (callFunc 74 args).run Try.prog x = .ok (.enter 74 args) x) ∧ (∀ (args : Array Value) (x : World), (callFunc 75 args).run Try.prog x = .ok (.enter 75 args) x)) := ⟨fun args x => by kernel_rfl, fun args x => by kernel_rfl⟩
    have CK : Hid (∀ (s : Nat) (x : World), s < 4294967296 → Calls Try.prog 74 #[.int .u32 (s : Int)] x fun e w' => ∃ v, e = .returned v ∧ v = .int .u32 ((keyN s : Nat) : Int) ∧ w' = x) := fun s x h => (keyn_any s h x).mono fun e w' ⟨h1, h2⟩ => ⟨_, h1, rfl, h2⟩
    have CF : Hid (∀ (s : Nat) (x : World), s < 4294967296 → Calls Try.prog 75 #[.int .u32 (s : Int)] x fun e w' => ∃ v, e = .returned v ∧ v = .int .u32 ((fkeyN s : Nat) : Int) ∧ w' = x) := fun s x h => (fromkey_any s h x).mono fun e w' ⟨h1, h2⟩ => ⟨_, h1, rfl, h2⟩
    have hwr : IntKind.u32.wrap ((sv : Int) + ((keyN gv : Nat) : Int)) = ((adN sv (keyN gv) : Nat) : Int) := by rw [IntKind.wrap_u32]; exact add_wrap hs4 (keyN_lt hg4)
    clear k6 hk2 hf2 HLTv hsv hgv f4'
    refine wpIn_block ?_
    refine wpIn_region_mk [0, 1, 2, 3, 4, 5, 6, 7, 8, 9, 10, 11, 12] [[13, 14, 15, 16, 17]] 5 _ (by kernel_rfl) (by kernel_rfl) rfl (by kernel_rfl) ?_
    simp only [List.filterMap_cons, List.filterMap_nil, List.getElem?_cons_zero, List.getElem?_cons_succ]
    repeat (first | go_big_quiet_step (fail) | quiet_step (fail))
    refine wpQuiet_nil ?_
    intro x2 hx2
    refine itree_callG (open_round l) 13 rfl rfl (fun c h => by cases h) (run_fn 74 #[.tmp 32] _ rfl HFE.out.1 (vs := #[.int .u32 (gv : Int)]) (by simp [Act.eval, Act.put])) (G := fun v w' => v = .int .u32 ((keyN gv : Nat) : Int) ∧ w' = x2) (CallsIn.inRound l (callsIn_wide.2 (CK.out gv x2 hg4))) ?_
    rintro v x3 ⟨rfl, hx3⟩
    obtain rfl := hx3.symm
    refine ⟨fun _ => hx2, ?_⟩
    refine itree_run 14 rfl rfl rfl (v := .int .u32 ((adN sv (keyN gv) : Nat) : Int)) (x' := x2) (by simp [execOp, go_sem, Act.eval, Act.put, hwr]) hx2 ?_
    refine itree_callG (open_round l) 15 rfl rfl (fun c h => by cases h) (run_fn 75 #[.tmp 34] _ rfl HFE.out.2 (vs := #[.int .u32 ((adN sv (keyN gv) : Nat) : Int)]) (by simp [Act.eval, Act.put])) (G := fun v w' => v = .int .u32 ((fkeyN (adN sv (keyN gv)) : Nat) : Int) ∧ w' = x2) (CallsIn.inRound l (callsIn_wide.2 (CF.out (adN sv (keyN gv)) x2 (adN_lt _ _)))) ?_
    rintro v x3 ⟨rfl, hx3⟩
    obtain rfl := hx3.symm
    refine ⟨fun _ => hx2, ?_⟩
    have V3 := HKK.out.2.next hx2
    have V3c := V3.cell x hxn
    rw [Nat.zero_add] at V3c
    obtain ⟨u, hu⟩ : ∃ u, x2.cell? ⟨gg, x, none⟩ = some u := ⟨_, V3c⟩
    have fu := V3.free x
    refine itree_runF 16 rfl rfl rfl rfl (v := .pointer (some ⟨gg, x, none⟩)) (x' := x2) (by simp [execOp, go_sem, Act.eval, Act.put, hxn, hxn']) ?_
    refine itree_skipF 17 rfl rfl rfl rfl (x' := x2.setCell ⟨gg, x, none⟩ (.int .u32 ((fkeyN (adN sv (keyN gv)) : Nat) : Int))) (by simp [execOp, go_sem, Act.eval, Act.put, hu, fu]) ?_
    refine itree_nil ?_
    refine ⟨rfl, ?_, ?_, ?_⟩
    · exact (Same.of_q hx2 _).trans (same_setP x2 gg x _ (D := fun b => b = gg) rfl) (fun b hb => Or.inl hb)
    · rw [List.length_append, List.length_cons, List.length_nil, HX.out.1]
      rw [HX.out.1] at V3
      have := V3.fill hxn (v := .int .u32 ((fkeyN (adN sv (keyN gv)) : Nat) : Int)) (by rw [HSV.out])
      rw [Nat.zero_add] at this
      rw [Nat.zero_add]
      exact this
    · exact (HKK.out.1.trans (KeptIn.of_qP hx2 (fun b hb => Nat.lt_of_lt_of_le hb.1 HKK.out.1.size))).trans (keptP_set x2 gg x _ (fun h => h.2 rfl))
  case done =>
    rintro E W hE hd hSm ⟨hV, hK⟩
    have HLTv := HLT.out
    have hVf : VR W gg np (fun j => .int .u32 ((jnF nr nc pa pb C F j : Nat) : Int)) := by
      rw [List.length_range, ← HN.out.1] at hV
      exact hV.full.vr
    have t0 := hK.one (b := Bg) ⟨by omega, by omega⟩ HF.out.2.2.2.2.c0
    have t1 := hK.one (b := Bg) ⟨by omega, by omega⟩ HF.out.2.2.2.2.c1
    have t2 := hK.one (b := Bg) ⟨by omega, by omega⟩ HF.out.2.2.2.2.c2
    have hZ : ZBp W (w.heap.size + 2) := by
      have hz := HF.out.2.2.1
      have hC : w.heap.size + 2 < w6.heap.size ∧ w.heap.size + 2 ≠ gg := ⟨by omega, by omega⟩
      refine ⟨hK.one hC hz.c0, hK.one hC hz.c1, hK.one hC hz.c2, fun j => ?_⟩
      have := hz.fr j
      unfold World.frozen? at this ⊢
      rw [hK.block _ hC]
      exact this
    have r0 := hZ.c0
    have r1 := hZ.c1
    have r2 := hZ.c2
    have f0 := hZ.fr 0
    have f1 := hZ.fr 1
    have f2 := hZ.fr 2
    obtain ⟨W5, hW5⟩ : ∃ W5, ((W.setCell ⟨w.heap.size + 2, 0, none⟩ (.int .i64 (pa : Int))).setCell ⟨w.heap.size + 2, 1, none⟩ (.int .i64 (pb : Int))).setCell ⟨w.heap.size + 2, 2, none⟩ (.slice (some ⟨gg, 0, none⟩) np np) = W5 := ⟨_, rfl⟩
    have hneE : w.heap.size + 2 ≠ E := by omega
    have hu := hZ.put hW5
    have v0 : (W5.putObj E (.deferred none)).cell? ⟨w.heap.size + 2, 0, none⟩ = some (.int .i64 (pa : Int)) := by rw [put_cell hneE]; exact hu.c0
    have v1 : (W5.putObj E (.deferred none)).cell? ⟨w.heap.size + 2, 1, none⟩ = some (.int .i64 (pb : Int)) := by rw [put_cell hneE]; exact hu.c1
    have v2 : (W5.putObj E (.deferred none)).cell? ⟨w.heap.size + 2, 2, none⟩ = some (.slice (some ⟨gg, 0, none⟩) np np) := by rw [put_cell hneE]; exact hu.c2
    have hdef : W5.heap[E]? = some (.deferred (some [])) := by
      rw [← hW5, Below.heap_setCell _ _ _ _ (by exact hneE.symm), Below.heap_setCell _ _ _ _ (by exact hneE.symm), Below.heap_setCell _ _ _ _ (by exact hneE.symm)]
      exact hd
    have HEND : Hid (VR (W5.putObj E (.deferred none)) gg np (fun j => .int .u32 ((jnF nr nc pa pb C F j : Nat) : Int)) ∧ w.heap.size ≤ gg ∧ gg < (W5.putObj E (.deferred none)).heap.size ∧ Qb w (W5.putObj E (.deferred none))) := by
      have hqb : Qb w W := HQ6.out.trans' hSm (fun b hb => by omega)
      obtain ⟨a1, a2, a3⟩ := put3_keep (w := w) (by omega) (by omega) hnp1 hW5 hVf hqb
      have hend := a1.putO (E := E) (by omega) (.deferred none)
      exact ⟨hend, by omega, hend.lt hnp1, a3.put (by omega) _⟩
    clear hV hK hSm hVf HLTv hd hE hZ hu
    gi_wp2
    refine ⟨by simp, .inl ⟨_, _, rfl, run_takeDeferred hdef, ?_⟩⟩
    exact ⟨.agg #[.int .i64 (pa : Int), .int .i64 (pb : Int), .slice (some ⟨gg, 0, none⟩) np np], by simp [results, Try.results57, go_sem, v0, v1, v2], gg, rfl, HEND.out⟩
end Go.Proofs.Ytomcbkpplbijgaa
/- pyramid: the first plane of a list that may not be. -/
namespace Go.Proofs.Ytomcbkpplbijgaa
open Go.RowKit Go.Shelf
set_option linter.unusedVariables false
set_option linter.unusedSimpArgs false

/-- The first error of a list. -/
def Fst (E : Nat → Int) (N : Nat) (r : Int) : Prop := (r = 0 ∧ ∀ i, i < N → E i = 0) ∨ (∃ i, i < N ∧ r = E i ∧ r ≠ 0 ∧ ∀ j, j < i → E j = 0)
theorem Fst.unique {E : Nat → Int} {N : Nat} {r s : Int} (h : Fst E N r) (k : Fst E N s) : r = s := by
  rcases h with ⟨h1, h2⟩ | ⟨i, h1, h2, h3, h4⟩
  · rcases k with ⟨k1, k2⟩ | ⟨j, k1, k2, k3, k4⟩
    · omega
    · exact absurd (h2 j k1) (by rw [← k2]; exact k3)
  · rcases k with ⟨k1, k2⟩ | ⟨j, k1, k2, k3, k4⟩
    · exact absurd (k2 i h1) (by rw [← h2]; exact h3)
    · have : i = j := by
        rcases Nat.lt_trichotomy i j with g | g | g
        · exact absurd (k4 i g) (by rw [← h2]; exact h3)
        · exact g
        · exact absurd (h4 j g) (by rw [← k2]; exact k3)
      subst this
      omega
/-- A list of planes in memory, whatever they are. -/
structure PLs (x : World) (g o N : Nat) (W H : Nat → Int) (A : Nat → Option Addr) (n c : Nat → Nat) : Prop where
  c0 : ∀ i, i < N → x.cell? ⟨g, o + i * 3, none⟩ = some (.int .i64 (W i))
  c1 : ∀ i, i < N → x.cell? ⟨g, o + i * 3 + 1, none⟩ = some (.int .i64 (H i))
  c2 : ∀ i, i < N → x.cell? ⟨g, o + i * 3 + 2, none⟩ = some (.slice (A i) (n i) (c i))
theorem PLs.nextB {x y : World} {g o N : Nat} {W H : Nat → Int} {A : Nat → Option Addr} {n c : Nat → Nat} (h : PLs x g o N W H A n c) (q : Qb x y) : PLs y g o N W H A n c := ⟨fun i hi => q.cell (h.c0 i hi), fun i hi => q.cell (h.c1 i hi), fun i hi => q.cell (h.c2 i hi)⟩
set_option maxHeartbeats 2000000 in
set_option maxRecDepth 100000 in
theorem prefusal_any (g o N cap : Nat) (W H : Nat → Int) (A : Nat → Option Addr) (n c : Nat → Nat) (w : World) (hP : PLs w g o N W H A n c) (hN : N ≤ 1048576) (hn : ∀ i, i < N → n i ≤ 9223372036854775807) :
    Calls Try.prog 56 #[.slice (some ⟨g, o, none⟩) N cap] w fun e w' => ∃ r, e = .returned (.int .i64 r) ∧ Fst (fun i => chk (W i) (H i) (n i)) N r ∧ Q w w' := by
  have CK : Hid (∀ (i : Nat) (w : World), i < N → Calls Try.prog 44 #[.agg #[.int .i64 (W i), .int .i64 (H i), .slice (A i) (n i) (c i)]] w fun e w' => e = .returned (.int .i64 (chk (W i) (H i) (n i))) ∧ Q w w') := fun i w hi => check_any (W i) (H i) (A i) (n i) (c i) (hn i hi) w
  have HP : Hid (PLs w g o N W H A n c) := hP
  clear hP hn
  go_enter Try.func56, Try.ntmps56
  go_wp2_with fail
  go_loopg [4, 5, 8] N (fun m s4 s5 s8 wr => ∃ i : Nat, s8 = .int .i64 (i : Int) ∧ i + m = N ∧ Hid (Q w wr ∧ ∀ j, j < i → chk (W j) (H j) (n j) = 0))
  case atStart => exact ⟨0, rfl, by omega, Q.refl w, fun j hj => by omega⟩
  case round =>
    obtain ⟨i, rfl, hi, HX⟩ := hrel
    by_cases hlt : i < N
    · have hlt' : (i : Int) < (N : Int) := by omega
      have c0 := HX.out.1.cell (HP.out.c0 i hlt)
      have c1 := HX.out.1.cell (HP.out.c1 i hlt)
      have c2 := HX.out.1.cell (HP.out.c2 i hlt)
      obtain ⟨w2, hw2⟩ : ∃ w2, wr.alloc (.cells #[.int .i64 (W i), .int .i64 (H i), .slice (A i) (n i) (c i)] 24) = w2 := ⟨_, rfl⟩
      have HQ2 : Hid (Q wr w2) := by show Q wr w2; rw [← hw2]; exact (Q.refl wr).cells _ _
      have d0 : w2.cell? ⟨wr.heap.size, 0, none⟩ = some (.int .i64 (W i)) := by rw [← hw2]; simp [go_sem]
      have d1 : w2.cell? ⟨wr.heap.size, 1, none⟩ = some (.int .i64 (H i)) := by rw [← hw2]; simp [go_sem]
      have d2 : w2.cell? ⟨wr.heap.size, 2, none⟩ = some (.slice (A i) (n i) (c i)) := by rw [← hw2]; simp [go_sem]
      have CK1 : Hid (Calls Try.prog 44 #[.agg #[.int .i64 (W i), .int .i64 (H i), .slice (A i) (n i) (c i)]] w2 fun e w' => e = .returned (.int .i64 (chk (W i) (H i) (n i))) ∧ Q w2 w') := CK.out i w2 hlt
      obtain ⟨E, hE⟩ : ∃ E, chk (W i) (H i) (n i) = E := ⟨_, rfl⟩
      have HE : Hid (∀ j, j = i → chk (W j) (H j) (n j) = E) := fun j hj => by rw [hj]; exact hE
      rw [hE] at CK1
      clear hE
      generalize W i = Wi at *
      generalize H i = Hi at *
      generalize A i = Ai at *
      generalize n i = ni at *
      generalize c i = ci at *
      go_wp2_with fail
      refine CK1.out.mono ?_
      rintro e w3 ⟨rfl, q3⟩
      have HQ3 : Hid (Q w w3) := (HX.out.1.trans HQ2.out).trans q3
      clear q3 d0 d1 d2 c0 c1 c2 hw2
      by_cases he : E = 0
      · subst he
        go_wp2_with fail
        go_roundg (N - (i + 1))
        case measure => go_light; omega
        case rel => go_light; exact ⟨i + 1, by go_num, by omega, HQ3.out, fun j hj => by
          by_cases e : j = i
          · exact HE.out j e
          · exact HX.out.2 j (by omega)⟩
      · have hbe : (E != 0) = true := by simpa using he
        have hbe2 : (E == 0) = false := by simpa using he
        go_wp2_with fail
        go_ret
        exact ⟨E, rfl, Or.inr ⟨i, hlt, (HE.out i rfl).symm, he, HX.out.2⟩, HQ3.out⟩
    · obtain rfl : i = N := by omega
      have hge : ¬ (i : Int) < (i : Int) := by omega
      go_wp2_with fail
      go_ret
      exact ⟨0, rfl, Or.inl ⟨rfl, HX.out.2⟩, HX.out.1⟩
end Go.Proofs.Ytomcbkpplbijgaa
/- pyramid: Join. (gen_pys.py) -/
namespace Go.Proofs.Ytomcbkpplbijgaa
open Go.RowKit Go.Shelf
set_option linter.unusedVariables false
set_option linter.unusedSimpArgs false

theorem two_ref (W H W' H' : Int) (a a' : Option Addr) (n c n' c' : Nat) (x : World) (hn : n ≤ 9223372036854775807) (hn' : n' ≤ 9223372036854775807) :
    Calls Try.prog 56 #[.slice (some ⟨x.heap.size, 0, none⟩) 2 2] (x.alloc (.cells #[.int .i64 W, .int .i64 H, .slice a n c, .int .i64 W', .int .i64 H', .slice a' n' c'] 24)) fun e w' => ∃ r, e = .returned (.int .i64 r) ∧ Fst (fun i => if i = 0 then chk W H n else chk W' H' n') 2 r ∧ Q x w' := by
  have i01 : ∀ i, i < 2 → i = 0 ∨ i = 1 := fun i hi => by omega
  have := prefusal_any x.heap.size 0 2 2 (fun i => if i = 0 then W else W') (fun i => if i = 0 then H else H') (fun i => if i = 0 then a else a') (fun i => if i = 0 then n else n') (fun i => if i = 0 then c else c') (x.alloc (.cells #[.int .i64 W, .int .i64 H, .slice a n c, .int .i64 W', .int .i64 H', .slice a' n' c'] 24)) ⟨fun i hi => by rcases i01 i hi with rfl | rfl <;> exact lit_cells _ rfl, fun i hi => by rcases i01 i hi with rfl | rfl <;> exact lit_cells _ rfl, fun i hi => by rcases i01 i hi with rfl | rfl <;> exact lit_cells _ rfl⟩ (by decide) (fun i hi => by rcases i01 i hi with rfl | rfl <;> assumption)
  refine this.mono ?_
  rintro e w' ⟨r, h1, h2, h3⟩
  refine ⟨r, h1, ?_, ((Q.refl x).cells _ _).trans h3⟩
  have e : (fun i => chk ((fun i : Nat => if i = 0 then W else W') i) ((fun i : Nat => if i = 0 then H else H') i) ((fun i : Nat => if i = 0 then n else n') i)) = fun i : Nat => if i = 0 then chk W H n else chk W' H' n' := by
    funext i
    by_cases h : i = 0
    · simp [h]
    · simp [h]
  rw [e] at h2
  exact h2
theorem fst_zero {a b r : Int} (h : Fst (fun i : Nat => if i = 0 then a else b) 2 r) (ha : a = 0) (hb : b = 0) : r = 0 := by
  rcases h with ⟨h, _⟩ | ⟨i, h1, h2, h3, _⟩
  · exact h
  · exfalso
    apply h3
    rw [h2]
    simp only
    split <;> assumption
theorem fst_bad {a b r : Int} (h : Fst (fun i : Nat => if i = 0 then a else b) 2 r) (hb : ¬ (a = 0 ∧ b = 0)) : r ≠ 0 := by
  rcases h with ⟨_, h⟩ | ⟨i, h1, h2, h3, _⟩
  · exfalso
    have h0 := h 0 (by omega)
    have h1 := h 1 (by omega)
    simp at h0 h1
    exact hb ⟨h0, h1⟩
  · exact h3
set_option maxHeartbeats 4000000 in
set_option maxRecDepth 100000 in
theorem Join_bad (W H W' H' : Int) (a a' : Option Addr) (n c n' c' : Nat) (w : World) (hn : n ≤ 9223372036854775807) (hn' : n' ≤ 9223372036854775807) (hbad : ¬ (chk W H n = 0 ∧ chk W' H' n' = 0)) :
    Calls Try.prog 23 #[.agg #[.int .i64 W, .int .i64 H, .slice a n c], .agg #[.int .i64 W', .int .i64 H', .slice a' n' c']] w fun e w' => ∃ r, e = .returned (.tuple #[.agg #[.int .i64 0, .int .i64 0, .slice none 0 0], .int .i64 r]) ∧ Fst (fun i => if i = 0 then chk W H n else chk W' H' n') 2 r ∧ r ≠ 0 ∧ Qb w w' := by
  have HNN : Hid (n ≤ 9223372036854775807 ∧ n' ≤ 9223372036854775807) := ⟨hn, hn'⟩
  have HBD : Hid (¬ (chk W H n = 0 ∧ chk W' H' n' = 0)) := hbad
  clear hbad
  obtain ⟨w1, hw1⟩ : ∃ w1, ((w.alloc (.cells #[.int .i64 W, .int .i64 H, .slice a n c] 24)).alloc (.cells #[.int .i64 W', .int .i64 H', .slice a' n' c'] 24)).alloc (.cells #[.int .i64 0, .int .i64 0, .slice none 0 0] 24) = w1 := ⟨_, rfl⟩
  have q1 : Q w w1 := by rw [← hw1]; exact (((Q.refl w).cells _ _).cells _ _).cells _ _
  have s1 : w1.heap.size = w.heap.size + 3 := by rw [← hw1]; simp
  have k0 : w1.cell? ⟨w.heap.size, 0, none⟩ = some (.int .i64 W) := by rw [← hw1]; simp [go_sem]
  have k1 : w1.cell? ⟨w.heap.size, 1, none⟩ = some (.int .i64 H) := by rw [← hw1]; simp [go_sem]
  have k2 : w1.cell? ⟨w.heap.size, 2, none⟩ = some (.slice a n c) := by rw [← hw1]; simp [go_sem]
  have k3 : w1.cell? ⟨w.heap.size + 1, 0, none⟩ = some (.int .i64 W') := by rw [← hw1]; simp [go_sem]
  have k4 : w1.cell? ⟨w.heap.size + 1, 1, none⟩ = some (.int .i64 H') := by rw [← hw1]; simp [go_sem]
  have k5 : w1.cell? ⟨w.heap.size + 1, 2, none⟩ = some (.slice a' n' c') := by rw [← hw1]; simp [go_sem]
  have z1 : ZBp w1 (w.heap.size + 2) := ⟨by rw [← hw1]; simp [go_sem], by rw [← hw1]; simp [go_sem], by rw [← hw1]; simp [go_sem], fun j => by rw [← hw1]; simp [go_sem]⟩
  have CF : Hid (∀ x : World, Calls Try.prog 56 #[.slice (some ⟨x.heap.size, 0, none⟩) 2 2] (x.alloc (.cells #[.int .i64 W, .int .i64 H, .slice a n c, .int .i64 W', .int .i64 H', .slice a' n' c'] 24)) fun e w' => ∃ r, e = .returned (.int .i64 r) ∧ Fst (fun i => if i = 0 then chk W H n else chk W' H' n') 2 r ∧ Q x w') := fun x => two_ref _ _ _ _ _ _ _ _ _ _ x HNN.out.1 HNN.out.2
  have H1 : Hid (Q w w1 ∧ w1.heap.size = w.heap.size + 3 ∧ ZBp w1 (w.heap.size + 2)) := ⟨q1, s1, z1⟩
  clear q1 s1 z1
  clear hn hn'
  go_enter Try.func23, Try.ntmps23
  go_wp2_with fail
  refine (CF.out w1).mono ?_
  rintro e w2 ⟨r, rfl, hf, q2⟩
  have hr : r ≠ 0 := fst_bad hf HBD.out
  have HF : Hid (Fst (fun i => if i = 0 then chk W H n else chk W' H' n') 2 r ∧ r ≠ 0 ∧ Qb w w2) := ⟨hf, hr, (H1.out.1.trans q2).qb⟩
  have z2 := H1.out.2.2.nextB q2.qb
  have hbe : (r != 0) = true := by simpa using hr
  have hbe2 : (r == 0) = false := by simpa using hr
  have r0 := z2.c0
  have r1 := z2.c1
  have r2 := z2.c2
  have f0 := z2.fr 0
  have f1 := z2.fr 1
  have f2 := z2.fr 2
  have i0 := setcell_id r0
  have i1 := setcell_id r1
  have i2 := setcell_id r2
  clear hf z2 q2 hr k0 k1 k2 k3 k4 k5
  go_wp2_with fail
  exact bodyPost_ret (v := .tuple #[.agg #[.int .i64 0, .int .i64 0, .slice none 0 0], .int .i64 r]) (by simp [results, Try.results23, go_sem, r0, r1, r2]) rfl ⟨r, rfl, HF.out⟩
set_option maxHeartbeats 4000000 in
set_option maxRecDepth 100000 in
theorem Join_141 (nr nc pa pb : Nat) (a a' : Option Addr) (n c n' c' : Nat) (w : World) (hn : n ≤ 9223372036854775807) (hn' : n' ≤ 9223372036854775807) (hc0 : chk nr nc n = 0) (hc1 : chk pa pb n' = 0) (hpa : pa ≤ 1024) (hpb : pb ≤ 1024) (hh : ¬ ((pa + 1) / 2 = nr ∧ (pb + 1) / 2 = nc)) :
    Calls Try.prog 23 #[.agg #[.int .i64 (nr : Int), .int .i64 (nc : Int), .slice a n c], .agg #[.int .i64 (pa : Int), .int .i64 (pb : Int), .slice a' n' c']] w fun e w' => e = .returned (.tuple #[.agg #[.int .i64 0, .int .i64 0, .slice none 0 0], .int .i64 141]) ∧ Qb w w' := by
  have HNN : Hid (n ≤ 9223372036854775807 ∧ n' ≤ 9223372036854775807) := ⟨hn, hn'⟩
  have HC : Hid (chk nr nc n = 0 ∧ chk pa pb n' = 0) := ⟨hc0, hc1⟩
  have CH : Hid (∀ x : World, Calls Try.prog 49 #[.agg #[.int .i64 (nr : Int), .int .i64 (nc : Int), .slice a n c], .int .i64 (pa : Int), .int .i64 (pb : Int)] x fun e w' => e = .returned (.bool false) ∧ Q x w') := fun x => by
    have := ishalf_any nr nc pa pb (.slice a n c) ⟨_, _, _, rfl⟩ hpa hpb x
    rw [show (decide ((pa + 1) / 2 = nr) && decide ((pb + 1) / 2 = nc)) = false by
      rw [Bool.and_eq_false_iff]
      by_cases h : (pa + 1) / 2 = nr
      · exact Or.inr (decide_eq_false (fun h2 => hh ⟨h, h2⟩))
      · exact Or.inl (decide_eq_false h)] at this
    exact this
  clear hc0 hc1 hh
  obtain ⟨w1, hw1⟩ : ∃ w1, ((w.alloc (.cells #[.int .i64 (nr : Int), .int .i64 (nc : Int), .slice a n c] 24)).alloc (.cells #[.int .i64 (pa : Int), .int .i64 (pb : Int), .slice a' n' c'] 24)).alloc (.cells #[.int .i64 0, .int .i64 0, .slice none 0 0] 24) = w1 := ⟨_, rfl⟩
  have q1 : Q w w1 := by rw [← hw1]; exact (((Q.refl w).cells _ _).cells _ _).cells _ _
  have s1 : w1.heap.size = w.heap.size + 3 := by rw [← hw1]; simp
  have k0 : w1.cell? ⟨w.heap.size, 0, none⟩ = some (.int .i64 (nr : Int)) := by rw [← hw1]; simp [go_sem]
  have k1 : w1.cell? ⟨w.heap.size, 1, none⟩ = some (.int .i64 (nc : Int)) := by rw [← hw1]; simp [go_sem]
  have k2 : w1.cell? ⟨w.heap.size, 2, none⟩ = some (.slice a n c) := by rw [← hw1]; simp [go_sem]
  have k3 : w1.cell? ⟨w.heap.size + 1, 0, none⟩ = some (.int .i64 (pa : Int)) := by rw [← hw1]; simp [go_sem]
  have k4 : w1.cell? ⟨w.heap.size + 1, 1, none⟩ = some (.int .i64 (pb : Int)) := by rw [← hw1]; simp [go_sem]
  have k5 : w1.cell? ⟨w.heap.size + 1, 2, none⟩ = some (.slice a' n' c') := by rw [← hw1]; simp [go_sem]
  have z1 : ZBp w1 (w.heap.size + 2) := ⟨by rw [← hw1]; simp [go_sem], by rw [← hw1]; simp [go_sem], by rw [← hw1]; simp [go_sem], fun j => by rw [← hw1]; simp [go_sem]⟩
  have CF : Hid (∀ x : World, Calls Try.prog 56 #[.slice (some ⟨x.heap.size, 0, none⟩) 2 2] (x.alloc (.cells #[.int .i64 (nr : Int), .int .i64 (nc : Int), .slice a n c, .int .i64 (pa : Int), .int .i64 (pb : Int), .slice a' n' c'] 24)) fun e w' => ∃ r, e = .returned (.int .i64 r) ∧ Fst (fun i => if i = 0 then chk (nr : Int) (nc : Int) n else chk (pa : Int) (pb : Int) n') 2 r ∧ Q x w') := fun x => two_ref _ _ _ _ _ _ _ _ _ _ x HNN.out.1 HNN.out.2
  have H1 : Hid (Q w w1 ∧ w1.heap.size = w.heap.size + 3 ∧ ZBp w1 (w.heap.size + 2)) := ⟨q1, s1, z1⟩
  clear q1 s1 z1
  clear hn hn'
  go_enter Try.func23, Try.ntmps23
  go_wp2_with fail
  refine (CF.out w1).mono ?_
  rintro e w2 ⟨r, rfl, hf, q2⟩
  obtain rfl : r = 0 := fst_zero hf HC.out.1 HC.out.2
  have H2 : Hid (Q w1 w2) := q2
  have k0 := q2.cell k0
  have k1 := q2.cell k1
  have k2 := q2.cell k2
  have k3 := q2.cell k3
  have k4 := q2.cell k4
  have k5 := q2.cell k5
  clear hf q2
  go_wp2_with fail
  refine (CH.out w2).mono ?_
  rintro e w3 ⟨rfl, q3⟩
  have q13 := H2.out.trans q3
  have z2 := H1.out.2.2.nextB q13.qb
  have HE : Hid (Qb w w3) := (H1.out.1.trans q13).qb
  have r0 := z2.c0
  have r1 := z2.c1
  have r2 := z2.c2
  have f0 := z2.fr 0
  have f1 := z2.fr 1
  have f2 := z2.fr 2
  have i0 := setcell_id r0
  have i1 := setcell_id r1
  have i2 := setcell_id r2
  clear z2 q13 q3 k0 k1 k2 k3 k4 k5
  go_wp2_with fail
  exact bodyPost_ret (v := .tuple #[.agg #[.int .i64 0, .int .i64 0, .slice none 0 0], .int .i64 141]) (by simp [results, Try.results23, go_sem, r0, r1, r2]) rfl ⟨rfl, HE.out⟩
set_option maxHeartbeats 4000000 in
set_option maxRecDepth 100000 in
theorem Join_good (pa pb nr nc n g0 o0 cc gf of cf np : Nat) (C F : List Nat) (w : World) (hsz : Size pa pb) (hszc : Size nr nc) (hnp : np = pa * pb) (hnr : (pa + 1) / 2 = nr) (hnc : (pb + 1) / 2 = nc) (hn : n = nr * nc) (hC : C.length = n) (hb : ∀ i, C.getD i 0 < 4294967296) (hI : UIs w g0 o0 C) (hcc : n ≤ cc) (hF : F.length = np) (hbf : ∀ i, F.getD i 0 < 4294967296) (hJ : UIs w gf of F) :
    Calls Try.prog 23 #[.agg #[.int .i64 (nr : Int), .int .i64 (nc : Int), .slice (some ⟨g0, o0, none⟩) n cc], .agg #[.int .i64 (pa : Int), .int .i64 (pb : Int), .slice (some ⟨gf, of, none⟩) np cf]] w fun e w' => ∃ gt, e = .returned (.tuple #[.agg #[.int .i64 (pa : Int), .int .i64 (pb : Int), .slice (some ⟨gt, 0, none⟩) np np], .int .i64 0]) ∧ VR w' gt np (fun j => .int .u32 ((jnF nr nc pa pb C F j : Nat) : Int)) ∧ w.heap.size ≤ gt ∧ gt < w'.heap.size ∧ Qb w w' := by
  have HNN : Hid (n ≤ 9223372036854775807 ∧ np ≤ 9223372036854775807) := ⟨by rw [hn]; have := hszc.ab; omega, by rw [hnp]; have := hsz.ab; omega⟩
  have HC : Hid (chk nr nc n = 0 ∧ chk pa pb np = 0) := ⟨by rw [hn]; exact chk_size hszc, by rw [hnp]; exact chk_size hsz⟩
  have hnp1 : 1 ≤ np := by rw [hnp]; exact hsz.pos
  have CH : Hid (∀ x : World, Calls Try.prog 49 #[.agg #[.int .i64 (nr : Int), .int .i64 (nc : Int), .slice (some ⟨g0, o0, none⟩) n cc], .int .i64 (pa : Int), .int .i64 (pb : Int)] x fun e w' => e = .returned (.bool true) ∧ Q x w') := fun x => by
    have := ishalf_any nr nc pa pb (.slice (some ⟨g0, o0, none⟩) n cc) ⟨_, _, _, rfl⟩ hsz.a2 hsz.b2 x
    rw [decide_eq_true hnr, decide_eq_true hnc] at this
    exact this
  have CJ : Hid (∀ x : World, Qb w x → Calls Try.prog 57 #[.agg #[.int .i64 (nr : Int), .int .i64 (nc : Int), .slice (some ⟨g0, o0, none⟩) n cc], .agg #[.int .i64 (pa : Int), .int .i64 (pb : Int), .slice (some ⟨gf, of, none⟩) np cf]] x fun e w' => ∃ gt, e = .returned (.agg #[.int .i64 (pa : Int), .int .i64 (pb : Int), .slice (some ⟨gt, 0, none⟩) np np]) ∧ VR w' gt np (fun j => .int .u32 ((jnF nr nc pa pb C F j : Nat) : Int)) ∧ x.heap.size ≤ gt ∧ gt < w'.heap.size ∧ Qb x w') := fun x q => pjoin_any pa pb nr nc n g0 o0 cc gf of cf np C F x hsz hszc hnp hnr hnc hn hC hb (hI.nextB q) hcc hF hbf (hJ.nextB q)
  obtain ⟨w1, hw1⟩ : ∃ w1, ((w.alloc (.cells #[.int .i64 (nr : Int), .int .i64 (nc : Int), .slice (some ⟨g0, o0, none⟩) n cc] 24)).alloc (.cells #[.int .i64 (pa : Int), .int .i64 (pb : Int), .slice (some ⟨gf, of, none⟩) np cf] 24)).alloc (.cells #[.int .i64 0, .int .i64 0, .slice none 0 0] 24) = w1 := ⟨_, rfl⟩
  have q1 : Q w w1 := by rw [← hw1]; exact (((Q.refl w).cells _ _).cells _ _).cells _ _
  have s1 : w1.heap.size = w.heap.size + 3 := by rw [← hw1]; simp
  have k0 : w1.cell? ⟨w.heap.size, 0, none⟩ = some (.int .i64 (nr : Int)) := by rw [← hw1]; simp [go_sem]
  have k1 : w1.cell? ⟨w.heap.size, 1, none⟩ = some (.int .i64 (nc : Int)) := by rw [← hw1]; simp [go_sem]
  have k2 : w1.cell? ⟨w.heap.size, 2, none⟩ = some (.slice (some ⟨g0, o0, none⟩) n cc) := by rw [← hw1]; simp [go_sem]
  have k3 : w1.cell? ⟨w.heap.size + 1, 0, none⟩ = some (.int .i64 (pa : Int)) := by rw [← hw1]; simp [go_sem]
  have k4 : w1.cell? ⟨w.heap.size + 1, 1, none⟩ = some (.int .i64 (pb : Int)) := by rw [← hw1]; simp [go_sem]
  have k5 : w1.cell? ⟨w.heap.size + 1, 2, none⟩ = some (.slice (some ⟨gf, of, none⟩) np cf) := by rw [← hw1]; simp [go_sem]
  have z1 : ZBp w1 (w.heap.size + 2) := ⟨by rw [← hw1]; simp [go_sem], by rw [← hw1]; simp [go_sem], by rw [← hw1]; simp [go_sem], fun j => by rw [← hw1]; simp [go_sem]⟩
  have CF : Hid (∀ x : World, Calls Try.prog 56 #[.slice (some ⟨x.heap.size, 0, none⟩) 2 2] (x.alloc (.cells #[.int .i64 (nr : Int), .int .i64 (nc : Int), .slice (some ⟨g0, o0, none⟩) n cc, .int .i64 (pa : Int), .int .i64 (pb : Int), .slice (some ⟨gf, of, none⟩) np cf] 24)) fun e w' => ∃ r, e = .returned (.int .i64 r) ∧ Fst (fun i => if i = 0 then chk (nr : Int) (nc : Int) n else chk (pa : Int) (pb : Int) np) 2 r ∧ Q x w') := fun x => two_ref _ _ _ _ _ _ _ _ _ _ x HNN.out.1 HNN.out.2
  have H1 : Hid (Q w w1 ∧ w1.heap.size = w.heap.size + 3 ∧ ZBp w1 (w.heap.size + 2)) := ⟨q1, s1, z1⟩
  clear q1 s1 z1
  clear hnp hnr hnc hn hC hb hI hcc hF hbf hJ
  go_enter Try.func23, Try.ntmps23
  go_wp2_with fail
  refine (CF.out w1).mono ?_
  rintro e w2 ⟨r, rfl, hf, q2⟩
  obtain rfl : r = 0 := fst_zero hf HC.out.1 HC.out.2
  have H2 : Hid (Q w1 w2) := q2
  have k0 := q2.cell k0
  have k1 := q2.cell k1
  have k2 := q2.cell k2
  have k3 := q2.cell k3
  have k4 := q2.cell k4
  have k5 := q2.cell k5
  clear hf q2
  go_wp2_with fail
  refine (CH.out w2).mono ?_
  rintro e w3 ⟨rfl, q3⟩
  replace H2 : Hid (Q w1 w3) := H2.out.trans q3
  have k0 := q3.cell k0
  have k1 := q3.cell k1
  have k2 := q3.cell k2
  have k3 := q3.cell k3
  have k4 := q3.cell k4
  have k5 := q3.cell k5
  clear q3
  go_wp2_with fail
  refine (CJ.out w3 (H1.out.1.trans H2.out).qb).mono ?_
  rintro e w4 ⟨gt, rfl, v4, l4, m4, q4⟩
  have q14 : Qb w1 w4 := H2.out.qb.trans q4
  have z3 := H1.out.2.2.nextB q14
  have r0 := z3.c0
  have r1 := z3.c1
  have r2 := z3.c2
  have f0 := z3.fr 0
  have f1 := z3.fr 1
  have f2 := z3.fr 2
  obtain ⟨x6, hx6⟩ : ∃ x6, ((w4.setCell ⟨w.heap.size + 2, 0, none⟩ (.int .i64 (pa : Int))).setCell ⟨w.heap.size + 2, 1, none⟩ (.int .i64 (pb : Int))).setCell ⟨w.heap.size + 2, 2, none⟩ (.slice (some ⟨gt, 0, none⟩) np np) = x6 := ⟨_, rfl⟩
  have u := z3.put hx6
  have u0 := u.c0
  have u1 := u.c1
  have u2 := u.c2
  have HE : Hid (VR x6 gt np (fun j => .int .u32 ((jnF nr nc pa pb C F j : Nat) : Int)) ∧ w.heap.size ≤ gt ∧ gt < x6.heap.size ∧ Qb w x6) := by
    have hl : w.heap.size + 2 < w3.heap.size := Nat.lt_of_lt_of_le H1.out.2.2.lt H2.out.qb.sz
    obtain ⟨a1, a2, a3⟩ := put3_keep (w := w) (by omega) (by omega) hnp1 hx6 v4 (H1.out.1.qb.trans q14)
    exact ⟨a1, by omega, a2, a3⟩
  clear u z3 q14 v4 l4 m4 q4 k0 k1 k2 k3 k4 k5
  go_wp2_with fail
  exact bodyPost_ret (v := .tuple #[.agg #[.int .i64 (pa : Int), .int .i64 (pb : Int), .slice (some ⟨gt, 0, none⟩) np np], .int .i64 0]) (by simp [results, Try.results23, go_sem, u0, u1, u2]) rfl ⟨gt, rfl, HE.out⟩
end Go.Proofs.Ytomcbkpplbijgaa
