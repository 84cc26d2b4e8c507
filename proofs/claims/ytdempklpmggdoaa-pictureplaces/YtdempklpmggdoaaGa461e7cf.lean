/- Matrix. -/
import Derived.Test.YtdempklpmggdoaaG072211db
import Derived.Test.YtdempklpmggdoaaGdad0de17
namespace Go.Proofs.Ytdempklpmggdoaa
open Go.RowKit
set_option linter.unusedVariables false
set_option linter.unusedSimpArgs false

set_option maxHeartbeats 400000 in
theorem number8_any (a : Nat) (ha : a < 4294967296) (w : World) : Calls Try.prog 73 #[.int .u32 (a : Int)] w fun e w' => e = .returned (.float .f64 (wideW a)) ∧ Q w w' := by
  have l1 := f64from
  go_enter Try.func73, Try.ntmps73
  go_wp2_with fail
  refine (cwide_any a ha _).mono ?_
  rintro e w1 ⟨rfl, q1⟩
  go_wp2_with fail
  go_ret
  exact ⟨by simp, q1⟩
set_option maxHeartbeats 1000000 in
theorem product8_any (a b : Nat) (ha : a < 4294967296) (hb : b < 4294967296) (w : World) : Calls Try.prog 64 #[.int .u32 (a : Int), .int .u32 (b : Int)] w fun e w' => ∃ u, e = .returned u ∧ ∃ p : Nat, u = .float .f64 p ∧ canW p = opT .mul (wideW a) (wideW b) ∧ Q w w' := by
  have l3 := fun x y w => run_res .mul (by simp) 104 x y Try.prog w
  have l5 := same7
  go_enter Try.func64, Try.ntmps64
  go_wp2_with fail
  refine (number8_any a ha _).mono ?_
  rintro e w1 ⟨rfl, q1⟩
  go_wp2_with fail
  refine (number8_any b hb _).mono ?_
  rintro e w2 ⟨rfl, q2⟩
  go_wp2_with fail
  go_ret
  exact ⟨_, rfl, _, rfl, res_can hA3 (can_wide a) (can_wide b), (q1.trans q2).trans (resU_q _ _ _ _)⟩
theorem run_addf {ρ : Operand → Value} {o : Oper} {s u : Operand} {ty : TypeId} (ho : o.op = .binOp .add 104 s u ty) {x : World} {p q : Nat} (hs : ρ s = .float .f64 p) (hu : ρ u = .float .f64 q) : (execOp ρ o).run Try.prog x = .ok (.value (.float .f64 (resW .add p q x))) (resU .add p q x) := by
  obtain ⟨dst, op, ty, ps, af, g⟩ := o
  have ho : op = _ := ho
  subst ho
  have l1 := run_res .add (by simp) 104 p q Try.prog x
  simp [execOp, hs, hu, go_sem, l1]
def sum3 (a b c r s t : Nat) : Nat := opT .add (opT .add (opT .mul (wideW a) (wideW r)) (opT .mul (wideW b) (wideW s))) (opT .mul (wideW c) (wideW t))
def rowV (a b c r s t : Nat) : Nat := narW (sum3 a b c r s t)
set_option maxHeartbeats 4000000 in
set_option maxRecDepth 100000 in
theorem row0_any (m : Nat → Nat) (hm : ∀ i, m i < 4294967296) (r s t : Nat) (hr : r < 4294967296) (hs : s < 4294967296) (ht : t < 4294967296) (w : World) : Calls Try.prog 49 #[.agg #[.int .u32 ((m 0 : Nat) : Int), .int .u32 ((m 1 : Nat) : Int), .int .u32 ((m 2 : Nat) : Int), .int .u32 ((m 3 : Nat) : Int), .int .u32 ((m 4 : Nat) : Int), .int .u32 ((m 5 : Nat) : Int), .int .u32 ((m 6 : Nat) : Int), .int .u32 ((m 7 : Nat) : Int), .int .u32 ((m 8 : Nat) : Int)], .int .i64 0, .agg #[.int .u32 (r : Int), .int .u32 (s : Int), .int .u32 (t : Int)]] w fun e w' => ∃ u, e = .returned u ∧ u = .int .u32 ((rowV (m 0) (m 1) (m 2) r s t : Nat) : Int) ∧ Q w w' := by
  have l1 := enters_of Try.func64 (by kernel_rfl) rfl
  have l6 := f64bits
  have z0 : IntKind.i64.wrap 0 = 0 := by decide
  have z1 : IntKind.i64.wrap 1 = 1 := by decide
  have z2 : IntKind.i64.wrap 2 = 2 := by decide
  have z3 : IntKind.i64.wrap 3 = 3 := by decide
  have z4 : IntKind.i64.wrap 4 = 4 := by decide
  have z5 : IntKind.i64.wrap 5 = 5 := by decide
  have z6 : IntKind.i64.wrap 6 = 6 := by decide
  have z7 : IntKind.i64.wrap 7 = 7 := by decide
  have z8 : IntKind.i64.wrap 8 = 8 := by decide
  have HM : Hid (∀ i, m i < 4294967296) := hm
  clear hm
  go_enter Try.func49, Try.ntmps49
  go_wp2_with fail
  have HQ : Hid (Q w ((w.alloc (Obj.cells #[.int .u32 ((m 0 : Nat) : Int), .int .u32 ((m 1 : Nat) : Int), .int .u32 ((m 2 : Nat) : Int), .int .u32 ((m 3 : Nat) : Int), .int .u32 ((m 4 : Nat) : Int), .int .u32 ((m 5 : Nat) : Int), .int .u32 ((m 6 : Nat) : Int), .int .u32 ((m 7 : Nat) : Int), .int .u32 ((m 8 : Nat) : Int)] 69)).alloc (Obj.cells #[.int .u32 (r : Int), .int .u32 (s : Int), .int .u32 (t : Int)] 91))) := ((Q.refl w).cells _ _).cells _ _
  have a0 : ((w.alloc (Obj.cells #[.int .u32 ((m 0 : Nat) : Int), .int .u32 ((m 1 : Nat) : Int), .int .u32 ((m 2 : Nat) : Int), .int .u32 ((m 3 : Nat) : Int), .int .u32 ((m 4 : Nat) : Int), .int .u32 ((m 5 : Nat) : Int), .int .u32 ((m 6 : Nat) : Int), .int .u32 ((m 7 : Nat) : Int), .int .u32 ((m 8 : Nat) : Int)] 69)).alloc (Obj.cells #[.int .u32 (r : Int), .int .u32 (s : Int), .int .u32 (t : Int)] 91)).cell? ⟨w.heap.size, 0, none⟩ = some (.int .u32 ((m 0 : Nat) : Int)) := by simp [go_sem]
  have a1 : ((w.alloc (Obj.cells #[.int .u32 ((m 0 : Nat) : Int), .int .u32 ((m 1 : Nat) : Int), .int .u32 ((m 2 : Nat) : Int), .int .u32 ((m 3 : Nat) : Int), .int .u32 ((m 4 : Nat) : Int), .int .u32 ((m 5 : Nat) : Int), .int .u32 ((m 6 : Nat) : Int), .int .u32 ((m 7 : Nat) : Int), .int .u32 ((m 8 : Nat) : Int)] 69)).alloc (Obj.cells #[.int .u32 (r : Int), .int .u32 (s : Int), .int .u32 (t : Int)] 91)).cell? ⟨w.heap.size, 1, none⟩ = some (.int .u32 ((m 1 : Nat) : Int)) := by simp [go_sem]
  have a2 : ((w.alloc (Obj.cells #[.int .u32 ((m 0 : Nat) : Int), .int .u32 ((m 1 : Nat) : Int), .int .u32 ((m 2 : Nat) : Int), .int .u32 ((m 3 : Nat) : Int), .int .u32 ((m 4 : Nat) : Int), .int .u32 ((m 5 : Nat) : Int), .int .u32 ((m 6 : Nat) : Int), .int .u32 ((m 7 : Nat) : Int), .int .u32 ((m 8 : Nat) : Int)] 69)).alloc (Obj.cells #[.int .u32 (r : Int), .int .u32 (s : Int), .int .u32 (t : Int)] 91)).cell? ⟨w.heap.size, 2, none⟩ = some (.int .u32 ((m 2 : Nat) : Int)) := by simp [go_sem]
  have b0 : ((w.alloc (Obj.cells #[.int .u32 ((m 0 : Nat) : Int), .int .u32 ((m 1 : Nat) : Int), .int .u32 ((m 2 : Nat) : Int), .int .u32 ((m 3 : Nat) : Int), .int .u32 ((m 4 : Nat) : Int), .int .u32 ((m 5 : Nat) : Int), .int .u32 ((m 6 : Nat) : Int), .int .u32 ((m 7 : Nat) : Int), .int .u32 ((m 8 : Nat) : Int)] 69)).alloc (Obj.cells #[.int .u32 (r : Int), .int .u32 (s : Int), .int .u32 (t : Int)] 91)).cell? ⟨w.heap.size + 1, 0, none⟩ = some (.int .u32 (r : Int)) := by simp [go_sem]
  have b1 : ((w.alloc (Obj.cells #[.int .u32 ((m 0 : Nat) : Int), .int .u32 ((m 1 : Nat) : Int), .int .u32 ((m 2 : Nat) : Int), .int .u32 ((m 3 : Nat) : Int), .int .u32 ((m 4 : Nat) : Int), .int .u32 ((m 5 : Nat) : Int), .int .u32 ((m 6 : Nat) : Int), .int .u32 ((m 7 : Nat) : Int), .int .u32 ((m 8 : Nat) : Int)] 69)).alloc (Obj.cells #[.int .u32 (r : Int), .int .u32 (s : Int), .int .u32 (t : Int)] 91)).cell? ⟨w.heap.size + 1, 1, none⟩ = some (.int .u32 (s : Int)) := by simp [go_sem]
  have b2 : ((w.alloc (Obj.cells #[.int .u32 ((m 0 : Nat) : Int), .int .u32 ((m 1 : Nat) : Int), .int .u32 ((m 2 : Nat) : Int), .int .u32 ((m 3 : Nat) : Int), .int .u32 ((m 4 : Nat) : Int), .int .u32 ((m 5 : Nat) : Int), .int .u32 ((m 6 : Nat) : Int), .int .u32 ((m 7 : Nat) : Int), .int .u32 ((m 8 : Nat) : Int)] 69)).alloc (Obj.cells #[.int .u32 (r : Int), .int .u32 (s : Int), .int .u32 (t : Int)] 91)).cell? ⟨w.heap.size + 1, 2, none⟩ = some (.int .u32 (t : Int)) := by simp [go_sem]
  generalize ((w.alloc (Obj.cells #[.int .u32 ((m 0 : Nat) : Int), .int .u32 ((m 1 : Nat) : Int), .int .u32 ((m 2 : Nat) : Int), .int .u32 ((m 3 : Nat) : Int), .int .u32 ((m 4 : Nat) : Int), .int .u32 ((m 5 : Nat) : Int), .int .u32 ((m 6 : Nat) : Int), .int .u32 ((m 7 : Nat) : Int), .int .u32 ((m 8 : Nat) : Int)] 69)).alloc (Obj.cells #[.int .u32 (r : Int), .int .u32 (s : Int), .int .u32 (t : Int)] 91)) = wa at *
  have n0 := qw_some wa
  have f0 := qw_cell a0
  have f1 := qw_cell b0
  refine wp_region_mk [0, 1, 2, 3, 4, 5] [[6, 7]] 2 _ (by kernel_rfl) (by kernel_rfl) rfl (by kernel_rfl) ?_
  simp only [List.filterMap_cons, List.filterMap_nil, List.getElem?_cons_zero, List.getElem?_cons_succ]
  repeat (first | go_big_quiet_step (fail) | quiet_step (fail))
  refine wpQuiet_nil ?_
  intro x1 hx1
  refine tree_call 6 rfl rfl (run_fn 64 #[.tmp 11, .tmp 13] _ rfl l1 (vs := #[.int .u32 ((m 0 : Nat) : Int), .int .u32 (r : Int)]) (by simp [Act.eval])) (product8_any (m 0) r (HM.out _) hr x1) ?_
  rintro u w1 ⟨p1, rfl, hp1, q1⟩
  have HP1 : Hid (canW p1 = opT .mul (wideW (m 0)) (wideW r)) := hp1
  have q01 : Q wa w1 := hx1.trans q1
  refine ⟨q01, ?_⟩
  refine tree_runF 7 rfl rfl rfl (v := .float .f64 p1) (x' := w1) (by simp [execOp, go_sem]) ?_
  refine tree_nil ?_
  replace HQ : Hid (Q w w1) := HQ.out.trans q01
  replace a1 := q01.cell a1
  replace a2 := q01.cell a2
  replace b1 := q01.cell b1
  replace b2 := q01.cell b2
  clear n0 f0 f1 hx1 q1 q01 hp1 a0 b0
  go_wp2_with fail
  have n0 := qw_some w1
  have f0 := qw_cell a1
  have f1 := qw_cell b1
  refine wp_region_mk [0, 1, 2, 3, 4, 5, 6, 7] [[8, 9, 10]] 3 _ (by kernel_rfl) (by kernel_rfl) rfl (by kernel_rfl) ?_
  simp only [List.filterMap_cons, List.filterMap_nil, List.getElem?_cons_zero, List.getElem?_cons_succ]
  repeat (first | go_big_quiet_step (fail) | quiet_step (fail))
  refine wpQuiet_nil ?_
  intro x2 hx2
  refine tree_call 8 rfl rfl (run_fn 64 #[.tmp 20, .tmp 22] _ rfl l1 (vs := #[.int .u32 ((m 1 : Nat) : Int), .int .u32 (s : Int)]) (by simp [Act.eval])) (product8_any (m 1) s (HM.out _) hs x2) ?_
  rintro u w2 ⟨p2, rfl, hp2, q2⟩
  have HP2 : Hid (canW p2 = opT .mul (wideW (m 1)) (wideW s)) := hp2
  have q12 : Q w1 w2 := hx2.trans q2
  refine ⟨q12, ?_⟩
  refine tree_runF 9 rfl rfl rfl (run_addf rfl (p := p1) (q := p2) (by simp [Act.eval, Act.put]) (by simp [Act.eval, Act.put])) ?_
  have q23 : Q w1 (resU .add p1 p2 w2) := q12.trans (resU_q _ _ _ _)
  have HP3 : Hid (canW (resW .add p1 p2 w2) = opT .add (opT .mul (wideW (m 0)) (wideW r)) (opT .mul (wideW (m 1)) (wideW s))) := res_can hA1 HP1.out HP2.out
  generalize resW .add p1 p2 w2 = p3 at *
  generalize resU .add p1 p2 w2 = w3 at *
  refine tree_runF 10 rfl rfl rfl (v := .float .f64 p3) (x' := w3) (by simp [execOp, go_sem]) ?_
  refine tree_nil ?_
  replace HQ : Hid (Q w w3) := HQ.out.trans q23
  replace a2 := q23.cell a2
  replace b2 := q23.cell b2
  clear n0 f0 f1 hx2 q2 q12 hp2 a1 b1 q23
  go_wp2_with fail
  have n0 := qw_some w3
  have f0 := qw_cell a2
  have f1 := qw_cell b2
  refine wp_region_mk [0, 1, 2, 3, 4, 5, 6, 7] [[8, 9, 10]] 3 _ (by kernel_rfl) (by kernel_rfl) rfl (by kernel_rfl) ?_
  simp only [List.filterMap_cons, List.filterMap_nil, List.getElem?_cons_zero, List.getElem?_cons_succ]
  repeat (first | go_big_quiet_step (fail) | quiet_step (fail))
  refine wpQuiet_nil ?_
  intro x4 hx4
  refine tree_call 8 rfl rfl (run_fn 64 #[.tmp 30, .tmp 32] _ rfl l1 (vs := #[.int .u32 ((m 2 : Nat) : Int), .int .u32 (t : Int)]) (by simp [Act.eval])) (product8_any (m 2) t (HM.out _) ht x4) ?_
  rintro u w4 ⟨p4, rfl, hp4, q4⟩
  have HP4 : Hid (canW p4 = opT .mul (wideW (m 2)) (wideW t)) := hp4
  have q34 : Q w3 w4 := hx4.trans q4
  refine ⟨q34, ?_⟩
  refine tree_runF 9 rfl rfl rfl (run_addf rfl (p := p3) (q := p4) (by simp [Act.eval, Act.put]) (by simp [Act.eval, Act.put])) ?_
  have q35 : Q w3 (resU .add p3 p4 w4) := q34.trans (resU_q _ _ _ _)
  have HP5 : Hid (canW (resW .add p3 p4 w4) = sum3 (m 0) (m 1) (m 2) r s t) := res_can hA1 HP3.out HP4.out
  generalize resW .add p3 p4 w4 = p5 at *
  generalize resU .add p3 p4 w4 = w5 at *
  refine tree_runF 10 rfl rfl rfl (v := .float .f64 p5) (x' := w5) (by simp [execOp, go_sem]) ?_
  refine tree_nil ?_
  replace HQ : Hid (Q w w5) := HQ.out.trans q35
  clear n0 f0 f1 hx4 q4 q34 hp4 a2 b2 q35
  go_wp2_with fail
  refine (cnarrow_any p5 _).mono ?_
  rintro e w6 ⟨rfl, q6⟩
  have HV : Hid (toldD (some (Ieee.double.read p5)) = rowV (m 0) (m 1) (m 2) r s t) := narW_of HP5.out
  rw [HV.out]
  obtain ⟨z, hz⟩ : ∃ z, rowV (m 0) (m 1) (m 2) r s t = z := ⟨_, rfl⟩
  have HZ : Hid (rowV (m 0) (m 1) (m 2) r s t = z) := hz
  rw [hz]
  clear hz HV
  go_wp2_with fail
  refine bodyPost_ret (v := .int .u32 (z : Int)) (by simp [results, Try.results49, go_sem]) rfl ⟨_, rfl, by rw [HZ.out], HQ.out.trans q6⟩
set_option maxHeartbeats 4000000 in
set_option maxRecDepth 100000 in
theorem row1_any (m : Nat → Nat) (hm : ∀ i, m i < 4294967296) (r s t : Nat) (hr : r < 4294967296) (hs : s < 4294967296) (ht : t < 4294967296) (w : World) : Calls Try.prog 49 #[.agg #[.int .u32 ((m 0 : Nat) : Int), .int .u32 ((m 1 : Nat) : Int), .int .u32 ((m 2 : Nat) : Int), .int .u32 ((m 3 : Nat) : Int), .int .u32 ((m 4 : Nat) : Int), .int .u32 ((m 5 : Nat) : Int), .int .u32 ((m 6 : Nat) : Int), .int .u32 ((m 7 : Nat) : Int), .int .u32 ((m 8 : Nat) : Int)], .int .i64 1, .agg #[.int .u32 (r : Int), .int .u32 (s : Int), .int .u32 (t : Int)]] w fun e w' => ∃ u, e = .returned u ∧ u = .int .u32 ((rowV (m 3) (m 4) (m 5) r s t : Nat) : Int) ∧ Q w w' := by
  have l1 := enters_of Try.func64 (by kernel_rfl) rfl
  have l6 := f64bits
  have z0 : IntKind.i64.wrap 0 = 0 := by decide
  have z1 : IntKind.i64.wrap 1 = 1 := by decide
  have z2 : IntKind.i64.wrap 2 = 2 := by decide
  have z3 : IntKind.i64.wrap 3 = 3 := by decide
  have z4 : IntKind.i64.wrap 4 = 4 := by decide
  have z5 : IntKind.i64.wrap 5 = 5 := by decide
  have z6 : IntKind.i64.wrap 6 = 6 := by decide
  have z7 : IntKind.i64.wrap 7 = 7 := by decide
  have z8 : IntKind.i64.wrap 8 = 8 := by decide
  have HM : Hid (∀ i, m i < 4294967296) := hm
  clear hm
  go_enter Try.func49, Try.ntmps49
  go_wp2_with fail
  have HQ : Hid (Q w ((w.alloc (Obj.cells #[.int .u32 ((m 0 : Nat) : Int), .int .u32 ((m 1 : Nat) : Int), .int .u32 ((m 2 : Nat) : Int), .int .u32 ((m 3 : Nat) : Int), .int .u32 ((m 4 : Nat) : Int), .int .u32 ((m 5 : Nat) : Int), .int .u32 ((m 6 : Nat) : Int), .int .u32 ((m 7 : Nat) : Int), .int .u32 ((m 8 : Nat) : Int)] 69)).alloc (Obj.cells #[.int .u32 (r : Int), .int .u32 (s : Int), .int .u32 (t : Int)] 91))) := ((Q.refl w).cells _ _).cells _ _
  have a0 : ((w.alloc (Obj.cells #[.int .u32 ((m 0 : Nat) : Int), .int .u32 ((m 1 : Nat) : Int), .int .u32 ((m 2 : Nat) : Int), .int .u32 ((m 3 : Nat) : Int), .int .u32 ((m 4 : Nat) : Int), .int .u32 ((m 5 : Nat) : Int), .int .u32 ((m 6 : Nat) : Int), .int .u32 ((m 7 : Nat) : Int), .int .u32 ((m 8 : Nat) : Int)] 69)).alloc (Obj.cells #[.int .u32 (r : Int), .int .u32 (s : Int), .int .u32 (t : Int)] 91)).cell? ⟨w.heap.size, 3, none⟩ = some (.int .u32 ((m 3 : Nat) : Int)) := by simp [go_sem]
  have a1 : ((w.alloc (Obj.cells #[.int .u32 ((m 0 : Nat) : Int), .int .u32 ((m 1 : Nat) : Int), .int .u32 ((m 2 : Nat) : Int), .int .u32 ((m 3 : Nat) : Int), .int .u32 ((m 4 : Nat) : Int), .int .u32 ((m 5 : Nat) : Int), .int .u32 ((m 6 : Nat) : Int), .int .u32 ((m 7 : Nat) : Int), .int .u32 ((m 8 : Nat) : Int)] 69)).alloc (Obj.cells #[.int .u32 (r : Int), .int .u32 (s : Int), .int .u32 (t : Int)] 91)).cell? ⟨w.heap.size, 4, none⟩ = some (.int .u32 ((m 4 : Nat) : Int)) := by simp [go_sem]
  have a2 : ((w.alloc (Obj.cells #[.int .u32 ((m 0 : Nat) : Int), .int .u32 ((m 1 : Nat) : Int), .int .u32 ((m 2 : Nat) : Int), .int .u32 ((m 3 : Nat) : Int), .int .u32 ((m 4 : Nat) : Int), .int .u32 ((m 5 : Nat) : Int), .int .u32 ((m 6 : Nat) : Int), .int .u32 ((m 7 : Nat) : Int), .int .u32 ((m 8 : Nat) : Int)] 69)).alloc (Obj.cells #[.int .u32 (r : Int), .int .u32 (s : Int), .int .u32 (t : Int)] 91)).cell? ⟨w.heap.size, 5, none⟩ = some (.int .u32 ((m 5 : Nat) : Int)) := by simp [go_sem]
  have b0 : ((w.alloc (Obj.cells #[.int .u32 ((m 0 : Nat) : Int), .int .u32 ((m 1 : Nat) : Int), .int .u32 ((m 2 : Nat) : Int), .int .u32 ((m 3 : Nat) : Int), .int .u32 ((m 4 : Nat) : Int), .int .u32 ((m 5 : Nat) : Int), .int .u32 ((m 6 : Nat) : Int), .int .u32 ((m 7 : Nat) : Int), .int .u32 ((m 8 : Nat) : Int)] 69)).alloc (Obj.cells #[.int .u32 (r : Int), .int .u32 (s : Int), .int .u32 (t : Int)] 91)).cell? ⟨w.heap.size + 1, 0, none⟩ = some (.int .u32 (r : Int)) := by simp [go_sem]
  have b1 : ((w.alloc (Obj.cells #[.int .u32 ((m 0 : Nat) : Int), .int .u32 ((m 1 : Nat) : Int), .int .u32 ((m 2 : Nat) : Int), .int .u32 ((m 3 : Nat) : Int), .int .u32 ((m 4 : Nat) : Int), .int .u32 ((m 5 : Nat) : Int), .int .u32 ((m 6 : Nat) : Int), .int .u32 ((m 7 : Nat) : Int), .int .u32 ((m 8 : Nat) : Int)] 69)).alloc (Obj.cells #[.int .u32 (r : Int), .int .u32 (s : Int), .int .u32 (t : Int)] 91)).cell? ⟨w.heap.size + 1, 1, none⟩ = some (.int .u32 (s : Int)) := by simp [go_sem]
  have b2 : ((w.alloc (Obj.cells #[.int .u32 ((m 0 : Nat) : Int), .int .u32 ((m 1 : Nat) : Int), .int .u32 ((m 2 : Nat) : Int), .int .u32 ((m 3 : Nat) : Int), .int .u32 ((m 4 : Nat) : Int), .int .u32 ((m 5 : Nat) : Int), .int .u32 ((m 6 : Nat) : Int), .int .u32 ((m 7 : Nat) : Int), .int .u32 ((m 8 : Nat) : Int)] 69)).alloc (Obj.cells #[.int .u32 (r : Int), .int .u32 (s : Int), .int .u32 (t : Int)] 91)).cell? ⟨w.heap.size + 1, 2, none⟩ = some (.int .u32 (t : Int)) := by simp [go_sem]
  generalize ((w.alloc (Obj.cells #[.int .u32 ((m 0 : Nat) : Int), .int .u32 ((m 1 : Nat) : Int), .int .u32 ((m 2 : Nat) : Int), .int .u32 ((m 3 : Nat) : Int), .int .u32 ((m 4 : Nat) : Int), .int .u32 ((m 5 : Nat) : Int), .int .u32 ((m 6 : Nat) : Int), .int .u32 ((m 7 : Nat) : Int), .int .u32 ((m 8 : Nat) : Int)] 69)).alloc (Obj.cells #[.int .u32 (r : Int), .int .u32 (s : Int), .int .u32 (t : Int)] 91)) = wa at *
  have n0 := qw_some wa
  have f0 := qw_cell a0
  have f1 := qw_cell b0
  refine wp_region_mk [0, 1, 2, 3, 4, 5] [[6, 7]] 2 _ (by kernel_rfl) (by kernel_rfl) rfl (by kernel_rfl) ?_
  simp only [List.filterMap_cons, List.filterMap_nil, List.getElem?_cons_zero, List.getElem?_cons_succ]
  repeat (first | go_big_quiet_step (fail) | quiet_step (fail))
  refine wpQuiet_nil ?_
  intro x1 hx1
  refine tree_call 6 rfl rfl (run_fn 64 #[.tmp 11, .tmp 13] _ rfl l1 (vs := #[.int .u32 ((m 3 : Nat) : Int), .int .u32 (r : Int)]) (by simp [Act.eval])) (product8_any (m 3) r (HM.out _) hr x1) ?_
  rintro u w1 ⟨p1, rfl, hp1, q1⟩
  have HP1 : Hid (canW p1 = opT .mul (wideW (m 3)) (wideW r)) := hp1
  have q01 : Q wa w1 := hx1.trans q1
  refine ⟨q01, ?_⟩
  refine tree_runF 7 rfl rfl rfl (v := .float .f64 p1) (x' := w1) (by simp [execOp, go_sem]) ?_
  refine tree_nil ?_
  replace HQ : Hid (Q w w1) := HQ.out.trans q01
  replace a1 := q01.cell a1
  replace a2 := q01.cell a2
  replace b1 := q01.cell b1
  replace b2 := q01.cell b2
  clear n0 f0 f1 hx1 q1 q01 hp1 a0 b0
  go_wp2_with fail
  have n0 := qw_some w1
  have f0 := qw_cell a1
  have f1 := qw_cell b1
  refine wp_region_mk [0, 1, 2, 3, 4, 5, 6, 7] [[8, 9, 10]] 3 _ (by kernel_rfl) (by kernel_rfl) rfl (by kernel_rfl) ?_
  simp only [List.filterMap_cons, List.filterMap_nil, List.getElem?_cons_zero, List.getElem?_cons_succ]
  repeat (first | go_big_quiet_step (fail) | quiet_step (fail))
  refine wpQuiet_nil ?_
  intro x2 hx2
  refine tree_call 8 rfl rfl (run_fn 64 #[.tmp 20, .tmp 22] _ rfl l1 (vs := #[.int .u32 ((m 4 : Nat) : Int), .int .u32 (s : Int)]) (by simp [Act.eval])) (product8_any (m 4) s (HM.out _) hs x2) ?_
  rintro u w2 ⟨p2, rfl, hp2, q2⟩
  have HP2 : Hid (canW p2 = opT .mul (wideW (m 4)) (wideW s)) := hp2
  have q12 : Q w1 w2 := hx2.trans q2
  refine ⟨q12, ?_⟩
  refine tree_runF 9 rfl rfl rfl (run_addf rfl (p := p1) (q := p2) (by simp [Act.eval, Act.put]) (by simp [Act.eval, Act.put])) ?_
  have q23 : Q w1 (resU .add p1 p2 w2) := q12.trans (resU_q _ _ _ _)
  have HP3 : Hid (canW (resW .add p1 p2 w2) = opT .add (opT .mul (wideW (m 3)) (wideW r)) (opT .mul (wideW (m 4)) (wideW s))) := res_can hA1 HP1.out HP2.out
  generalize resW .add p1 p2 w2 = p3 at *
  generalize resU .add p1 p2 w2 = w3 at *
  refine tree_runF 10 rfl rfl rfl (v := .float .f64 p3) (x' := w3) (by simp [execOp, go_sem]) ?_
  refine tree_nil ?_
  replace HQ : Hid (Q w w3) := HQ.out.trans q23
  replace a2 := q23.cell a2
  replace b2 := q23.cell b2
  clear n0 f0 f1 hx2 q2 q12 hp2 a1 b1 q23
  go_wp2_with fail
  have n0 := qw_some w3
  have f0 := qw_cell a2
  have f1 := qw_cell b2
  refine wp_region_mk [0, 1, 2, 3, 4, 5, 6, 7] [[8, 9, 10]] 3 _ (by kernel_rfl) (by kernel_rfl) rfl (by kernel_rfl) ?_
  simp only [List.filterMap_cons, List.filterMap_nil, List.getElem?_cons_zero, List.getElem?_cons_succ]
  repeat (first | go_big_quiet_step (fail) | quiet_step (fail))
  refine wpQuiet_nil ?_
  intro x4 hx4
  refine tree_call 8 rfl rfl (run_fn 64 #[.tmp 30, .tmp 32] _ rfl l1 (vs := #[.int .u32 ((m 5 : Nat) : Int), .int .u32 (t : Int)]) (by simp [Act.eval])) (product8_any (m 5) t (HM.out _) ht x4) ?_
  rintro u w4 ⟨p4, rfl, hp4, q4⟩
  have HP4 : Hid (canW p4 = opT .mul (wideW (m 5)) (wideW t)) := hp4
  have q34 : Q w3 w4 := hx4.trans q4
  refine ⟨q34, ?_⟩
  refine tree_runF 9 rfl rfl rfl (run_addf rfl (p := p3) (q := p4) (by simp [Act.eval, Act.put]) (by simp [Act.eval, Act.put])) ?_
  have q35 : Q w3 (resU .add p3 p4 w4) := q34.trans (resU_q _ _ _ _)
  have HP5 : Hid (canW (resW .add p3 p4 w4) = sum3 (m 3) (m 4) (m 5) r s t) := res_can hA1 HP3.out HP4.out
  generalize resW .add p3 p4 w4 = p5 at *
  generalize resU .add p3 p4 w4 = w5 at *
  refine tree_runF 10 rfl rfl rfl (v := .float .f64 p5) (x' := w5) (by simp [execOp, go_sem]) ?_
  refine tree_nil ?_
  replace HQ : Hid (Q w w5) := HQ.out.trans q35
  clear n0 f0 f1 hx4 q4 q34 hp4 a2 b2 q35
  go_wp2_with fail
  refine (cnarrow_any p5 _).mono ?_
  rintro e w6 ⟨rfl, q6⟩
  have HV : Hid (toldD (some (Ieee.double.read p5)) = rowV (m 3) (m 4) (m 5) r s t) := narW_of HP5.out
  rw [HV.out]
  obtain ⟨z, hz⟩ : ∃ z, rowV (m 3) (m 4) (m 5) r s t = z := ⟨_, rfl⟩
  have HZ : Hid (rowV (m 3) (m 4) (m 5) r s t = z) := hz
  rw [hz]
  clear hz HV
  go_wp2_with fail
  refine bodyPost_ret (v := .int .u32 (z : Int)) (by simp [results, Try.results49, go_sem]) rfl ⟨_, rfl, by rw [HZ.out], HQ.out.trans q6⟩
set_option maxHeartbeats 4000000 in
set_option maxRecDepth 100000 in
theorem row2_any (m : Nat → Nat) (hm : ∀ i, m i < 4294967296) (r s t : Nat) (hr : r < 4294967296) (hs : s < 4294967296) (ht : t < 4294967296) (w : World) : Calls Try.prog 49 #[.agg #[.int .u32 ((m 0 : Nat) : Int), .int .u32 ((m 1 : Nat) : Int), .int .u32 ((m 2 : Nat) : Int), .int .u32 ((m 3 : Nat) : Int), .int .u32 ((m 4 : Nat) : Int), .int .u32 ((m 5 : Nat) : Int), .int .u32 ((m 6 : Nat) : Int), .int .u32 ((m 7 : Nat) : Int), .int .u32 ((m 8 : Nat) : Int)], .int .i64 2, .agg #[.int .u32 (r : Int), .int .u32 (s : Int), .int .u32 (t : Int)]] w fun e w' => ∃ u, e = .returned u ∧ u = .int .u32 ((rowV (m 6) (m 7) (m 8) r s t : Nat) : Int) ∧ Q w w' := by
  have l1 := enters_of Try.func64 (by kernel_rfl) rfl
  have l6 := f64bits
  have z0 : IntKind.i64.wrap 0 = 0 := by decide
  have z1 : IntKind.i64.wrap 1 = 1 := by decide
  have z2 : IntKind.i64.wrap 2 = 2 := by decide
  have z3 : IntKind.i64.wrap 3 = 3 := by decide
  have z4 : IntKind.i64.wrap 4 = 4 := by decide
  have z5 : IntKind.i64.wrap 5 = 5 := by decide
  have z6 : IntKind.i64.wrap 6 = 6 := by decide
  have z7 : IntKind.i64.wrap 7 = 7 := by decide
  have z8 : IntKind.i64.wrap 8 = 8 := by decide
  have HM : Hid (∀ i, m i < 4294967296) := hm
  clear hm
  go_enter Try.func49, Try.ntmps49
  go_wp2_with fail
  have HQ : Hid (Q w ((w.alloc (Obj.cells #[.int .u32 ((m 0 : Nat) : Int), .int .u32 ((m 1 : Nat) : Int), .int .u32 ((m 2 : Nat) : Int), .int .u32 ((m 3 : Nat) : Int), .int .u32 ((m 4 : Nat) : Int), .int .u32 ((m 5 : Nat) : Int), .int .u32 ((m 6 : Nat) : Int), .int .u32 ((m 7 : Nat) : Int), .int .u32 ((m 8 : Nat) : Int)] 69)).alloc (Obj.cells #[.int .u32 (r : Int), .int .u32 (s : Int), .int .u32 (t : Int)] 91))) := ((Q.refl w).cells _ _).cells _ _
  have a0 : ((w.alloc (Obj.cells #[.int .u32 ((m 0 : Nat) : Int), .int .u32 ((m 1 : Nat) : Int), .int .u32 ((m 2 : Nat) : Int), .int .u32 ((m 3 : Nat) : Int), .int .u32 ((m 4 : Nat) : Int), .int .u32 ((m 5 : Nat) : Int), .int .u32 ((m 6 : Nat) : Int), .int .u32 ((m 7 : Nat) : Int), .int .u32 ((m 8 : Nat) : Int)] 69)).alloc (Obj.cells #[.int .u32 (r : Int), .int .u32 (s : Int), .int .u32 (t : Int)] 91)).cell? ⟨w.heap.size, 6, none⟩ = some (.int .u32 ((m 6 : Nat) : Int)) := by simp [go_sem]
  have a1 : ((w.alloc (Obj.cells #[.int .u32 ((m 0 : Nat) : Int), .int .u32 ((m 1 : Nat) : Int), .int .u32 ((m 2 : Nat) : Int), .int .u32 ((m 3 : Nat) : Int), .int .u32 ((m 4 : Nat) : Int), .int .u32 ((m 5 : Nat) : Int), .int .u32 ((m 6 : Nat) : Int), .int .u32 ((m 7 : Nat) : Int), .int .u32 ((m 8 : Nat) : Int)] 69)).alloc (Obj.cells #[.int .u32 (r : Int), .int .u32 (s : Int), .int .u32 (t : Int)] 91)).cell? ⟨w.heap.size, 7, none⟩ = some (.int .u32 ((m 7 : Nat) : Int)) := by simp [go_sem]
  have a2 : ((w.alloc (Obj.cells #[.int .u32 ((m 0 : Nat) : Int), .int .u32 ((m 1 : Nat) : Int), .int .u32 ((m 2 : Nat) : Int), .int .u32 ((m 3 : Nat) : Int), .int .u32 ((m 4 : Nat) : Int), .int .u32 ((m 5 : Nat) : Int), .int .u32 ((m 6 : Nat) : Int), .int .u32 ((m 7 : Nat) : Int), .int .u32 ((m 8 : Nat) : Int)] 69)).alloc (Obj.cells #[.int .u32 (r : Int), .int .u32 (s : Int), .int .u32 (t : Int)] 91)).cell? ⟨w.heap.size, 8, none⟩ = some (.int .u32 ((m 8 : Nat) : Int)) := by simp [go_sem]
  have b0 : ((w.alloc (Obj.cells #[.int .u32 ((m 0 : Nat) : Int), .int .u32 ((m 1 : Nat) : Int), .int .u32 ((m 2 : Nat) : Int), .int .u32 ((m 3 : Nat) : Int), .int .u32 ((m 4 : Nat) : Int), .int .u32 ((m 5 : Nat) : Int), .int .u32 ((m 6 : Nat) : Int), .int .u32 ((m 7 : Nat) : Int), .int .u32 ((m 8 : Nat) : Int)] 69)).alloc (Obj.cells #[.int .u32 (r : Int), .int .u32 (s : Int), .int .u32 (t : Int)] 91)).cell? ⟨w.heap.size + 1, 0, none⟩ = some (.int .u32 (r : Int)) := by simp [go_sem]
  have b1 : ((w.alloc (Obj.cells #[.int .u32 ((m 0 : Nat) : Int), .int .u32 ((m 1 : Nat) : Int), .int .u32 ((m 2 : Nat) : Int), .int .u32 ((m 3 : Nat) : Int), .int .u32 ((m 4 : Nat) : Int), .int .u32 ((m 5 : Nat) : Int), .int .u32 ((m 6 : Nat) : Int), .int .u32 ((m 7 : Nat) : Int), .int .u32 ((m 8 : Nat) : Int)] 69)).alloc (Obj.cells #[.int .u32 (r : Int), .int .u32 (s : Int), .int .u32 (t : Int)] 91)).cell? ⟨w.heap.size + 1, 1, none⟩ = some (.int .u32 (s : Int)) := by simp [go_sem]
  have b2 : ((w.alloc (Obj.cells #[.int .u32 ((m 0 : Nat) : Int), .int .u32 ((m 1 : Nat) : Int), .int .u32 ((m 2 : Nat) : Int), .int .u32 ((m 3 : Nat) : Int), .int .u32 ((m 4 : Nat) : Int), .int .u32 ((m 5 : Nat) : Int), .int .u32 ((m 6 : Nat) : Int), .int .u32 ((m 7 : Nat) : Int), .int .u32 ((m 8 : Nat) : Int)] 69)).alloc (Obj.cells #[.int .u32 (r : Int), .int .u32 (s : Int), .int .u32 (t : Int)] 91)).cell? ⟨w.heap.size + 1, 2, none⟩ = some (.int .u32 (t : Int)) := by simp [go_sem]
  generalize ((w.alloc (Obj.cells #[.int .u32 ((m 0 : Nat) : Int), .int .u32 ((m 1 : Nat) : Int), .int .u32 ((m 2 : Nat) : Int), .int .u32 ((m 3 : Nat) : Int), .int .u32 ((m 4 : Nat) : Int), .int .u32 ((m 5 : Nat) : Int), .int .u32 ((m 6 : Nat) : Int), .int .u32 ((m 7 : Nat) : Int), .int .u32 ((m 8 : Nat) : Int)] 69)).alloc (Obj.cells #[.int .u32 (r : Int), .int .u32 (s : Int), .int .u32 (t : Int)] 91)) = wa at *
  have n0 := qw_some wa
  have f0 := qw_cell a0
  have f1 := qw_cell b0
  refine wp_region_mk [0, 1, 2, 3, 4, 5] [[6, 7]] 2 _ (by kernel_rfl) (by kernel_rfl) rfl (by kernel_rfl) ?_
  simp only [List.filterMap_cons, List.filterMap_nil, List.getElem?_cons_zero, List.getElem?_cons_succ]
  repeat (first | go_big_quiet_step (fail) | quiet_step (fail))
  refine wpQuiet_nil ?_
  intro x1 hx1
  refine tree_call 6 rfl rfl (run_fn 64 #[.tmp 11, .tmp 13] _ rfl l1 (vs := #[.int .u32 ((m 6 : Nat) : Int), .int .u32 (r : Int)]) (by simp [Act.eval])) (product8_any (m 6) r (HM.out _) hr x1) ?_
  rintro u w1 ⟨p1, rfl, hp1, q1⟩
  have HP1 : Hid (canW p1 = opT .mul (wideW (m 6)) (wideW r)) := hp1
  have q01 : Q wa w1 := hx1.trans q1
  refine ⟨q01, ?_⟩
  refine tree_runF 7 rfl rfl rfl (v := .float .f64 p1) (x' := w1) (by simp [execOp, go_sem]) ?_
  refine tree_nil ?_
  replace HQ : Hid (Q w w1) := HQ.out.trans q01
  replace a1 := q01.cell a1
  replace a2 := q01.cell a2
  replace b1 := q01.cell b1
  replace b2 := q01.cell b2
  clear n0 f0 f1 hx1 q1 q01 hp1 a0 b0
  go_wp2_with fail
  have n0 := qw_some w1
  have f0 := qw_cell a1
  have f1 := qw_cell b1
  refine wp_region_mk [0, 1, 2, 3, 4, 5, 6, 7] [[8, 9, 10]] 3 _ (by kernel_rfl) (by kernel_rfl) rfl (by kernel_rfl) ?_
  simp only [List.filterMap_cons, List.filterMap_nil, List.getElem?_cons_zero, List.getElem?_cons_succ]
  repeat (first | go_big_quiet_step (fail) | quiet_step (fail))
  refine wpQuiet_nil ?_
  intro x2 hx2
  refine tree_call 8 rfl rfl (run_fn 64 #[.tmp 20, .tmp 22] _ rfl l1 (vs := #[.int .u32 ((m 7 : Nat) : Int), .int .u32 (s : Int)]) (by simp [Act.eval])) (product8_any (m 7) s (HM.out _) hs x2) ?_
  rintro u w2 ⟨p2, rfl, hp2, q2⟩
  have HP2 : Hid (canW p2 = opT .mul (wideW (m 7)) (wideW s)) := hp2
  have q12 : Q w1 w2 := hx2.trans q2
  refine ⟨q12, ?_⟩
  refine tree_runF 9 rfl rfl rfl (run_addf rfl (p := p1) (q := p2) (by simp [Act.eval, Act.put]) (by simp [Act.eval, Act.put])) ?_
  have q23 : Q w1 (resU .add p1 p2 w2) := q12.trans (resU_q _ _ _ _)
  have HP3 : Hid (canW (resW .add p1 p2 w2) = opT .add (opT .mul (wideW (m 6)) (wideW r)) (opT .mul (wideW (m 7)) (wideW s))) := res_can hA1 HP1.out HP2.out
  generalize resW .add p1 p2 w2 = p3 at *
  generalize resU .add p1 p2 w2 = w3 at *
  refine tree_runF 10 rfl rfl rfl (v := .float .f64 p3) (x' := w3) (by simp [execOp, go_sem]) ?_
  refine tree_nil ?_
  replace HQ : Hid (Q w w3) := HQ.out.trans q23
  replace a2 := q23.cell a2
  replace b2 := q23.cell b2
  clear n0 f0 f1 hx2 q2 q12 hp2 a1 b1 q23
  go_wp2_with fail
  have n0 := qw_some w3
  have f0 := qw_cell a2
  have f1 := qw_cell b2
  refine wp_region_mk [0, 1, 2, 3, 4, 5, 6, 7] [[8, 9, 10]] 3 _ (by kernel_rfl) (by kernel_rfl) rfl (by kernel_rfl) ?_
  simp only [List.filterMap_cons, List.filterMap_nil, List.getElem?_cons_zero, List.getElem?_cons_succ]
  repeat (first | go_big_quiet_step (fail) | quiet_step (fail))
  refine wpQuiet_nil ?_
  intro x4 hx4
  refine tree_call 8 rfl rfl (run_fn 64 #[.tmp 30, .tmp 32] _ rfl l1 (vs := #[.int .u32 ((m 8 : Nat) : Int), .int .u32 (t : Int)]) (by simp [Act.eval])) (product8_any (m 8) t (HM.out _) ht x4) ?_
  rintro u w4 ⟨p4, rfl, hp4, q4⟩
  have HP4 : Hid (canW p4 = opT .mul (wideW (m 8)) (wideW t)) := hp4
  have q34 : Q w3 w4 := hx4.trans q4
  refine ⟨q34, ?_⟩
  refine tree_runF 9 rfl rfl rfl (run_addf rfl (p := p3) (q := p4) (by simp [Act.eval, Act.put]) (by simp [Act.eval, Act.put])) ?_
  have q35 : Q w3 (resU .add p3 p4 w4) := q34.trans (resU_q _ _ _ _)
  have HP5 : Hid (canW (resW .add p3 p4 w4) = sum3 (m 6) (m 7) (m 8) r s t) := res_can hA1 HP3.out HP4.out
  generalize resW .add p3 p4 w4 = p5 at *
  generalize resU .add p3 p4 w4 = w5 at *
  refine tree_runF 10 rfl rfl rfl (v := .float .f64 p5) (x' := w5) (by simp [execOp, go_sem]) ?_
  refine tree_nil ?_
  replace HQ : Hid (Q w w5) := HQ.out.trans q35
  clear n0 f0 f1 hx4 q4 q34 hp4 a2 b2 q35
  go_wp2_with fail
  refine (cnarrow_any p5 _).mono ?_
  rintro e w6 ⟨rfl, q6⟩
  have HV : Hid (toldD (some (Ieee.double.read p5)) = rowV (m 6) (m 7) (m 8) r s t) := narW_of HP5.out
  rw [HV.out]
  obtain ⟨z, hz⟩ : ∃ z, rowV (m 6) (m 7) (m 8) r s t = z := ⟨_, rfl⟩
  have HZ : Hid (rowV (m 6) (m 7) (m 8) r s t = z) := hz
  rw [hz]
  clear hz HV
  go_wp2_with fail
  refine bodyPost_ret (v := .int .u32 (z : Int)) (by simp [results, Try.results49, go_sem]) rfl ⟨_, rfl, by rw [HZ.out], HQ.out.trans q6⟩
def mixM (m : Nat → Nat) (k r s t : Nat) : Nat := rowV (m (3 * k)) (m (3 * k + 1)) (m (3 * k + 2)) r s t
set_option maxHeartbeats 4000000 in
set_option maxRecDepth 100000 in
theorem matrix_fun (m : Nat → Nat) (hm : ∀ i, m i < 4294967296) : Fun3 30 (.agg #[.int .u32 ((m 0 : Nat) : Int), .int .u32 ((m 1 : Nat) : Int), .int .u32 ((m 2 : Nat) : Int), .int .u32 ((m 3 : Nat) : Int), .int .u32 ((m 4 : Nat) : Int), .int .u32 ((m 5 : Nat) : Int), .int .u32 ((m 6 : Nat) : Int), .int .u32 ((m 7 : Nat) : Int), .int .u32 ((m 8 : Nat) : Int)]) (mixM m 0) (mixM m 1) (mixM m 2) where
  en := enters_of Try.func30 (by kernel_rfl) rfl
  lt := fun r s t _ _ _ => ⟨toldD_lt _, toldD_lt _, toldD_lt _⟩
  c := fun r s t hr hs ht w => by
    have l1 := enters_of Try.func49 (by kernel_rfl) rfl
    have H0 : Hid (∀ w : World, Calls Try.prog 49 #[.agg #[.int .u32 ((m 0 : Nat) : Int), .int .u32 ((m 1 : Nat) : Int), .int .u32 ((m 2 : Nat) : Int), .int .u32 ((m 3 : Nat) : Int), .int .u32 ((m 4 : Nat) : Int), .int .u32 ((m 5 : Nat) : Int), .int .u32 ((m 6 : Nat) : Int), .int .u32 ((m 7 : Nat) : Int), .int .u32 ((m 8 : Nat) : Int)], .int .i64 0, .agg #[.int .u32 (r : Int), .int .u32 (s : Int), .int .u32 (t : Int)]] w fun e w' => ∃ u, e = .returned u ∧ u = .int .u32 ((mixM m 0 r s t : Nat) : Int) ∧ Q w w') := row0_any m hm r s t hr hs ht
    have H1 : Hid (∀ w : World, Calls Try.prog 49 #[.agg #[.int .u32 ((m 0 : Nat) : Int), .int .u32 ((m 1 : Nat) : Int), .int .u32 ((m 2 : Nat) : Int), .int .u32 ((m 3 : Nat) : Int), .int .u32 ((m 4 : Nat) : Int), .int .u32 ((m 5 : Nat) : Int), .int .u32 ((m 6 : Nat) : Int), .int .u32 ((m 7 : Nat) : Int), .int .u32 ((m 8 : Nat) : Int)], .int .i64 1, .agg #[.int .u32 (r : Int), .int .u32 (s : Int), .int .u32 (t : Int)]] w fun e w' => ∃ u, e = .returned u ∧ u = .int .u32 ((mixM m 1 r s t : Nat) : Int) ∧ Q w w') := row1_any m hm r s t hr hs ht
    have H2 : Hid (∀ w : World, Calls Try.prog 49 #[.agg #[.int .u32 ((m 0 : Nat) : Int), .int .u32 ((m 1 : Nat) : Int), .int .u32 ((m 2 : Nat) : Int), .int .u32 ((m 3 : Nat) : Int), .int .u32 ((m 4 : Nat) : Int), .int .u32 ((m 5 : Nat) : Int), .int .u32 ((m 6 : Nat) : Int), .int .u32 ((m 7 : Nat) : Int), .int .u32 ((m 8 : Nat) : Int)], .int .i64 2, .agg #[.int .u32 (r : Int), .int .u32 (s : Int), .int .u32 (t : Int)]] w fun e w' => ∃ u, e = .returned u ∧ u = .int .u32 ((mixM m 2 r s t : Nat) : Int) ∧ Q w w') := row2_any m hm r s t hr hs ht
    generalize mixM m 0 r s t = U at *
    generalize mixM m 1 r s t = V at *
    generalize mixM m 2 r s t = Z at *
    clear hm
    go_enter Try.func30, Try.ntmps30
    go_wp2_with fail
    have HQ : Hid (Q w (((w.alloc (Obj.cells #[.int .u32 ((m 0 : Nat) : Int), .int .u32 ((m 1 : Nat) : Int), .int .u32 ((m 2 : Nat) : Int), .int .u32 ((m 3 : Nat) : Int), .int .u32 ((m 4 : Nat) : Int), .int .u32 ((m 5 : Nat) : Int), .int .u32 ((m 6 : Nat) : Int), .int .u32 ((m 7 : Nat) : Int), .int .u32 ((m 8 : Nat) : Int)] 69)).alloc (Obj.cells #[.int .u32 (r : Int), .int .u32 (s : Int), .int .u32 (t : Int)] 91)).alloc (Obj.cells #[Value.int IntKind.u32 0, Value.int IntKind.u32 0, Value.int IntKind.u32 0] 91))) := (((Q.refl w).cells _ _).cells _ _).cells _ _
    have a0 : (((w.alloc (Obj.cells #[.int .u32 ((m 0 : Nat) : Int), .int .u32 ((m 1 : Nat) : Int), .int .u32 ((m 2 : Nat) : Int), .int .u32 ((m 3 : Nat) : Int), .int .u32 ((m 4 : Nat) : Int), .int .u32 ((m 5 : Nat) : Int), .int .u32 ((m 6 : Nat) : Int), .int .u32 ((m 7 : Nat) : Int), .int .u32 ((m 8 : Nat) : Int)] 69)).alloc (Obj.cells #[.int .u32 (r : Int), .int .u32 (s : Int), .int .u32 (t : Int)] 91)).alloc (Obj.cells #[Value.int IntKind.u32 0, Value.int IntKind.u32 0, Value.int IntKind.u32 0] 91)).cell? ⟨w.heap.size, 0, none⟩ = some (.int .u32 ((m 0 : Nat) : Int)) := by simp [go_sem]
    have a1 : (((w.alloc (Obj.cells #[.int .u32 ((m 0 : Nat) : Int), .int .u32 ((m 1 : Nat) : Int), .int .u32 ((m 2 : Nat) : Int), .int .u32 ((m 3 : Nat) : Int), .int .u32 ((m 4 : Nat) : Int), .int .u32 ((m 5 : Nat) : Int), .int .u32 ((m 6 : Nat) : Int), .int .u32 ((m 7 : Nat) : Int), .int .u32 ((m 8 : Nat) : Int)] 69)).alloc (Obj.cells #[.int .u32 (r : Int), .int .u32 (s : Int), .int .u32 (t : Int)] 91)).alloc (Obj.cells #[Value.int IntKind.u32 0, Value.int IntKind.u32 0, Value.int IntKind.u32 0] 91)).cell? ⟨w.heap.size, 1, none⟩ = some (.int .u32 ((m 1 : Nat) : Int)) := by simp [go_sem]
    have a2 : (((w.alloc (Obj.cells #[.int .u32 ((m 0 : Nat) : Int), .int .u32 ((m 1 : Nat) : Int), .int .u32 ((m 2 : Nat) : Int), .int .u32 ((m 3 : Nat) : Int), .int .u32 ((m 4 : Nat) : Int), .int .u32 ((m 5 : Nat) : Int), .int .u32 ((m 6 : Nat) : Int), .int .u32 ((m 7 : Nat) : Int), .int .u32 ((m 8 : Nat) : Int)] 69)).alloc (Obj.cells #[.int .u32 (r : Int), .int .u32 (s : Int), .int .u32 (t : Int)] 91)).alloc (Obj.cells #[Value.int IntKind.u32 0, Value.int IntKind.u32 0, Value.int IntKind.u32 0] 91)).cell? ⟨w.heap.size, 2, none⟩ = some (.int .u32 ((m 2 : Nat) : Int)) := by simp [go_sem]
    have a3 : (((w.alloc (Obj.cells #[.int .u32 ((m 0 : Nat) : Int), .int .u32 ((m 1 : Nat) : Int), .int .u32 ((m 2 : Nat) : Int), .int .u32 ((m 3 : Nat) : Int), .int .u32 ((m 4 : Nat) : Int), .int .u32 ((m 5 : Nat) : Int), .int .u32 ((m 6 : Nat) : Int), .int .u32 ((m 7 : Nat) : Int), .int .u32 ((m 8 : Nat) : Int)] 69)).alloc (Obj.cells #[.int .u32 (r : Int), .int .u32 (s : Int), .int .u32 (t : Int)] 91)).alloc (Obj.cells #[Value.int IntKind.u32 0, Value.int IntKind.u32 0, Value.int IntKind.u32 0] 91)).cell? ⟨w.heap.size, 3, none⟩ = some (.int .u32 ((m 3 : Nat) : Int)) := by simp [go_sem]
    have a4 : (((w.alloc (Obj.cells #[.int .u32 ((m 0 : Nat) : Int), .int .u32 ((m 1 : Nat) : Int), .int .u32 ((m 2 : Nat) : Int), .int .u32 ((m 3 : Nat) : Int), .int .u32 ((m 4 : Nat) : Int), .int .u32 ((m 5 : Nat) : Int), .int .u32 ((m 6 : Nat) : Int), .int .u32 ((m 7 : Nat) : Int), .int .u32 ((m 8 : Nat) : Int)] 69)).alloc (Obj.cells #[.int .u32 (r : Int), .int .u32 (s : Int), .int .u32 (t : Int)] 91)).alloc (Obj.cells #[Value.int IntKind.u32 0, Value.int IntKind.u32 0, Value.int IntKind.u32 0] 91)).cell? ⟨w.heap.size, 4, none⟩ = some (.int .u32 ((m 4 : Nat) : Int)) := by simp [go_sem]
    have a5 : (((w.alloc (Obj.cells #[.int .u32 ((m 0 : Nat) : Int), .int .u32 ((m 1 : Nat) : Int), .int .u32 ((m 2 : Nat) : Int), .int .u32 ((m 3 : Nat) : Int), .int .u32 ((m 4 : Nat) : Int), .int .u32 ((m 5 : Nat) : Int), .int .u32 ((m 6 : Nat) : Int), .int .u32 ((m 7 : Nat) : Int), .int .u32 ((m 8 : Nat) : Int)] 69)).alloc (Obj.cells #[.int .u32 (r : Int), .int .u32 (s : Int), .int .u32 (t : Int)] 91)).alloc (Obj.cells #[Value.int IntKind.u32 0, Value.int IntKind.u32 0, Value.int IntKind.u32 0] 91)).cell? ⟨w.heap.size, 5, none⟩ = some (.int .u32 ((m 5 : Nat) : Int)) := by simp [go_sem]
    have a6 : (((w.alloc (Obj.cells #[.int .u32 ((m 0 : Nat) : Int), .int .u32 ((m 1 : Nat) : Int), .int .u32 ((m 2 : Nat) : Int), .int .u32 ((m 3 : Nat) : Int), .int .u32 ((m 4 : Nat) : Int), .int .u32 ((m 5 : Nat) : Int), .int .u32 ((m 6 : Nat) : Int), .int .u32 ((m 7 : Nat) : Int), .int .u32 ((m 8 : Nat) : Int)] 69)).alloc (Obj.cells #[.int .u32 (r : Int), .int .u32 (s : Int), .int .u32 (t : Int)] 91)).alloc (Obj.cells #[Value.int IntKind.u32 0, Value.int IntKind.u32 0, Value.int IntKind.u32 0] 91)).cell? ⟨w.heap.size, 6, none⟩ = some (.int .u32 ((m 6 : Nat) : Int)) := by simp [go_sem]
    have a7 : (((w.alloc (Obj.cells #[.int .u32 ((m 0 : Nat) : Int), .int .u32 ((m 1 : Nat) : Int), .int .u32 ((m 2 : Nat) : Int), .int .u32 ((m 3 : Nat) : Int), .int .u32 ((m 4 : Nat) : Int), .int .u32 ((m 5 : Nat) : Int), .int .u32 ((m 6 : Nat) : Int), .int .u32 ((m 7 : Nat) : Int), .int .u32 ((m 8 : Nat) : Int)] 69)).alloc (Obj.cells #[.int .u32 (r : Int), .int .u32 (s : Int), .int .u32 (t : Int)] 91)).alloc (Obj.cells #[Value.int IntKind.u32 0, Value.int IntKind.u32 0, Value.int IntKind.u32 0] 91)).cell? ⟨w.heap.size, 7, none⟩ = some (.int .u32 ((m 7 : Nat) : Int)) := by simp [go_sem]
    have a8 : (((w.alloc (Obj.cells #[.int .u32 ((m 0 : Nat) : Int), .int .u32 ((m 1 : Nat) : Int), .int .u32 ((m 2 : Nat) : Int), .int .u32 ((m 3 : Nat) : Int), .int .u32 ((m 4 : Nat) : Int), .int .u32 ((m 5 : Nat) : Int), .int .u32 ((m 6 : Nat) : Int), .int .u32 ((m 7 : Nat) : Int), .int .u32 ((m 8 : Nat) : Int)] 69)).alloc (Obj.cells #[.int .u32 (r : Int), .int .u32 (s : Int), .int .u32 (t : Int)] 91)).alloc (Obj.cells #[Value.int IntKind.u32 0, Value.int IntKind.u32 0, Value.int IntKind.u32 0] 91)).cell? ⟨w.heap.size, 8, none⟩ = some (.int .u32 ((m 8 : Nat) : Int)) := by simp [go_sem]
    have b0 : (((w.alloc (Obj.cells #[.int .u32 ((m 0 : Nat) : Int), .int .u32 ((m 1 : Nat) : Int), .int .u32 ((m 2 : Nat) : Int), .int .u32 ((m 3 : Nat) : Int), .int .u32 ((m 4 : Nat) : Int), .int .u32 ((m 5 : Nat) : Int), .int .u32 ((m 6 : Nat) : Int), .int .u32 ((m 7 : Nat) : Int), .int .u32 ((m 8 : Nat) : Int)] 69)).alloc (Obj.cells #[.int .u32 (r : Int), .int .u32 (s : Int), .int .u32 (t : Int)] 91)).alloc (Obj.cells #[Value.int IntKind.u32 0, Value.int IntKind.u32 0, Value.int IntKind.u32 0] 91)).cell? ⟨w.heap.size + 1, 0, none⟩ = some (.int .u32 (r : Int)) := by simp [go_sem]
    have b1 : (((w.alloc (Obj.cells #[.int .u32 ((m 0 : Nat) : Int), .int .u32 ((m 1 : Nat) : Int), .int .u32 ((m 2 : Nat) : Int), .int .u32 ((m 3 : Nat) : Int), .int .u32 ((m 4 : Nat) : Int), .int .u32 ((m 5 : Nat) : Int), .int .u32 ((m 6 : Nat) : Int), .int .u32 ((m 7 : Nat) : Int), .int .u32 ((m 8 : Nat) : Int)] 69)).alloc (Obj.cells #[.int .u32 (r : Int), .int .u32 (s : Int), .int .u32 (t : Int)] 91)).alloc (Obj.cells #[Value.int IntKind.u32 0, Value.int IntKind.u32 0, Value.int IntKind.u32 0] 91)).cell? ⟨w.heap.size + 1, 1, none⟩ = some (.int .u32 (s : Int)) := by simp [go_sem]
    have b2 : (((w.alloc (Obj.cells #[.int .u32 ((m 0 : Nat) : Int), .int .u32 ((m 1 : Nat) : Int), .int .u32 ((m 2 : Nat) : Int), .int .u32 ((m 3 : Nat) : Int), .int .u32 ((m 4 : Nat) : Int), .int .u32 ((m 5 : Nat) : Int), .int .u32 ((m 6 : Nat) : Int), .int .u32 ((m 7 : Nat) : Int), .int .u32 ((m 8 : Nat) : Int)] 69)).alloc (Obj.cells #[.int .u32 (r : Int), .int .u32 (s : Int), .int .u32 (t : Int)] 91)).alloc (Obj.cells #[Value.int IntKind.u32 0, Value.int IntKind.u32 0, Value.int IntKind.u32 0] 91)).cell? ⟨w.heap.size + 1, 2, none⟩ = some (.int .u32 (t : Int)) := by simp [go_sem]
    have d0 : (((w.alloc (Obj.cells #[.int .u32 ((m 0 : Nat) : Int), .int .u32 ((m 1 : Nat) : Int), .int .u32 ((m 2 : Nat) : Int), .int .u32 ((m 3 : Nat) : Int), .int .u32 ((m 4 : Nat) : Int), .int .u32 ((m 5 : Nat) : Int), .int .u32 ((m 6 : Nat) : Int), .int .u32 ((m 7 : Nat) : Int), .int .u32 ((m 8 : Nat) : Int)] 69)).alloc (Obj.cells #[.int .u32 (r : Int), .int .u32 (s : Int), .int .u32 (t : Int)] 91)).alloc (Obj.cells #[Value.int IntKind.u32 0, Value.int IntKind.u32 0, Value.int IntKind.u32 0] 91)).cell? ⟨w.heap.size + 1 + 1, 0, none⟩ = some (.int .u32 0) := by simp [go_sem]
    have d1 : (((w.alloc (Obj.cells #[.int .u32 ((m 0 : Nat) : Int), .int .u32 ((m 1 : Nat) : Int), .int .u32 ((m 2 : Nat) : Int), .int .u32 ((m 3 : Nat) : Int), .int .u32 ((m 4 : Nat) : Int), .int .u32 ((m 5 : Nat) : Int), .int .u32 ((m 6 : Nat) : Int), .int .u32 ((m 7 : Nat) : Int), .int .u32 ((m 8 : Nat) : Int)] 69)).alloc (Obj.cells #[.int .u32 (r : Int), .int .u32 (s : Int), .int .u32 (t : Int)] 91)).alloc (Obj.cells #[Value.int IntKind.u32 0, Value.int IntKind.u32 0, Value.int IntKind.u32 0] 91)).cell? ⟨w.heap.size + 1 + 1, 1, none⟩ = some (.int .u32 0) := by simp [go_sem]
    have d2 : (((w.alloc (Obj.cells #[.int .u32 ((m 0 : Nat) : Int), .int .u32 ((m 1 : Nat) : Int), .int .u32 ((m 2 : Nat) : Int), .int .u32 ((m 3 : Nat) : Int), .int .u32 ((m 4 : Nat) : Int), .int .u32 ((m 5 : Nat) : Int), .int .u32 ((m 6 : Nat) : Int), .int .u32 ((m 7 : Nat) : Int), .int .u32 ((m 8 : Nat) : Int)] 69)).alloc (Obj.cells #[.int .u32 (r : Int), .int .u32 (s : Int), .int .u32 (t : Int)] 91)).alloc (Obj.cells #[Value.int IntKind.u32 0, Value.int IntKind.u32 0, Value.int IntKind.u32 0] 91)).cell? ⟨w.heap.size + 1 + 1, 2, none⟩ = some (.int .u32 0) := by simp [go_sem]
    have df : ∀ j, (((w.alloc (Obj.cells #[.int .u32 ((m 0 : Nat) : Int), .int .u32 ((m 1 : Nat) : Int), .int .u32 ((m 2 : Nat) : Int), .int .u32 ((m 3 : Nat) : Int), .int .u32 ((m 4 : Nat) : Int), .int .u32 ((m 5 : Nat) : Int), .int .u32 ((m 6 : Nat) : Int), .int .u32 ((m 7 : Nat) : Int), .int .u32 ((m 8 : Nat) : Int)] 69)).alloc (Obj.cells #[.int .u32 (r : Int), .int .u32 (s : Int), .int .u32 (t : Int)] 91)).alloc (Obj.cells #[Value.int IntKind.u32 0, Value.int IntKind.u32 0, Value.int IntKind.u32 0] 91)).frozen? ⟨w.heap.size + 1 + 1, j, none⟩ = false := fun j => by simp [go_sem]
    generalize (((w.alloc (Obj.cells #[.int .u32 ((m 0 : Nat) : Int), .int .u32 ((m 1 : Nat) : Int), .int .u32 ((m 2 : Nat) : Int), .int .u32 ((m 3 : Nat) : Int), .int .u32 ((m 4 : Nat) : Int), .int .u32 ((m 5 : Nat) : Int), .int .u32 ((m 6 : Nat) : Int), .int .u32 ((m 7 : Nat) : Int), .int .u32 ((m 8 : Nat) : Int)] 69)).alloc (Obj.cells #[.int .u32 (r : Int), .int .u32 (s : Int), .int .u32 (t : Int)] 91)).alloc (Obj.cells #[Value.int IntKind.u32 0, Value.int IntKind.u32 0, Value.int IntKind.u32 0] 91)) = wa at *
    have n0 := qw_some wa
    have f0 := qw_cell a0
    have f1 := qw_cell a1
    have f2 := qw_cell a2
    have f3 := qw_cell a3
    have f4 := qw_cell a4
    have f5 := qw_cell a5
    have f6 := qw_cell a6
    have f7 := qw_cell a7
    have f8 := qw_cell a8
    have g0 := qw_cell b0
    have g1 := qw_cell b1
    have g2 := qw_cell b2
    refine wp_region_mk [0, 1, 3, 4, 6, 7] [[2, 5, 8, 9, 10]] 5 _ (by kernel_rfl) (by kernel_rfl) rfl (by kernel_rfl) ?_
    simp only [List.filterMap_cons, List.filterMap_nil, List.getElem?_cons_zero, List.getElem?_cons_succ]
    repeat (first | go_big_quiet_step (fail) | quiet_step (fail))
    refine wpQuiet_nil ?_
    intro x1 hx1
    refine tree_call 2 rfl rfl (run_fn 49 #[.tmp 5, .const (.int .i64 0), .tmp 6] _ rfl l1 (vs := #[.agg #[.int .u32 ((m 0 : Nat) : Int), .int .u32 ((m 1 : Nat) : Int), .int .u32 ((m 2 : Nat) : Int), .int .u32 ((m 3 : Nat) : Int), .int .u32 ((m 4 : Nat) : Int), .int .u32 ((m 5 : Nat) : Int), .int .u32 ((m 6 : Nat) : Int), .int .u32 ((m 7 : Nat) : Int), .int .u32 ((m 8 : Nat) : Int)], .int .i64 0, .agg #[.int .u32 (r : Int), .int .u32 (s : Int), .int .u32 (t : Int)]]) (by simp [Act.eval, Act.put])) (H0.out x1) ?_
    rintro u x2 ⟨rfl, q2⟩
    refine ⟨hx1.trans q2, ?_⟩
    refine tree_call 5 rfl rfl (run_fn 49 #[.tmp 8, .const (.int .i64 1), .tmp 9] _ rfl l1 (vs := #[.agg #[.int .u32 ((m 0 : Nat) : Int), .int .u32 ((m 1 : Nat) : Int), .int .u32 ((m 2 : Nat) : Int), .int .u32 ((m 3 : Nat) : Int), .int .u32 ((m 4 : Nat) : Int), .int .u32 ((m 5 : Nat) : Int), .int .u32 ((m 6 : Nat) : Int), .int .u32 ((m 7 : Nat) : Int), .int .u32 ((m 8 : Nat) : Int)], .int .i64 1, .agg #[.int .u32 (r : Int), .int .u32 (s : Int), .int .u32 (t : Int)]]) (by simp [Act.eval, Act.put])) (H1.out x2) ?_
    rintro u x3 ⟨rfl, q3⟩
    refine ⟨(hx1.trans q2).trans q3, ?_⟩
    refine tree_call 8 rfl rfl (run_fn 49 #[.tmp 11, .const (.int .i64 2), .tmp 12] _ rfl l1 (vs := #[.agg #[.int .u32 ((m 0 : Nat) : Int), .int .u32 ((m 1 : Nat) : Int), .int .u32 ((m 2 : Nat) : Int), .int .u32 ((m 3 : Nat) : Int), .int .u32 ((m 4 : Nat) : Int), .int .u32 ((m 5 : Nat) : Int), .int .u32 ((m 6 : Nat) : Int), .int .u32 ((m 7 : Nat) : Int), .int .u32 ((m 8 : Nat) : Int)], .int .i64 2, .agg #[.int .u32 (r : Int), .int .u32 (s : Int), .int .u32 (t : Int)]]) (by simp [Act.eval, Act.put])) (H2.out x3) ?_
    rintro u x4 ⟨rfl, q4⟩
    have qe : Q wa x4 := ((hx1.trans q2).trans q3).trans q4
    refine ⟨qe, ?_⟩
    refine tree_runF 9 rfl rfl rfl (v := .agg #[.int .u32 (U : Int), .int .u32 (V : Int), .int .u32 (Z : Int)]) (x' := x4) (by simp [execOp, go_sem]) ?_
    have d0' := qe.cell d0
    have d1' := qe.cell d1
    have d2' := qe.cell d2
    have df' : ∀ j, x4.frozen? ⟨w.heap.size + 1 + 1, j, none⟩ = false := fun j => (qe.2 _).trans (df j)
    refine tree_skipF 10 rfl rfl rfl (x' := (((x4.setCell ⟨w.heap.size + 1 + 1, 0, none⟩ (.int .u32 (U : Int))).setCell ⟨w.heap.size + 1 + 1, 1, none⟩ (.int .u32 (V : Int))).setCell ⟨w.heap.size + 1 + 1, 2, none⟩ (.int .u32 (Z : Int)))) (by simp [execOp, go_sem, d0', d1', d2', df']) ?_
    refine tree_nil ?_
    clear n0 f0 f1 f2 f3 f4 f5 f6 f7 f8 g0 g1 g2
    have QE : Hid (Q w x4) := HQ.out.trans qe
    clear qe q2 q3 q4 hx1
    go_wp2_with fail
    refine bodyPost_ret (v := .agg #[.int .u32 (U : Int), .int .u32 (V : Int), .int .u32 (Z : Int)]) (by simp [results, Try.results30, go_sem, d0', d1', d2']) rfl ⟨rfl, ((QE.out.set (by show _ ≤ w.heap.size + 1 + 1; omega) _).set (by show _ ≤ w.heap.size + 1 + 1; omega) _).set (by show _ ≤ w.heap.size + 1 + 1; omega) _⟩
set_option maxHeartbeats 2000000 in
set_option maxRecDepth 100000 in
theorem matrix_good (m : Nat → Nat) (hm : ∀ i, m i < 4294967296) (w : World) (sp : Int) (g o cap a b n : Nat) (L : List PL) (h : Pc w g o a b L) (hn : L.length = n) (hcap : n ≤ cap) (h3 : 3 ≤ n) (hsp : spcB sp n = true) :
    Calls Try.prog 11 #[.agg #[.int .i64 sp, .slice (some ⟨g, o, none⟩) n cap], .agg #[.int .u32 ((m 0 : Nat) : Int), .int .u32 ((m 1 : Nat) : Int), .int .u32 ((m 2 : Nat) : Int), .int .u32 ((m 3 : Nat) : Int), .int .u32 ((m 4 : Nat) : Int), .int .u32 ((m 5 : Nat) : Int), .int .u32 ((m 6 : Nat) : Int), .int .u32 ((m 7 : Nat) : Int), .int .u32 ((m 8 : Nat) : Int)]] w fun e w' => ∃ g' cap' M, e = .returned (.tuple #[.agg #[.int .i64 sp, .slice (some ⟨g', 0, none⟩) n cap'], .int .i64 0]) ∧ M.map PL.S = mixL (mixM m 0) (mixM m 1) (mixM m 2) (L.map PL.S) ∧ Hid (Nw w.heap.size w' g' cap' a b M) ∧ Q w w' := by
  have HP : Hid (Pc w g o a b L) := h
  have HF : Hid (Fun3 30 (.agg #[.int .u32 ((m 0 : Nat) : Int), .int .u32 ((m 1 : Nat) : Int), .int .u32 ((m 2 : Nat) : Int), .int .u32 ((m 3 : Nat) : Int), .int .u32 ((m 4 : Nat) : Int), .int .u32 ((m 5 : Nat) : Int), .int .u32 ((m 6 : Nat) : Int), .int .u32 ((m 7 : Nat) : Int), .int .u32 ((m 8 : Nat) : Int)]) (mixM m 0) (mixM m 1) (mixM m 2)) := matrix_fun m hm
  have HN : Hid (L.length = n) := hn
  have HS : Hid (spcB sp n = true) := hsp
  have hn3 : ¬ (n : Int) < 3 := by omega
  generalize mixM m 0 = G0 at *
  generalize mixM m 1 = G1 at *
  generalize mixM m 2 = G2 at *
  have qa : Hid (∀ a b c d e f, Q w (((w.alloc (.cells a b)).alloc (.cells c d)).alloc (.cells e f))) := fun a b c d e f => (((Q.refl w).cells _ _).cells _ _).cells _ _
  clear h hn hsp hm
  go_enter Try.func11, Try.ntmps11
  go_wp2_with fail
  refine (pcheck_good (HP.out.next (qa.out _ _ _ _ _ _)) HN.out hcap HS.out).mono ?_
  rintro e w1 ⟨rfl, q1⟩
  have HQ1 : Hid (Q w w1) := (qa.out _ _ _ _ _ _).trans q1
  have p0 : w1.cell? ⟨w.heap.size, 0, none⟩ = some (.int .i64 sp) := q1.cell (by simp [go_sem])
  have p1 : w1.cell? ⟨w.heap.size, 1, none⟩ = some (.slice (some ⟨g, o, none⟩) n cap) := q1.cell (by simp [go_sem])
  have a0 : w1.cell? ⟨w.heap.size + 1, 0, none⟩ = some (.int .u32 ((m 0 : Nat) : Int)) := q1.cell (by simp [go_sem])
  have a1 : w1.cell? ⟨w.heap.size + 1, 1, none⟩ = some (.int .u32 ((m 1 : Nat) : Int)) := q1.cell (by simp [go_sem])
  have a2 : w1.cell? ⟨w.heap.size + 1, 2, none⟩ = some (.int .u32 ((m 2 : Nat) : Int)) := q1.cell (by simp [go_sem])
  have a3 : w1.cell? ⟨w.heap.size + 1, 3, none⟩ = some (.int .u32 ((m 3 : Nat) : Int)) := q1.cell (by simp [go_sem])
  have a4 : w1.cell? ⟨w.heap.size + 1, 4, none⟩ = some (.int .u32 ((m 4 : Nat) : Int)) := q1.cell (by simp [go_sem])
  have a5 : w1.cell? ⟨w.heap.size + 1, 5, none⟩ = some (.int .u32 ((m 5 : Nat) : Int)) := q1.cell (by simp [go_sem])
  have a6 : w1.cell? ⟨w.heap.size + 1, 6, none⟩ = some (.int .u32 ((m 6 : Nat) : Int)) := q1.cell (by simp [go_sem])
  have a7 : w1.cell? ⟨w.heap.size + 1, 7, none⟩ = some (.int .u32 ((m 7 : Nat) : Int)) := q1.cell (by simp [go_sem])
  have a8 : w1.cell? ⟨w.heap.size + 1, 8, none⟩ = some (.int .u32 ((m 8 : Nat) : Int)) := q1.cell (by simp [go_sem])
  have r0 : w1.cell? ⟨w.heap.size + 1 + 1, 0, none⟩ = some (.int .i64 0) := q1.cell (by simp [go_sem])
  have r1 : w1.cell? ⟨w.heap.size + 1 + 1, 1, none⟩ = some (.slice none 0 0) := q1.cell (by simp [go_sem])
  have rf : ∀ j, w1.frozen? ⟨w.heap.size + 1 + 1, j, none⟩ = false := fun j => (q1.2 _).trans (by simp [go_sem])
  clear q1
  go_wp2_with fail
  refine (mixing_any w1 sp sp g o cap a b n L (HP.out.next HQ1.out) HN.out hcap h3 30 _ G0 G1 G2 HF.out).mono ?_
  rintro e w3 ⟨g3, cap3, M, rfl, hM, HW, q3⟩
  have hlt : w.heap.size + 1 + 1 < w1.heap.size := cell_in r0
  replace r0 := q3.cell r0
  replace r1 := q3.cell r1
  replace rf : ∀ j, w3.frozen? ⟨w.heap.size + 1 + 1, j, none⟩ = false := fun j => (q3.2 _).trans (rf j)
  have HQ3 : Hid (Q w w3) := HQ1.out.trans q3
  have HM : Hid (M.map PL.S = mixL G0 G1 G2 (L.map PL.S)) := hM
  have HW' : Hid (Nw (w.heap.size + 3) w3 g3 cap3 a b M) := HW.out.mono (by omega)
  clear q3 hM HW
  go_wp2_with fail
  have F9 : Fr w3 ((w3.setCell ⟨w.heap.size + 1 + 1, 0, none⟩ (.int .i64 sp)).setCell ⟨w.heap.size + 1 + 1, 1, none⟩ (.slice (some ⟨g3, 0, none⟩) n cap3)) (fun b => b ≠ w.heap.size + 1 + 1) := ((Fr.refl w3 _).set (fun h => h rfl) _).set (fun h => h rfl) _
  refine bodyPost_ret (v := .tuple #[.agg #[.int .i64 sp, .slice (some ⟨g3, 0, none⟩) n cap3], .int .i64 0]) (by simp [results, Try.results11, go_sem, r0, r1]) rfl ⟨g3, cap3, M, rfl, HM.out, (HW'.out.keep F9 (by have := HW'.out.low; omega) (fun x hx => by have := (HW'.out.it x hx).1.low; omega)).mono (by omega), (HQ3.out.set (by show _ ≤ w.heap.size + 1 + 1; omega) _).set (by show _ ≤ w.heap.size + 1 + 1; omega) _⟩
end Go.Proofs.Ytdempklpmggdoaa
