/- Layer 15's document: its numbers. -/
import Derived.Test.YtkgojnjlfkijiaaGreatGb3d8d911
import Derived.Test.YtkgojnjlfkijiaaGreatGa5cf00b6
namespace Go.Proofs.YtkgojnjlfkijiaaGreat
open Go.RowKit
set_option linter.unusedVariables false
set_option linter.unusedSimpArgs false

set_option maxHeartbeats 2000000 in
theorem rd15_any (v : Value) (X : RNum) (w : World) (hx : NumAt w v X) (hf : fitsD X) : Calls Tryz.prog 59 #[v] w fun e w' => ∃ v', e = .returned v' ∧ NumAt w' v' (numOf Ieee.double (roundD X)) ∧ Q w w' := by
  obtain ⟨k, s, p, L, C, e, m, rfl⟩ := hx.made
  have HX : Hid (NumAt w (.agg #[.int .i64 k, .bool s, .slice p L C, .int .i64 e, .bool m]) X) := hx
  have HF : Hid (fitsD X) := hf
  clear hx hf
  have en1 := enters_of Tryz.func64 (by kernel_rfl) rfl
  have en2 := enters_of Tryz.func61 (by kernel_rfl) rfl
  obtain ⟨w1, hw1⟩ : ∃ w1, (w.alloc (.cells #[.int .i64 k, .bool s, .slice p L C, .int .i64 e, .bool m] 63)).alloc (.cells #[.int .i64 0, .bool false, .slice none 0 0, .int .i64 0, .bool false] 63) = w1 := ⟨_, rfl⟩
  have HQ : Hid (Q w w1) := by show Q w w1; rw [← hw1]; exact ((Q.refl w).cells _ _).cells _ _
  have c0 : w1.cell? ⟨w.heap.size, 0, none⟩ = some (.int .i64 k) := by rw [← hw1]; simp [go_sem]
  have c1 : w1.cell? ⟨w.heap.size, 1, none⟩ = some (.bool s) := by rw [← hw1]; simp [go_sem]
  have c2 : w1.cell? ⟨w.heap.size, 2, none⟩ = some (.slice p L C) := by rw [← hw1]; simp [go_sem]
  have c3 : w1.cell? ⟨w.heap.size, 3, none⟩ = some (.int .i64 e) := by rw [← hw1]; simp [go_sem]
  have c4 : w1.cell? ⟨w.heap.size, 4, none⟩ = some (.bool m) := by rw [← hw1]; simp [go_sem]
  have hB : Hid (ABox w w1 (w.heap.size + 1)) := by
    refine ⟨HQ.out, ⟨?_, ?_, ?_, ?_, ?_⟩, fun j => ?_, Nat.le_succ _⟩ <;> (rw [← hw1]; simp [go_sem])
  go_enter Tryz.func59, Tryz.ntmps59
  go_wp2_with fail
  refine (f64_any _).mono ?_
  rintro e' w2 ⟨rfl, q2⟩
  have HX : Hid _ := (HQ.out.trans q2).num HX.out
  have c0 := q2.cell c0
  have c1 := q2.cell c1
  have c2 := q2.cell c2
  have c3 := q2.cell c3
  have c4 := q2.cell c4
  have hB : Hid (ABox w w2 (w.heap.size + 1)) := hB.out.next q2
  clear hw1 HQ q2
  have c0a := fun c t => ((Q.refl w2).cells c t).cell c0
  have c1a := fun c t => ((Q.refl w2).cells c t).cell c1
  have c2a := fun c t => ((Q.refl w2).cells c t).cell c2
  have c3a := fun c t => ((Q.refl w2).cells c t).cell c3
  have c4a := fun c t => ((Q.refl w2).cells c t).cell c4
  go_wp2_with fail
  obtain ⟨w3, hw3⟩ : ∃ w3, w2.alloc (.cells #[.int .i64 52, .int .i64 11] 89) = w3 := ⟨_, rfl⟩
  have q3 : Q w2 w3 := by rw [← hw3]; exact (Q.refl w2).cells _ _
  have d0 : w3.cell? ⟨w2.heap.size, 0, none⟩ = some (.int .i64 52) := by rw [← hw3]; simp [go_sem]
  have d1 : w3.cell? ⟨w2.heap.size, 1, none⟩ = some (.int .i64 11) := by rw [← hw3]; simp [go_sem]
  have HX : Hid _ := q3.num HX.out
  have hB : Hid (ABox w w3 (w.heap.size + 1)) := hB.out.next q3
  have n0 := qw_some w3
  have f0 := qw_cell (q3.cell c0)
  have f1 := qw_cell (q3.cell c1)
  have f2 := qw_cell (q3.cell c2)
  have f3 := qw_cell (q3.cell c3)
  have f4 := qw_cell (q3.cell c4)
  have f5 := qw_cell d0
  have f6 := qw_cell d1
  rw [hw3]
  clear hw3 q3 c0 c1 c2 c3 c4 c0a c1a c2a c3a c4a d0 d1
  refine wp_region_mk [0, 1, 2] [[3, 4, 5]] 3 _ (by kernel_rfl) (by kernel_rfl) rfl (by kernel_rfl) ?_
  simp only [List.filterMap_cons, List.filterMap_nil, List.getElem?_cons_zero, List.getElem?_cons_succ]
  repeat (first | go_big_quiet_step (fail) | quiet_step (fail))
  refine wpQuiet_nil ?_
  intro x0 q0
  clear f0 f1 f2 f3 f4 f5 f6 n0
  have HX : Hid _ := q0.num HX.out
  refine tree_call 3 rfl rfl (run_fn 64 #[.tmp 6, .tmp 7] _ rfl en1 (vs := #[.agg #[.int .i64 52, .int .i64 11], .agg #[.int .i64 k, .bool s, .slice p L C, .int .i64 e, .bool m]]) (by simp [Act.eval, Act.put])) (G := fun u x' => u = .int .u64 (roundD X : Int) ∧ Q x0 x') ((round64_any _ X x0 HX.out HF.out).mono fun e' w' ⟨a, b⟩ => ⟨_, a, rfl, b⟩) ?_
  rintro u x1 ⟨rfl, q1⟩
  replace q1 := q0.trans q1
  refine ⟨q1, ?_⟩
  refine tree_call 4 rfl rfl (run_fn 61 #[.tmp 5, .tmp 8] _ rfl en2 (vs := #[.agg #[.int .i64 52, .int .i64 11], .int .u64 (roundD X : Int)]) (by simp [Act.eval, Act.put])) (G := fun u x' => NumAt x' u (numOf Ieee.double (roundD X)) ∧ Q x1 x') ((of64_any (roundD X) x1 (roundD_lt X)).mono fun e' w' ⟨v, a, b, c⟩ => ⟨v, a, b, c⟩) ?_
  rintro u x2 ⟨hv, q2⟩
  replace q2 := q1.trans q2
  refine ⟨q2, ?_⟩
  obtain ⟨k', s', p', L', C', e', m', rfl⟩ := hv.made
  have hB : Hid (ABox w x2 (w.heap.size + 1)) := hB.out.next q2
  obtain ⟨h1, h2⟩ := five_set hB.out.b k' s' p' L' C' e' m'
  have HN : Hid _ := h1 _ _ hv
  have HQ : Hid _ := h2 _ hB.out.q hB.out.v
  obtain ⟨b0, b1, b2, b3, b4⟩ := hB.out.b
  have hf := hB.out.f
  refine tree_skipF 5 rfl rfl rfl (x' := ((((x2.setCell ⟨w.heap.size + 1, 0, none⟩ (.int .i64 k')).setCell ⟨w.heap.size + 1, 1, none⟩ (.bool s')).setCell ⟨w.heap.size + 1, 2, none⟩ (.slice p' L' C')).setCell ⟨w.heap.size + 1, 3, none⟩ (.int .i64 e')).setCell ⟨w.heap.size + 1, 4, none⟩ (.bool m')) (by simp [execOp, go_sem, Act.eval, Act.put, b0, b1, b2, b3, b4, hf]) ?_
  refine tree_nil ?_
  clear h1 h2 hv hB q0 q1 q2 HX HF
  go_wp2_with fail
  refine bodyPost_ret (v := .agg #[.int .i64 k', .bool s', .slice p' L' C', .int .i64 e', .bool m']) (by simp [results, Tryz.results59, go_sem, b0, b1, b2, b3, b4]) rfl ⟨_, rfl, HN.out, HQ.out⟩
end Go.Proofs.YtkgojnjlfkijiaaGreat
