/- Copies of planes. -/
import Derived.Test.YtikhmlcmmabapaaG744dc338
import Derived.Test.YtikhmlcmmabapaaG1a232a06
import Derived.Test.YtikhmlcmmabapaaGcce89acd
namespace Go.Proofs.Ytikhmlcmmabapaa
open Go.RowKit
set_option linter.unusedVariables false
set_option linter.unusedSimpArgs false

theorem uInfoq : ∃ i, Try.prog.info? 38 = some i ∧ i.size = 1 ∧ i.bytes = 4 ∧ i.zero = some (.int .u32 0) := info_of (by kernel_rfl) (by kernel_rfl)
theorem run_appopq {P : Program} {A : Act} {o : Oper} {x x' : World} {s u : Operand} {t : TypeId} (ho : o.op = .call { callee := .builtin .append, args := #[s, u], argTypes := #[t, t] }) {v v' r : Value} (hs : A.eval s = v) (hu : A.eval u = v') (hr : (Builtin.append_ #[t, t] o.type #[v, v']).run P x = .ok r x') : (execOp A.eval o).run P x = .ok (.value r) x' := by
  unfold execOp
  simp only [ho, resolve, invoke, builtin, Sem.run_bind, Sem.run_pure, Result.andThen_ok, List.map_toArray, List.map_cons, List.map_nil, hs, hu, hr]
set_option maxHeartbeats 2000000 in
set_option maxRecDepth 100000 in
theorem hcopy_some (w : World) (pw ph : Int) (g o n c : Nat) (S : List Nat) (hS : S.length = n) (hI : UIs w g o S) (h1 : 1 ≤ n) (h2 : n ≤ 1000000) :
    Calls Try.prog 7 #[.agg #[.int .i64 pw, .int .i64 ph, .slice (some ⟨g, o, none⟩) n c]] w fun e w' => ∃ v, e = .returned v ∧ ∃ b cap, v = .agg #[.int .i64 pw, .int .i64 ph, .slice (some ⟨b, 0, none⟩) n cap] ∧ n ≤ cap ∧ b < w'.heap.size ∧ Own w w' b S := by
  have HI : Hid (∀ x : World, Q w x → UIs x g o S) := fun x q => hI.next q
  have HN : Hid (S.length = n) := hS
  clear hI hS
  go_enter Try.func7, Try.ntmps7
  go_wp2_with fail
  have HQ : Hid (Q w ((w.alloc (Obj.cells #[Value.int IntKind.i64 pw, Value.int IntKind.i64 ph, .slice (some ⟨g, o, none⟩) n c] 24)).alloc (Obj.cells #[Value.int IntKind.i64 0, Value.int IntKind.i64 0, Value.slice none 0 0] 24))) := ((Q.refl w).cells _ _).cells _ _
  have c0 : ((w.alloc (Obj.cells #[Value.int IntKind.i64 pw, Value.int IntKind.i64 ph, .slice (some ⟨g, o, none⟩) n c] 24)).alloc (Obj.cells #[Value.int IntKind.i64 0, Value.int IntKind.i64 0, Value.slice none 0 0] 24)).cell? ⟨w.heap.size, 0, none⟩ = some (.int .i64 pw) := by simp [go_sem]
  have c1 : ((w.alloc (Obj.cells #[Value.int IntKind.i64 pw, Value.int IntKind.i64 ph, .slice (some ⟨g, o, none⟩) n c] 24)).alloc (Obj.cells #[Value.int IntKind.i64 0, Value.int IntKind.i64 0, Value.slice none 0 0] 24)).cell? ⟨w.heap.size, 1, none⟩ = some (.int .i64 ph) := by simp [go_sem]
  have c2 : ((w.alloc (Obj.cells #[Value.int IntKind.i64 pw, Value.int IntKind.i64 ph, .slice (some ⟨g, o, none⟩) n c] 24)).alloc (Obj.cells #[Value.int IntKind.i64 0, Value.int IntKind.i64 0, Value.slice none 0 0] 24)).cell? ⟨w.heap.size, 2, none⟩ = some (.slice (some ⟨g, o, none⟩) n c) := by simp [go_sem]
  have d0 : ((w.alloc (Obj.cells #[Value.int IntKind.i64 pw, Value.int IntKind.i64 ph, .slice (some ⟨g, o, none⟩) n c] 24)).alloc (Obj.cells #[Value.int IntKind.i64 0, Value.int IntKind.i64 0, Value.slice none 0 0] 24)).cell? ⟨w.heap.size + 1, 0, none⟩ = some (.int .i64 0) := by simp [go_sem]
  have d1 : ((w.alloc (Obj.cells #[Value.int IntKind.i64 pw, Value.int IntKind.i64 ph, .slice (some ⟨g, o, none⟩) n c] 24)).alloc (Obj.cells #[Value.int IntKind.i64 0, Value.int IntKind.i64 0, Value.slice none 0 0] 24)).cell? ⟨w.heap.size + 1, 1, none⟩ = some (.int .i64 0) := by simp [go_sem]
  have d2 : ((w.alloc (Obj.cells #[Value.int IntKind.i64 pw, Value.int IntKind.i64 ph, .slice (some ⟨g, o, none⟩) n c] 24)).alloc (Obj.cells #[Value.int IntKind.i64 0, Value.int IntKind.i64 0, Value.slice none 0 0] 24)).cell? ⟨w.heap.size + 1, 2, none⟩ = some (.slice none 0 0) := by simp [go_sem]
  have fz : ∀ j, ((w.alloc (Obj.cells #[Value.int IntKind.i64 pw, Value.int IntKind.i64 ph, .slice (some ⟨g, o, none⟩) n c] 24)).alloc (Obj.cells #[Value.int IntKind.i64 0, Value.int IntKind.i64 0, Value.slice none 0 0] 24)).frozen? ⟨w.heap.size + 1, j, none⟩ = false := fun j => by simp [go_sem]
  have hsz : ((w.alloc (Obj.cells #[Value.int IntKind.i64 pw, Value.int IntKind.i64 ph, .slice (some ⟨g, o, none⟩) n c] 24)).alloc (Obj.cells #[Value.int IntKind.i64 0, Value.int IntKind.i64 0, Value.slice none 0 0] 24)).heap.size = w.heap.size + 2 := by simp
  generalize ((w.alloc (Obj.cells #[Value.int IntKind.i64 pw, Value.int IntKind.i64 ph, .slice (some ⟨g, o, none⟩) n c] 24)).alloc (Obj.cells #[Value.int IntKind.i64 0, Value.int IntKind.i64 0, Value.slice none 0 0] 24)) = wz at *
  have n0 := qw_some wz
  have f0 := qw_cell c0
  have f1 := qw_cell c1
  have f2 := qw_cell c2
  refine wp_region_mk [0, 1, 2, 3, 4, 5] [[6, 7, 8]] 3 _ (by kernel_rfl) (by kernel_rfl) rfl (by kernel_rfl) ?_
  simp only [List.filterMap_cons, List.filterMap_nil, List.getElem?_cons_zero, List.getElem?_cons_succ]
  repeat (first | go_big_quiet_step (fail) | quiet_step (fail))
  refine wpQuiet_nil ?_
  intro x hx
  obtain ⟨iu, i1, i2, i3, i4⟩ := uInfoq
  obtain ⟨cap, w7, hr7, hq7, hc1, hc2, hz7, hn7, -, hf7⟩ := run_app_room (P := Try.prog) x 22 22 38 iu _ Try.underlying22 i1 i4 (by rw [i2]; rfl) (.slice none 0 0) (Or.inl rfl) ⟨g, o, none⟩ n c (S.map fun (s : Nat) => Value.int .u32 (s : Int)) (by rw [List.length_map, HN.out, i2]; omega) (fun j u hu => by
    rw [List.getElem?_map] at hu
    cases hj : S[j]? with
    | none => rw [hj] at hu; cases hu
    | some s =>
      rw [hj] at hu
      have hu := Option.some.inj hu
      have hjl : j < S.length := (List.getElem?_eq_some_iff.1 hj).1
      have := HI.out x (HQ.out.trans hx) j hjl
      rw [List.getD_eq_getElem?_getD, hj] at this
      rw [← hu, show (⟨g, o, none⟩ : Addr).add j = ⟨g, o + j, none⟩ by unfold Addr.add; split <;> simp_all]
      exact this) (by omega) (by omega) (by rw [i3]; omega)
  have hc7 : ∀ i, i < S.length → w7.cell? ⟨x.heap.size, i, none⟩ = some (.int .u32 ((S.getD i 0 : Nat) : Int)) := fun i hi => by
    refine hn7 i _ ?_
    rw [List.getElem?_map, List.getElem?_eq_getElem hi, List.getD_eq_getElem?_getD, List.getElem?_eq_getElem hi]
    rfl
  have hq2 : Q wz w7 := hx.trans hq7
  refine tree_run 6 rfl rfl (v := .slice (some ⟨x.heap.size, 0, none⟩) n cap) (x' := w7) (run_appopq rfl (v := .slice none 0 0) (v' := .slice (some ⟨g, o, none⟩) n c) (by simp [Act.eval, Act.put]) (by simp [Act.eval, Act.put]) hr7) hq2 ?_
  refine tree_run 7 rfl rfl (v := .agg #[.int .i64 pw, .int .i64 ph, .slice (some ⟨x.heap.size, 0, none⟩) n cap]) (x' := w7) (by simp [execOp, go_sem]) hq2 ?_
  have d02 := hq2.cell d0
  have d12 := hq2.cell d1
  have d22 := hq2.cell d2
  have fz2 : ∀ j, w7.frozen? ⟨w.heap.size + 1, j, none⟩ = false := fun j => (hq2.2 _).trans (fz j)
  refine tree_skipF 8 rfl rfl rfl (x' := (((w7.setCell ⟨w.heap.size + 1, 0, none⟩ (.int .i64 pw)).setCell ⟨w.heap.size + 1, 1, none⟩ (.int .i64 ph)).setCell ⟨w.heap.size + 1, 2, none⟩ (.slice (some ⟨x.heap.size, 0, none⟩) n cap))) (by simp [execOp, go_sem, d02, d12, d22, fz2]) ?_
  refine tree_nil ?_
  have HO : Hid (Own w (((w7.setCell ⟨w.heap.size + 1, 0, none⟩ (.int .i64 pw)).setCell ⟨w.heap.size + 1, 1, none⟩ (.int .i64 ph)).setCell ⟨w.heap.size + 1, 2, none⟩ (.slice (some ⟨x.heap.size, 0, none⟩) n cap)) x.heap.size S) := by
    have hlt : w.heap.size + 1 < x.heap.size := by have := hx.1.size; omega
    have hne : ∀ j, (⟨x.heap.size, j, none⟩ : Addr) ≠ ⟨w.heap.size + 1, 0, none⟩ := fun j e => by injection e with e; omega
    refine ⟨(((HQ.out.trans hq2).set (Nat.le_succ _) _).set (Nat.le_succ _) _).set (Nat.le_succ _) _, by omega, fun i hi => ?_, fun j => ?_⟩
    · rw [World.cell?_setCell_other _ _ _ _ (fun e => by injection e with e; omega), World.cell?_setCell_other _ _ _ _ (fun e => by injection e with e; omega), World.cell?_setCell_other _ _ _ _ (fun e => by injection e with e; omega), Nat.zero_add]
      exact hc7 i hi
    · rw [World.frozen?_setCell, World.frozen?_setCell, World.frozen?_setCell]
      exact hf7 j
  have k0 : (((w7.setCell ⟨w.heap.size + 1, 0, none⟩ (.int .i64 pw)).setCell ⟨w.heap.size + 1, 1, none⟩ (.int .i64 ph)).setCell ⟨w.heap.size + 1, 2, none⟩ (.slice (some ⟨x.heap.size, 0, none⟩) n cap)).cell? ⟨w.heap.size + 1, 0, none⟩ = some (.int .i64 pw) := by simp [go_sem, d02, d12, d22]
  have k1 : (((w7.setCell ⟨w.heap.size + 1, 0, none⟩ (.int .i64 pw)).setCell ⟨w.heap.size + 1, 1, none⟩ (.int .i64 ph)).setCell ⟨w.heap.size + 1, 2, none⟩ (.slice (some ⟨x.heap.size, 0, none⟩) n cap)).cell? ⟨w.heap.size + 1, 1, none⟩ = some (.int .i64 ph) := by simp [go_sem, d02, d12, d22]
  have k2 : (((w7.setCell ⟨w.heap.size + 1, 0, none⟩ (.int .i64 pw)).setCell ⟨w.heap.size + 1, 1, none⟩ (.int .i64 ph)).setCell ⟨w.heap.size + 1, 2, none⟩ (.slice (some ⟨x.heap.size, 0, none⟩) n cap)).cell? ⟨w.heap.size + 1, 2, none⟩ = some (.slice (some ⟨x.heap.size, 0, none⟩) n cap) := by simp [go_sem, d02, d12, d22]
  generalize (((w7.setCell ⟨w.heap.size + 1, 0, none⟩ (.int .i64 pw)).setCell ⟨w.heap.size + 1, 1, none⟩ (.int .i64 ph)).setCell ⟨w.heap.size + 1, 2, none⟩ (.slice (some ⟨x.heap.size, 0, none⟩) n cap)) = w5 at *
  clear d02 d12 d22 fz2 hq2 hx c0 c1 c2 d0 d1 d2 fz hr7 hq7
  go_wp2_with fail
  have hb5 : x.heap.size < w5.heap.size := World.block_lt_of_cell? _ _ (HO.out.cells 0 (by rw [HN.out]; omega))
  exact bodyPost_ret (v := .agg #[.int .i64 pw, .int .i64 ph, .slice (some ⟨x.heap.size, 0, none⟩) n cap]) (by simp [results, Try.results7, go_sem, k0, k1, k2]) rfl ⟨_, rfl, x.heap.size, cap, rfl, hc1, hb5, HO.out⟩
theorem run_app_none (x : World) (ad : Option Addr) (c : Nat) : ∃ w7, (Builtin.append_ #[22, 22] 22 #[.slice none 0 0, .slice ad 0 c]).run Try.prog x = .ok (.slice none 0 0) w7 ∧ Q x w7 := by
  refine ⟨x, ?_, Q.refl x⟩
  cases ad <;> simp [Builtin.append_, go_sem]
set_option maxHeartbeats 2000000 in
set_option maxRecDepth 100000 in
theorem hcopy_none (w : World) (pw ph : Int) (ad : Option Addr) (c : Nat) :
    Calls Try.prog 7 #[.agg #[.int .i64 pw, .int .i64 ph, .slice ad 0 c]] w fun e w' => ∃ v, e = .returned v ∧ v = .agg #[.int .i64 pw, .int .i64 ph, .slice none 0 0] ∧ Q w w' := by
  go_enter Try.func7, Try.ntmps7
  go_wp2_with fail
  have HQ : Hid (Q w ((w.alloc (Obj.cells #[Value.int IntKind.i64 pw, Value.int IntKind.i64 ph, .slice ad 0 c] 24)).alloc (Obj.cells #[Value.int IntKind.i64 0, Value.int IntKind.i64 0, Value.slice none 0 0] 24))) := ((Q.refl w).cells _ _).cells _ _
  have c0 : ((w.alloc (Obj.cells #[Value.int IntKind.i64 pw, Value.int IntKind.i64 ph, .slice ad 0 c] 24)).alloc (Obj.cells #[Value.int IntKind.i64 0, Value.int IntKind.i64 0, Value.slice none 0 0] 24)).cell? ⟨w.heap.size, 0, none⟩ = some (.int .i64 pw) := by simp [go_sem]
  have c1 : ((w.alloc (Obj.cells #[Value.int IntKind.i64 pw, Value.int IntKind.i64 ph, .slice ad 0 c] 24)).alloc (Obj.cells #[Value.int IntKind.i64 0, Value.int IntKind.i64 0, Value.slice none 0 0] 24)).cell? ⟨w.heap.size, 1, none⟩ = some (.int .i64 ph) := by simp [go_sem]
  have c2 : ((w.alloc (Obj.cells #[Value.int IntKind.i64 pw, Value.int IntKind.i64 ph, .slice ad 0 c] 24)).alloc (Obj.cells #[Value.int IntKind.i64 0, Value.int IntKind.i64 0, Value.slice none 0 0] 24)).cell? ⟨w.heap.size, 2, none⟩ = some (.slice ad 0 c) := by simp [go_sem]
  have d0 : ((w.alloc (Obj.cells #[Value.int IntKind.i64 pw, Value.int IntKind.i64 ph, .slice ad 0 c] 24)).alloc (Obj.cells #[Value.int IntKind.i64 0, Value.int IntKind.i64 0, Value.slice none 0 0] 24)).cell? ⟨w.heap.size + 1, 0, none⟩ = some (.int .i64 0) := by simp [go_sem]
  have d1 : ((w.alloc (Obj.cells #[Value.int IntKind.i64 pw, Value.int IntKind.i64 ph, .slice ad 0 c] 24)).alloc (Obj.cells #[Value.int IntKind.i64 0, Value.int IntKind.i64 0, Value.slice none 0 0] 24)).cell? ⟨w.heap.size + 1, 1, none⟩ = some (.int .i64 0) := by simp [go_sem]
  have d2 : ((w.alloc (Obj.cells #[Value.int IntKind.i64 pw, Value.int IntKind.i64 ph, .slice ad 0 c] 24)).alloc (Obj.cells #[Value.int IntKind.i64 0, Value.int IntKind.i64 0, Value.slice none 0 0] 24)).cell? ⟨w.heap.size + 1, 2, none⟩ = some (.slice none 0 0) := by simp [go_sem]
  have fz : ∀ j, ((w.alloc (Obj.cells #[Value.int IntKind.i64 pw, Value.int IntKind.i64 ph, .slice ad 0 c] 24)).alloc (Obj.cells #[Value.int IntKind.i64 0, Value.int IntKind.i64 0, Value.slice none 0 0] 24)).frozen? ⟨w.heap.size + 1, j, none⟩ = false := fun j => by simp [go_sem]
  have hsz : ((w.alloc (Obj.cells #[Value.int IntKind.i64 pw, Value.int IntKind.i64 ph, .slice ad 0 c] 24)).alloc (Obj.cells #[Value.int IntKind.i64 0, Value.int IntKind.i64 0, Value.slice none 0 0] 24)).heap.size = w.heap.size + 2 := by simp
  generalize ((w.alloc (Obj.cells #[Value.int IntKind.i64 pw, Value.int IntKind.i64 ph, .slice ad 0 c] 24)).alloc (Obj.cells #[Value.int IntKind.i64 0, Value.int IntKind.i64 0, Value.slice none 0 0] 24)) = wz at *
  have n0 := qw_some wz
  have f0 := qw_cell c0
  have f1 := qw_cell c1
  have f2 := qw_cell c2
  refine wp_region_mk [0, 1, 2, 3, 4, 5] [[6, 7, 8]] 3 _ (by kernel_rfl) (by kernel_rfl) rfl (by kernel_rfl) ?_
  simp only [List.filterMap_cons, List.filterMap_nil, List.getElem?_cons_zero, List.getElem?_cons_succ]
  repeat (first | go_big_quiet_step (fail) | quiet_step (fail))
  refine wpQuiet_nil ?_
  intro x hx
  obtain ⟨iu, i1, i2, i3, i4⟩ := uInfoq
  obtain ⟨w7, hr7, hq7⟩ : ∃ w7, (Builtin.append_ #[22, 22] 22 #[.slice none 0 0, .slice ad 0 c]).run Try.prog x = .ok (.slice none 0 0) w7 ∧ Q x w7 := run_app_none x ad c
  have hq2 : Q wz w7 := hx.trans hq7
  refine tree_run 6 rfl rfl (v := .slice none 0 0) (x' := w7) (run_appopq rfl (v := .slice none 0 0) (v' := .slice ad 0 c) (by simp [Act.eval, Act.put]) (by simp [Act.eval, Act.put]) hr7) hq2 ?_
  refine tree_run 7 rfl rfl (v := .agg #[.int .i64 pw, .int .i64 ph, .slice none 0 0]) (x' := w7) (by simp [execOp, go_sem]) hq2 ?_
  have d02 := hq2.cell d0
  have d12 := hq2.cell d1
  have d22 := hq2.cell d2
  have fz2 : ∀ j, w7.frozen? ⟨w.heap.size + 1, j, none⟩ = false := fun j => (hq2.2 _).trans (fz j)
  refine tree_skipF 8 rfl rfl rfl (x' := (((w7.setCell ⟨w.heap.size + 1, 0, none⟩ (.int .i64 pw)).setCell ⟨w.heap.size + 1, 1, none⟩ (.int .i64 ph)).setCell ⟨w.heap.size + 1, 2, none⟩ (.slice none 0 0))) (by simp [execOp, go_sem, d02, d12, d22, fz2]) ?_
  refine tree_nil ?_
  have HO : Hid (Q w (((w7.setCell ⟨w.heap.size + 1, 0, none⟩ (.int .i64 pw)).setCell ⟨w.heap.size + 1, 1, none⟩ (.int .i64 ph)).setCell ⟨w.heap.size + 1, 2, none⟩ (.slice none 0 0))) := by
    exact (((HQ.out.trans hq2).set (Nat.le_succ _) _).set (Nat.le_succ _) _).set (Nat.le_succ _) _
  have k0 : (((w7.setCell ⟨w.heap.size + 1, 0, none⟩ (.int .i64 pw)).setCell ⟨w.heap.size + 1, 1, none⟩ (.int .i64 ph)).setCell ⟨w.heap.size + 1, 2, none⟩ (.slice none 0 0)).cell? ⟨w.heap.size + 1, 0, none⟩ = some (.int .i64 pw) := by simp [go_sem, d02, d12, d22]
  have k1 : (((w7.setCell ⟨w.heap.size + 1, 0, none⟩ (.int .i64 pw)).setCell ⟨w.heap.size + 1, 1, none⟩ (.int .i64 ph)).setCell ⟨w.heap.size + 1, 2, none⟩ (.slice none 0 0)).cell? ⟨w.heap.size + 1, 1, none⟩ = some (.int .i64 ph) := by simp [go_sem, d02, d12, d22]
  have k2 : (((w7.setCell ⟨w.heap.size + 1, 0, none⟩ (.int .i64 pw)).setCell ⟨w.heap.size + 1, 1, none⟩ (.int .i64 ph)).setCell ⟨w.heap.size + 1, 2, none⟩ (.slice none 0 0)).cell? ⟨w.heap.size + 1, 2, none⟩ = some (.slice none 0 0) := by simp [go_sem, d02, d12, d22]
  generalize (((w7.setCell ⟨w.heap.size + 1, 0, none⟩ (.int .i64 pw)).setCell ⟨w.heap.size + 1, 1, none⟩ (.int .i64 ph)).setCell ⟨w.heap.size + 1, 2, none⟩ (.slice none 0 0)) = w5 at *
  clear d02 d12 d22 fz2 hq2 hx c0 c1 c2 d0 d1 d2 fz hr7 hq7
  go_wp2_with fail
  exact bodyPost_ret (v := .agg #[.int .i64 pw, .int .i64 ph, .slice none 0 0]) (by simp [results, Try.results7, go_sem, k0, k1, k2]) rfl ⟨_, rfl, rfl, HO.out⟩
end Go.Proofs.Ytikhmlcmmabapaa
/- Planes that are the same. -/
namespace Go.Proofs.Ytikhmlcmmabapaa
open Go.RowKit
set_option linter.unusedVariables false
set_option linter.unusedSimpArgs false

set_option maxHeartbeats 2000000 in
set_option maxRecDepth 100000 in
theorem hplanes_yes (a b : Int) (p q : Option Addr) (n c d : Nat) (S : List Nat) (w : World) (h : USl w (.slice p n c) S) (h' : USl w (.slice q n d) S) (hn : S.length ≤ 9223372036854775807) :
    Calls Try.prog 10 #[.agg #[.int .i64 a, .int .i64 b, .slice p n c], .agg #[.int .i64 a, .int .i64 b, .slice q n d]] w fun e w' => e = .returned (.bool true) ∧ Q w w' := by
  have H1 : Hid (USl w (.slice p n c) S) := h
  have H2 : Hid (USl w (.slice q n d) S) := h'
  clear h h'
  have qa : Hid (∀ a b c d, Q w ((w.alloc (.cells a b)).alloc (.cells c d))) := fun a b c d => ((Q.refl w).cells _ _).cells _ _
  go_enter Try.func10, Try.ntmps10
  go_wp2_with fail
  refine (words_eq _ _ S _ (H1.out.next (qa.out _ _ _ _)) (H2.out.next (qa.out _ _ _ _)) hn).mono ?_
  rintro e w1 ⟨rfl, q1⟩
  go_wp2_with fail
  go_ret
  exact ⟨rfl, (qa.out _ _ _ _).trans q1⟩
end Go.Proofs.Ytikhmlcmmabapaa
