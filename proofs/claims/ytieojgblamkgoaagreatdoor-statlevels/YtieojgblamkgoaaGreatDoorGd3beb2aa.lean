/- Copies of planes. -/
import Derived.Test.YtieojgblamkgoaaGreatDoorGa75617b7
import Derived.Test.YtieojgblamkgoaaGreatDoorG4085d0f8
import Derived.Test.YtieojgblamkgoaaGreatDoorGf196db84
import Derived.Test.YtieojgblamkgoaaGreatDoorGf88f0262
import Derived.Test.YtieojgblamkgoaaGreatDoorG58e80f10
import Derived.Test.YtieojgblamkgoaaGreatDoorGf8e8d074
namespace Go.Proofs.YtieojgblamkgoaaGreatDoor
open Go.RowKit
set_option linter.unusedVariables false
set_option linter.unusedSimpArgs false

theorem uInfoq : ∃ i, Tryz.prog.info? 43 = some i ∧ i.size = 1 ∧ i.bytes = 4 ∧ i.zero = some (.int .u32 0) := info_of (by kernel_rfl) (by kernel_rfl)
theorem run_appopq {P : Program} {A : Act} {o : Oper} {x x' : World} {s u : Operand} {t : TypeId} (ho : o.op = .call { callee := .builtin .append, args := #[s, u], argTypes := #[t, t] }) {v v' r : Value} (hs : A.eval s = v) (hu : A.eval u = v') (hr : (Builtin.append_ #[t, t] o.type #[v, v']).run P x = .ok r x') : (execOp A.eval o).run P x = .ok (.value r) x' := by
  unfold execOp
  simp only [ho, resolve, invoke, builtin, Sem.run_bind, Sem.run_pure, Result.andThen_ok, List.map_toArray, List.map_cons, List.map_nil, hs, hu, hr]
set_option maxHeartbeats 2000000 in
set_option maxRecDepth 100000 in
theorem hcopy_some (w : World) (pw ph : Int) (g o n c : Nat) (S : List Nat) (hS : S.length = n) (hI : UIs w g o S) (h1 : 1 ≤ n) (h2 : n ≤ 1000000) :
    Calls Tryz.prog 16 #[.agg #[.int .i64 pw, .int .i64 ph, .slice (some ⟨g, o, none⟩) n c]] w fun e w' => ∃ v, e = .returned v ∧ ∃ b cap, v = .agg #[.int .i64 pw, .int .i64 ph, .slice (some ⟨b, 0, none⟩) n cap] ∧ n ≤ cap ∧ b < w'.heap.size ∧ Own w w' b S := by
  have HI : Hid (∀ x : World, Q w x → UIs x g o S) := fun x q => hI.next q
  have HN : Hid (S.length = n) := hS
  clear hI hS
  go_enter Tryz.func16, Tryz.ntmps16
  go_wp2_with fail
  have HQ : Hid (Q w ((w.alloc (Obj.cells #[Value.int IntKind.i64 pw, Value.int IntKind.i64 ph, .slice (some ⟨g, o, none⟩) n c] 26)).alloc (Obj.cells #[Value.int IntKind.i64 0, Value.int IntKind.i64 0, Value.slice none 0 0] 26))) := ((Q.refl w).cells _ _).cells _ _
  have c0 : ((w.alloc (Obj.cells #[Value.int IntKind.i64 pw, Value.int IntKind.i64 ph, .slice (some ⟨g, o, none⟩) n c] 26)).alloc (Obj.cells #[Value.int IntKind.i64 0, Value.int IntKind.i64 0, Value.slice none 0 0] 26)).cell? ⟨w.heap.size, 0, none⟩ = some (.int .i64 pw) := by simp [go_sem]
  have c1 : ((w.alloc (Obj.cells #[Value.int IntKind.i64 pw, Value.int IntKind.i64 ph, .slice (some ⟨g, o, none⟩) n c] 26)).alloc (Obj.cells #[Value.int IntKind.i64 0, Value.int IntKind.i64 0, Value.slice none 0 0] 26)).cell? ⟨w.heap.size, 1, none⟩ = some (.int .i64 ph) := by simp [go_sem]
  have c2 : ((w.alloc (Obj.cells #[Value.int IntKind.i64 pw, Value.int IntKind.i64 ph, .slice (some ⟨g, o, none⟩) n c] 26)).alloc (Obj.cells #[Value.int IntKind.i64 0, Value.int IntKind.i64 0, Value.slice none 0 0] 26)).cell? ⟨w.heap.size, 2, none⟩ = some (.slice (some ⟨g, o, none⟩) n c) := by simp [go_sem]
  have d0 : ((w.alloc (Obj.cells #[Value.int IntKind.i64 pw, Value.int IntKind.i64 ph, .slice (some ⟨g, o, none⟩) n c] 26)).alloc (Obj.cells #[Value.int IntKind.i64 0, Value.int IntKind.i64 0, Value.slice none 0 0] 26)).cell? ⟨w.heap.size + 1, 0, none⟩ = some (.int .i64 0) := by simp [go_sem]
  have d1 : ((w.alloc (Obj.cells #[Value.int IntKind.i64 pw, Value.int IntKind.i64 ph, .slice (some ⟨g, o, none⟩) n c] 26)).alloc (Obj.cells #[Value.int IntKind.i64 0, Value.int IntKind.i64 0, Value.slice none 0 0] 26)).cell? ⟨w.heap.size + 1, 1, none⟩ = some (.int .i64 0) := by simp [go_sem]
  have d2 : ((w.alloc (Obj.cells #[Value.int IntKind.i64 pw, Value.int IntKind.i64 ph, .slice (some ⟨g, o, none⟩) n c] 26)).alloc (Obj.cells #[Value.int IntKind.i64 0, Value.int IntKind.i64 0, Value.slice none 0 0] 26)).cell? ⟨w.heap.size + 1, 2, none⟩ = some (.slice none 0 0) := by simp [go_sem]
  have fz : ∀ j, ((w.alloc (Obj.cells #[Value.int IntKind.i64 pw, Value.int IntKind.i64 ph, .slice (some ⟨g, o, none⟩) n c] 26)).alloc (Obj.cells #[Value.int IntKind.i64 0, Value.int IntKind.i64 0, Value.slice none 0 0] 26)).frozen? ⟨w.heap.size + 1, j, none⟩ = false := fun j => by simp [go_sem]
  have hsz : ((w.alloc (Obj.cells #[Value.int IntKind.i64 pw, Value.int IntKind.i64 ph, .slice (some ⟨g, o, none⟩) n c] 26)).alloc (Obj.cells #[Value.int IntKind.i64 0, Value.int IntKind.i64 0, Value.slice none 0 0] 26)).heap.size = w.heap.size + 2 := by simp
  generalize ((w.alloc (Obj.cells #[Value.int IntKind.i64 pw, Value.int IntKind.i64 ph, .slice (some ⟨g, o, none⟩) n c] 26)).alloc (Obj.cells #[Value.int IntKind.i64 0, Value.int IntKind.i64 0, Value.slice none 0 0] 26)) = wz at *
  have n0 := qw_some wz
  have f0 := qw_cell c0
  have f1 := qw_cell c1
  have f2 := qw_cell c2
  refine wp_region_mk [0, 1, 2, 3, 4, 5] [[6, 7, 8]] 3 _ (by kernel_rfl) (by kernel_rfl) rfl (by kernel_rfl) ?_
  simp only [List.filterMap_cons, List.filterMap_nil, List.getElem?_cons_zero, List.getElem?_cons_succ]
  repeat (first | go_big_quiet_step (fail) | quiet_step (fail))
  refine wpQuiet_nil ?_
  intro x hx
  obtain ⟨iu, i1, i2, i3, i4⟩ := uInfoq
  obtain ⟨cap, w7, hr7, hq7, hc1, hc2, hz7, hn7, -, hf7⟩ := run_app_room (P := Tryz.prog) x 24 24 43 iu _ Tryz.underlying24 i1 i4 (by rw [i2]; rfl) (.slice none 0 0) (Or.inl rfl) ⟨g, o, none⟩ n c (S.map fun (s : Nat) => Value.int .u32 (s : Int)) (by rw [List.length_map, HN.out, i2]; omega) (fun j u hu => by
    rw [List.getElem?_map] at hu
    cases hj : S[j]? with
    | none => rw [hj] at hu; cases hu
    | some s =>
      rw [hj] at hu
      have hu := Option.some.inj hu
      have hjl : j < S.length := (List.getElem?_eq_some_iff.1 hj).1
      have := HI.out x (HQ.out.trans hx) j hjl
      rw [List.getD_eq_getElem?_getD, hj] at this
      rw [← hu, show (⟨g, o, none⟩ : Addr).add j = ⟨g, o + j, none⟩ by unfold Addr.add; split <;> simp_all]
      exact this) (by omega) (by omega) (by rw [i3]; omega)
  have hc7 : ∀ i, i < S.length → w7.cell? ⟨x.heap.size, i, none⟩ = some (.int .u32 ((S.getD i 0 : Nat) : Int)) := fun i hi => by
    refine hn7 i _ ?_
    rw [List.getElem?_map, List.getElem?_eq_getElem hi, List.getD_eq_getElem?_getD, List.getElem?_eq_getElem hi]
    rfl
  have hq2 : Q wz w7 := hx.trans hq7
  refine tree_run 6 rfl rfl (v := .slice (some ⟨x.heap.size, 0, none⟩) n cap) (x' := w7) (run_appopq rfl (v := .slice none 0 0) (v' := .slice (some ⟨g, o, none⟩) n c) (by simp [Act.eval, Act.put]) (by simp [Act.eval, Act.put]) hr7) hq2 ?_
  refine tree_run 7 rfl rfl (v := .agg #[.int .i64 pw, .int .i64 ph, .slice (some ⟨x.heap.size, 0, none⟩) n cap]) (x' := w7) (by simp [execOp, go_sem]) hq2 ?_
  have d02 := hq2.cell d0
  have d12 := hq2.cell d1
  have d22 := hq2.cell d2
  have fz2 : ∀ j, w7.frozen? ⟨w.heap.size + 1, j, none⟩ = false := fun j => (hq2.2 _).trans (fz j)
  refine tree_skipF 8 rfl rfl rfl (x' := (((w7.setCell ⟨w.heap.size + 1, 0, none⟩ (.int .i64 pw)).setCell ⟨w.heap.size + 1, 1, none⟩ (.int .i64 ph)).setCell ⟨w.heap.size + 1, 2, none⟩ (.slice (some ⟨x.heap.size, 0, none⟩) n cap))) (by simp [execOp, go_sem, d02, d12, d22, fz2]) ?_
  refine tree_nil ?_
  have HO : Hid (Own w (((w7.setCell ⟨w.heap.size + 1, 0, none⟩ (.int .i64 pw)).setCell ⟨w.heap.size + 1, 1, none⟩ (.int .i64 ph)).setCell ⟨w.heap.size + 1, 2, none⟩ (.slice (some ⟨x.heap.size, 0, none⟩) n cap)) x.heap.size S) := by
    have hlt : w.heap.size + 1 < x.heap.size := by have := hx.1.size; omega
    have hne : ∀ j, (⟨x.heap.size, j, none⟩ : Addr) ≠ ⟨w.heap.size + 1, 0, none⟩ := fun j e => by injection e with e; omega
    refine ⟨(((HQ.out.trans hq2).set (Nat.le_succ _) _).set (Nat.le_succ _) _).set (Nat.le_succ _) _, by omega, fun i hi => ?_, fun j => ?_⟩
    · rw [World.cell?_setCell_other _ _ _ _ (fun e => by injection e with e; omega), World.cell?_setCell_other _ _ _ _ (fun e => by injection e with e; omega), World.cell?_setCell_other _ _ _ _ (fun e => by injection e with e; omega), Nat.zero_add]
      exact hc7 i hi
    · rw [World.frozen?_setCell, World.frozen?_setCell, World.frozen?_setCell]
      exact hf7 j
  have k0 : (((w7.setCell ⟨w.heap.size + 1, 0, none⟩ (.int .i64 pw)).setCell ⟨w.heap.size + 1, 1, none⟩ (.int .i64 ph)).setCell ⟨w.heap.size + 1, 2, none⟩ (.slice (some ⟨x.heap.size, 0, none⟩) n cap)).cell? ⟨w.heap.size + 1, 0, none⟩ = some (.int .i64 pw) := by simp [go_sem, d02, d12, d22]
  have k1 : (((w7.setCell ⟨w.heap.size + 1, 0, none⟩ (.int .i64 pw)).setCell ⟨w.heap.size + 1, 1, none⟩ (.int .i64 ph)).setCell ⟨w.heap.size + 1, 2, none⟩ (.slice (some ⟨x.heap.size, 0, none⟩) n cap)).cell? ⟨w.heap.size + 1, 1, none⟩ = some (.int .i64 ph) := by simp [go_sem, d02, d12, d22]
  have k2 : (((w7.setCell ⟨w.heap.size + 1, 0, none⟩ (.int .i64 pw)).setCell ⟨w.heap.size + 1, 1, none⟩ (.int .i64 ph)).setCell ⟨w.heap.size + 1, 2, none⟩ (.slice (some ⟨x.heap.size, 0, none⟩) n cap)).cell? ⟨w.heap.size + 1, 2, none⟩ = some (.slice (some ⟨x.heap.size, 0, none⟩) n cap) := by simp [go_sem, d02, d12, d22]
  generalize (((w7.setCell ⟨w.heap.size + 1, 0, none⟩ (.int .i64 pw)).setCell ⟨w.heap.size + 1, 1, none⟩ (.int .i64 ph)).setCell ⟨w.heap.size + 1, 2, none⟩ (.slice (some ⟨x.heap.size, 0, none⟩) n cap)) = w5 at *
  clear d02 d12 d22 fz2 hq2 hx c0 c1 c2 d0 d1 d2 fz hr7 hq7
  go_wp2_with fail
  have hb5 : x.heap.size < w5.heap.size := World.block_lt_of_cell? _ _ (HO.out.cells 0 (by rw [HN.out]; omega))
  exact bodyPost_ret (v := .agg #[.int .i64 pw, .int .i64 ph, .slice (some ⟨x.heap.size, 0, none⟩) n cap]) (by simp [results, Tryz.results16, go_sem, k0, k1, k2]) rfl ⟨_, rfl, x.heap.size, cap, rfl, hc1, hb5, HO.out⟩
theorem run_app_none (x : World) (ad : Option Addr) (c : Nat) : ∃ w7, (Builtin.append_ #[24, 24] 24 #[.slice none 0 0, .slice ad 0 c]).run Tryz.prog x = .ok (.slice none 0 0) w7 ∧ Q x w7 := by
  refine ⟨x, ?_, Q.refl x⟩
  cases ad <;> simp [Builtin.append_, go_sem]
set_option maxHeartbeats 2000000 in
set_option maxRecDepth 100000 in
theorem hcopy_none (w : World) (pw ph : Int) (ad : Option Addr) (c : Nat) :
    Calls Tryz.prog 16 #[.agg #[.int .i64 pw, .int .i64 ph, .slice ad 0 c]] w fun e w' => ∃ v, e = .returned v ∧ v = .agg #[.int .i64 pw, .int .i64 ph, .slice none 0 0] ∧ Q w w' := by
  go_enter Tryz.func16, Tryz.ntmps16
  go_wp2_with fail
  have HQ : Hid (Q w ((w.alloc (Obj.cells #[Value.int IntKind.i64 pw, Value.int IntKind.i64 ph, .slice ad 0 c] 26)).alloc (Obj.cells #[Value.int IntKind.i64 0, Value.int IntKind.i64 0, Value.slice none 0 0] 26))) := ((Q.refl w).cells _ _).cells _ _
  have c0 : ((w.alloc (Obj.cells #[Value.int IntKind.i64 pw, Value.int IntKind.i64 ph, .slice ad 0 c] 26)).alloc (Obj.cells #[Value.int IntKind.i64 0, Value.int IntKind.i64 0, Value.slice none 0 0] 26)).cell? ⟨w.heap.size, 0, none⟩ = some (.int .i64 pw) := by simp [go_sem]
  have c1 : ((w.alloc (Obj.cells #[Value.int IntKind.i64 pw, Value.int IntKind.i64 ph, .slice ad 0 c] 26)).alloc (Obj.cells #[Value.int IntKind.i64 0, Value.int IntKind.i64 0, Value.slice none 0 0] 26)).cell? ⟨w.heap.size, 1, none⟩ = some (.int .i64 ph) := by simp [go_sem]
  have c2 : ((w.alloc (Obj.cells #[Value.int IntKind.i64 pw, Value.int IntKind.i64 ph, .slice ad 0 c] 26)).alloc (Obj.cells #[Value.int IntKind.i64 0, Value.int IntKind.i64 0, Value.slice none 0 0] 26)).cell? ⟨w.heap.size, 2, none⟩ = some (.slice ad 0 c) := by simp [go_sem]
  have d0 : ((w.alloc (Obj.cells #[Value.int IntKind.i64 pw, Value.int IntKind.i64 ph, .slice ad 0 c] 26)).alloc (Obj.cells #[Value.int IntKind.i64 0, Value.int IntKind.i64 0, Value.slice none 0 0] 26)).cell? ⟨w.heap.size + 1, 0, none⟩ = some (.int .i64 0) := by simp [go_sem]
  have d1 : ((w.alloc (Obj.cells #[Value.int IntKind.i64 pw, Value.int IntKind.i64 ph, .slice ad 0 c] 26)).alloc (Obj.cells #[Value.int IntKind.i64 0, Value.int IntKind.i64 0, Value.slice none 0 0] 26)).cell? ⟨w.heap.size + 1, 1, none⟩ = some (.int .i64 0) := by simp [go_sem]
  have d2 : ((w.alloc (Obj.cells #[Value.int IntKind.i64 pw, Value.int IntKind.i64 ph, .slice ad 0 c] 26)).alloc (Obj.cells #[Value.int IntKind.i64 0, Value.int IntKind.i64 0, Value.slice none 0 0] 26)).cell? ⟨w.heap.size + 1, 2, none⟩ = some (.slice none 0 0) := by simp [go_sem]
  have fz : ∀ j, ((w.alloc (Obj.cells #[Value.int IntKind.i64 pw, Value.int IntKind.i64 ph, .slice ad 0 c] 26)).alloc (Obj.cells #[Value.int IntKind.i64 0, Value.int IntKind.i64 0, Value.slice none 0 0] 26)).frozen? ⟨w.heap.size + 1, j, none⟩ = false := fun j => by simp [go_sem]
  have hsz : ((w.alloc (Obj.cells #[Value.int IntKind.i64 pw, Value.int IntKind.i64 ph, .slice ad 0 c] 26)).alloc (Obj.cells #[Value.int IntKind.i64 0, Value.int IntKind.i64 0, Value.slice none 0 0] 26)).heap.size = w.heap.size + 2 := by simp
  generalize ((w.alloc (Obj.cells #[Value.int IntKind.i64 pw, Value.int IntKind.i64 ph, .slice ad 0 c] 26)).alloc (Obj.cells #[Value.int IntKind.i64 0, Value.int IntKind.i64 0, Value.slice none 0 0] 26)) = wz at *
  have n0 := qw_some wz
  have f0 := qw_cell c0
  have f1 := qw_cell c1
  have f2 := qw_cell c2
  refine wp_region_mk [0, 1, 2, 3, 4, 5] [[6, 7, 8]] 3 _ (by kernel_rfl) (by kernel_rfl) rfl (by kernel_rfl) ?_
  simp only [List.filterMap_cons, List.filterMap_nil, List.getElem?_cons_zero, List.getElem?_cons_succ]
  repeat (first | go_big_quiet_step (fail) | quiet_step (fail))
  refine wpQuiet_nil ?_
  intro x hx
  obtain ⟨iu, i1, i2, i3, i4⟩ := uInfoq
  obtain ⟨w7, hr7, hq7⟩ : ∃ w7, (Builtin.append_ #[24, 24] 24 #[.slice none 0 0, .slice ad 0 c]).run Tryz.prog x = .ok (.slice none 0 0) w7 ∧ Q x w7 := run_app_none x ad c
  have hq2 : Q wz w7 := hx.trans hq7
  refine tree_run 6 rfl rfl (v := .slice none 0 0) (x' := w7) (run_appopq rfl (v := .slice none 0 0) (v' := .slice ad 0 c) (by simp [Act.eval, Act.put]) (by simp [Act.eval, Act.put]) hr7) hq2 ?_
  refine tree_run 7 rfl rfl (v := .agg #[.int .i64 pw, .int .i64 ph, .slice none 0 0]) (x' := w7) (by simp [execOp, go_sem]) hq2 ?_
  have d02 := hq2.cell d0
  have d12 := hq2.cell d1
  have d22 := hq2.cell d2
  have fz2 : ∀ j, w7.frozen? ⟨w.heap.size + 1, j, none⟩ = false := fun j => (hq2.2 _).trans (fz j)
  refine tree_skipF 8 rfl rfl rfl (x' := (((w7.setCell ⟨w.heap.size + 1, 0, none⟩ (.int .i64 pw)).setCell ⟨w.heap.size + 1, 1, none⟩ (.int .i64 ph)).setCell ⟨w.heap.size + 1, 2, none⟩ (.slice none 0 0))) (by simp [execOp, go_sem, d02, d12, d22, fz2]) ?_
  refine tree_nil ?_
  have HO : Hid (Q w (((w7.setCell ⟨w.heap.size + 1, 0, none⟩ (.int .i64 pw)).setCell ⟨w.heap.size + 1, 1, none⟩ (.int .i64 ph)).setCell ⟨w.heap.size + 1, 2, none⟩ (.slice none 0 0))) := by
    exact (((HQ.out.trans hq2).set (Nat.le_succ _) _).set (Nat.le_succ _) _).set (Nat.le_succ _) _
  have k0 : (((w7.setCell ⟨w.heap.size + 1, 0, none⟩ (.int .i64 pw)).setCell ⟨w.heap.size + 1, 1, none⟩ (.int .i64 ph)).setCell ⟨w.heap.size + 1, 2, none⟩ (.slice none 0 0)).cell? ⟨w.heap.size + 1, 0, none⟩ = some (.int .i64 pw) := by simp [go_sem, d02, d12, d22]
  have k1 : (((w7.setCell ⟨w.heap.size + 1, 0, none⟩ (.int .i64 pw)).setCell ⟨w.heap.size + 1, 1, none⟩ (.int .i64 ph)).setCell ⟨w.heap.size + 1, 2, none⟩ (.slice none 0 0)).cell? ⟨w.heap.size + 1, 1, none⟩ = some (.int .i64 ph) := by simp [go_sem, d02, d12, d22]
  have k2 : (((w7.setCell ⟨w.heap.size + 1, 0, none⟩ (.int .i64 pw)).setCell ⟨w.heap.size + 1, 1, none⟩ (.int .i64 ph)).setCell ⟨w.heap.size + 1, 2, none⟩ (.slice none 0 0)).cell? ⟨w.heap.size + 1, 2, none⟩ = some (.slice none 0 0) := by simp [go_sem, d02, d12, d22]
  generalize (((w7.setCell ⟨w.heap.size + 1, 0, none⟩ (.int .i64 pw)).setCell ⟨w.heap.size + 1, 1, none⟩ (.int .i64 ph)).setCell ⟨w.heap.size + 1, 2, none⟩ (.slice none 0 0)) = w5 at *
  clear d02 d12 d22 fz2 hq2 hx c0 c1 c2 d0 d1 d2 fz hr7 hq7
  go_wp2_with fail
  exact bodyPost_ret (v := .agg #[.int .i64 pw, .int .i64 ph, .slice none 0 0]) (by simp [results, Tryz.results16, go_sem, k0, k1, k2]) rfl ⟨_, rfl, rfl, HO.out⟩
end Go.Proofs.YtieojgblamkgoaaGreatDoor
/- Lists of samples that are the same. -/
namespace Go.Proofs.YtieojgblamkgoaaGreatDoor
open Go.RowKit
set_option linter.unusedVariables false
set_option linter.unusedSimpArgs false

set_option maxHeartbeats 4000000 in
set_option maxRecDepth 100000 in
theorem words_eq (v v' : Value) (xs : List Nat) (w : World) (h : USl w v xs) (h' : USl w v' xs) (hn : xs.length ≤ 9223372036854775807) :
    Calls Tryz.prog 26 #[v, v'] w fun e w' => e = .returned (.bool true) ∧ Q w w' := by
  obtain ⟨a, cap, ev⟩ := h.form
  obtain ⟨a', cap', ev'⟩ := h'.form
  subst ev ev'
  have HS : Hid (USl w (.slice a xs.length cap) xs) := h
  have HT : Hid (USl w (.slice a' xs.length cap') xs) := h'
  obtain ⟨n, en⟩ : ∃ n, xs.length = n := ⟨_, rfl⟩
  have HN : Hid (xs.length = n) := en
  rw [en] at HS HT hn ⊢
  have hnn : ((n : Int) == (n : Int)) = true := by simp
  clear h h' en
  go_enter Tryz.func26, Tryz.ntmps26
  go_wp2_with fail
  go_loopg [5] n (fun m s5 wx => ∃ i : Nat, s5 = .int .i64 i ∧ i + m = n ∧ Hid (Q w wx))
  case atStart => exact ⟨0, rfl, by omega, Q.refl w⟩
  case round =>
    obtain ⟨i, rfl, him, HQ⟩ := hrel
    by_cases hi : i < n
    · have hi0 : (0 : Int) ≤ (i : Int) := by omega
      have hi1 : (i : Int) < (n : Int) := by omega
      obtain ⟨g, o, c, e1, e2, e3⟩ := HS.out.some (by rw [HN.out]; omega)
      obtain ⟨g', o', c', f1, f2, f3⟩ := HT.out.some (by rw [HN.out]; omega)
      injection e1 with e1 hh1 hh2
      clear hh1 hh2
      injection f1 with f1 hh1 hh2
      clear hh1 hh2
      subst e1 f1
      have c1 := HQ.out.cell (e3 i (by rw [HN.out]; exact hi))
      have c2 := HQ.out.cell (f3 i (by rw [HN.out]; exact hi))
      obtain ⟨z, hz⟩ : ∃ z, xs.getD i 0 = z := ⟨_, rfl⟩
      rw [hz] at c1 c2
      have hzz : ((z : Int) == (z : Int)) = true := by simp
      have n0 := qw_some wr
      have d1 := qw_cell c1
      have d2 := qw_cell c2
      clear hz e2 e3 f2 f3
      go_wp2_with fail
      refine wp_region_quiet_Q (by kernel_rfl) (by kernel_rfl) ?_
      repeat (first | go_big_quiet_step (fail) | quiet_step (fail))
      refine wpQuiet_nil ?_
      intro w4 hw'
      have hq4 := qw_out hw'
      have HQ4 : Hid (Q w w4) := HQ.out.trans hq4
      clear hw' n0 d1 d2
      go_wp2_with fail
      go_roundg (n - (i + 1))
      case measure => go_light; omega
      case rel => go_light; exact ⟨i + 1, by go_num, by omega, HQ4⟩
    · have hie : i = n := by omega
      go_wp2_with fail
      go_ret
      exact ⟨rfl, HQ.out⟩
end Go.Proofs.YtieojgblamkgoaaGreatDoor
/- Planes that are the same. -/
namespace Go.Proofs.YtieojgblamkgoaaGreatDoor
open Go.RowKit
set_option linter.unusedVariables false
set_option linter.unusedSimpArgs false

set_option maxHeartbeats 2000000 in
set_option maxRecDepth 100000 in
theorem hplanes_yes (a b : Int) (p q : Option Addr) (n c d : Nat) (S : List Nat) (w : World) (h : USl w (.slice p n c) S) (h' : USl w (.slice q n d) S) (hn : S.length ≤ 9223372036854775807) :
    Calls Tryz.prog 19 #[.agg #[.int .i64 a, .int .i64 b, .slice p n c], .agg #[.int .i64 a, .int .i64 b, .slice q n d]] w fun e w' => e = .returned (.bool true) ∧ Q w w' := by
  have H1 : Hid (USl w (.slice p n c) S) := h
  have H2 : Hid (USl w (.slice q n d) S) := h'
  clear h h'
  have qa : Hid (∀ a b c d, Q w ((w.alloc (.cells a b)).alloc (.cells c d))) := fun a b c d => ((Q.refl w).cells _ _).cells _ _
  go_enter Tryz.func19, Tryz.ntmps19
  go_wp2_with fail
  refine (words_eq _ _ S _ (H1.out.next (qa.out _ _ _ _)) (H2.out.next (qa.out _ _ _ _)) hn).mono ?_
  rintro e w1 ⟨rfl, q1⟩
  go_wp2_with fail
  go_ret
  exact ⟨rfl, (qa.out _ _ _ _).trans q1⟩
end Go.Proofs.YtieojgblamkgoaaGreatDoor
/- The statements' helpers: sizes, planes that may be. (Out of BlL.) -/
namespace Go.Proofs.YtieojgblamkgoaaGreatDoor
open Go.RowKit
set_option linter.unusedVariables false
set_option linter.unusedSimpArgs false

set_option maxHeartbeats 2000000 in
set_option maxRecDepth 100000 in
theorem hsize_b (W H : Int) (w : World) : Calls Tryz.prog 58 #[.int .i64 W, .int .i64 H] w fun e w' => e = .returned (.bool (sizeB W H)) ∧ w' = w := by
  have E : Hid (sizeB W H = true ↔ SizeB W H) := sizeB_true
  have EF : Hid (¬ SizeB W H → sizeB W H = false) := fun h => by
    cases g : sizeB W H
    · rfl
    · exact absurd (sizeB_true.1 g) h
  generalize sizeB W H = b at *
  rcases Int.lt_or_le W 1 with h0 | h0
  · obtain rfl : b = false := EF.out (fun c => by unfold SizeB at c; omega)
    clear E EF
    go_enter Tryz.func58, Tryz.ntmps58
    go_wp2_with fail
    exact bodyPost_ret (v := .bool false) (by simp [results, Tryz.results58, go_sem] <;> omega) rfl ⟨rfl, rfl⟩
  rcases Int.lt_or_le H 1 with h1 | h1
  · obtain rfl : b = false := EF.out (fun c => by unfold SizeB at c; omega)
    clear E EF
    go_enter Tryz.func58, Tryz.ntmps58
    go_wp2_with fail
    exact bodyPost_ret (v := .bool false) (by simp [results, Tryz.results58, go_sem] <;> omega) rfl ⟨rfl, rfl⟩
  rcases Int.lt_or_le 1024 W with h2 | h2
  · obtain rfl : b = false := EF.out (fun c => by unfold SizeB at c; omega)
    clear E EF
    go_enter Tryz.func58, Tryz.ntmps58
    go_wp2_with fail
    exact bodyPost_ret (v := .bool false) (by simp [results, Tryz.results58, go_sem] <;> omega) rfl ⟨rfl, rfl⟩
  rcases Int.lt_or_le 1024 H with h3 | h3
  · obtain rfl : b = false := EF.out (fun c => by unfold SizeB at c; omega)
    clear E EF
    go_enter Tryz.func58, Tryz.ntmps58
    go_wp2_with fail
    exact bodyPost_ret (v := .bool false) (by simp [results, Tryz.results58, go_sem] <;> omega) rfl ⟨rfl, rfl⟩
  have hb1 : 0 ≤ W * H := Int.mul_nonneg (by omega) (by omega)
  have hb2 : W * H ≤ 1048576 := Int.le_trans (Int.mul_le_mul h2 h3 (by omega) (by omega)) (by decide)
  rcases Int.lt_or_le 65536 (W * H) with h4 | h4
  · obtain rfl : b = false := EF.out (fun c => by unfold SizeB at c; omega)
    clear E EF
    go_enter Tryz.func58, Tryz.ntmps58
    go_wp2_with fail
    exact bodyPost_ret (v := .bool false) (by simp [results, Tryz.results58, go_sem] <;> omega) rfl ⟨rfl, rfl⟩
  · obtain rfl : b = true := E.out.2 (by unfold SizeB; omega)
    clear E EF
    go_enter Tryz.func58, Tryz.ntmps58
    go_wp2_with fail
    exact bodyPost_ret (v := .bool true) (by simp [results, Tryz.results58, go_sem] <;> omega) rfl ⟨rfl, rfl⟩
set_option maxHeartbeats 2000000 in
set_option maxRecDepth 100000 in
theorem may_any (W H : Int) (ad : Option Addr) (n c : Nat) (w : World) : Calls Tryz.prog 20 #[.agg #[.int .i64 W, .int .i64 H, .slice ad n c]] w fun e w' => e = .returned (.int .i64 (chk W H n)) ∧ Q w w' := by
  obtain ⟨w1, hw1⟩ : ∃ w1, w.alloc (.cells #[.int .i64 W, .int .i64 H, .slice ad n c] 26) = w1 := ⟨_, rfl⟩
  have HQ : Hid (Q w w1) := by show Q w w1; rw [← hw1]; exact (Q.refl w).cells _ _
  have k0 : w1.cell? ⟨w.heap.size, 0, none⟩ = some (.int .i64 W) := by rw [← hw1]; simp [go_sem]
  have k1 : w1.cell? ⟨w.heap.size, 1, none⟩ = some (.int .i64 H) := by rw [← hw1]; simp [go_sem]
  have k2 : w1.cell? ⟨w.heap.size, 2, none⟩ = some (.slice ad n c) := by rw [← hw1]; simp [go_sem]
  have C := hsize_b W H w1
  cases hs : sizeB W H
  · rw [hs] at C
    rw [chk_bad hs]
    go_enter Tryz.func20, Tryz.ntmps20
    go_wp2_with fail
    refine C.mono ?_
    rintro e w2 ⟨rfl, hw2⟩
    obtain rfl := hw2.symm
    clear hw2 C
    go_wp2_with fail
    go_ret
    exact ⟨rfl, HQ.out⟩
  · rw [hs] at C
    have hb := sizeB_true.1 hs
    have hb1 : 0 ≤ W * H := Int.mul_nonneg (by unfold SizeB at hb; omega) (by unfold SizeB at hb; omega)
    have hb2 : W * H ≤ 65536 := by unfold SizeB at hb; omega
    by_cases hn : (n : Int) = W * H
    · rw [chk_ok hs hn]
      have e1 : ((n : Int) != W * H) = false := by simpa using hn
      clear hn hb hs
      go_enter Tryz.func20, Tryz.ntmps20
      go_wp2_with fail
      refine C.mono ?_
      rintro e w2 ⟨rfl, hw2⟩
      obtain rfl := hw2.symm
      clear hw2 C
      go_wp2_with fail
      go_ret
      exact ⟨rfl, HQ.out⟩
    · rw [chk_count hs hn]
      have e1 : ((n : Int) != W * H) = true := by simpa using hn
      clear hn hb hs
      go_enter Tryz.func20, Tryz.ntmps20
      go_wp2_with fail
      refine C.mono ?_
      rintro e w2 ⟨rfl, hw2⟩
      obtain rfl := hw2.symm
      clear hw2 C
      go_wp2_with fail
      go_ret
      exact ⟨rfl, HQ.out⟩
end Go.Proofs.YtieojgblamkgoaaGreatDoor
/- The statement StatRanks: its walk. -/
namespace Go.Proofs.YtieojgblamkgoaaGreatDoor
open Go.RowKit
set_option linter.unusedVariables false
set_option linter.unusedSimpArgs false

/-- A copy, empty or not. -/
theorem hcopy_al2 (w : World) (pw ph : Int) (ad : Option Addr) (n c : Nat) (S : List Nat) (hS : S.length = n) (hU : USl w (.slice ad n c) S) (h2 : n ≤ 1000000) :
    Calls Tryz.prog 16 #[.agg #[.int .i64 pw, .int .i64 ph, .slice ad n c]] w fun e w' => ∃ ad' c', e = .returned (.agg #[.int .i64 pw, .int .i64 ph, .slice ad' n c']) ∧ USl w' (.slice ad' n c') S ∧ Q w w' := by
  rcases Nat.lt_or_ge 0 n with h1 | h1
  · obtain ⟨g, o, cap, hv, hc, hI⟩ := hU.some (by omega)
    injection hv with hv1 _ _
    subst hv1
    refine (hcopy_some w pw ph g o n c S hS hI h1 h2).mono ?_
    rintro e w' ⟨v, rfl, b, cap', rfl, hc', hb, hO⟩
    refine ⟨_, _, rfl, ?_, hO.q⟩
    have := hO.cells.usl (cap := cap') (by omega)
    rw [hS] at this
    exact this
  · obtain rfl : n = 0 := by omega
    obtain rfl : S = [] := List.length_eq_zero_iff.1 hS
    refine (hcopy_none w pw ph ad c).mono ?_
    rintro e w' ⟨v, rfl, rfl, q⟩
    exact ⟨_, _, rfl, Or.inr ⟨_, _, rfl, rfl⟩, q⟩
theorem srk_bad {E : Int} (h : E ≠ 0) (S : List Nat) (k : Int) : srkV E S k = (0, E) := if_pos h
theorem ssh_bad {E : Int} (h : E ≠ 0) (S : List Nat) (a b : Int) : sshV E S a b = (0, E) := if_pos h
set_option maxHeartbeats 8000000 in
set_option maxRecDepth 100000 in
theorem sranks_walk (W0 : World) (pw ph k num den : Int) (sv : Value) (S : List Nat) (us : USl W0 sv S) (hSb : ∀ i, S.getD i 0 < 4294967296) (hml : S.length ≤ 9223372036854775807) (hT : Tab W0) :
    Calls Tryz.prog 4 #[.agg #[.int .i64 pw, .int .i64 ph, sv], .int .i64 k, .int .i64 num, .int .i64 den] W0 fun e w' => e = .returned (.bool true) ∧ Qb W0 w' := by
  obtain ⟨ad, c, rfl⟩ := us.form
  obtain ⟨n, hn⟩ : ∃ n, S.length = n := ⟨_, rfl⟩
  rw [hn] at us hml ⊢
  obtain ⟨w1, hw1⟩ : ∃ w1, W0.alloc (.cells #[.int .i64 pw, .int .i64 ph, .slice ad n c] 26) = w1 := ⟨_, rfl⟩
  have q1 : Q W0 w1 := by rw [← hw1]; exact (Q.refl W0).cells _ _
  have p0 : w1.cell? ⟨W0.heap.size, 0, none⟩ = some (.int .i64 pw) := by rw [← hw1]; simp [go_sem]
  have p1 : w1.cell? ⟨W0.heap.size, 1, none⟩ = some (.int .i64 ph) := by rw [← hw1]; simp [go_sem]
  have p2 : w1.cell? ⟨W0.heap.size, 2, none⟩ = some (.slice ad n c) := by rw [← hw1]; simp [go_sem]
  have HK : Hid (Calls Tryz.prog 9 #[] w1 fun e w' => e = .returned (.bool true) ∧ Qb w1 w') := known16_any w1 (q1.tab hT)
  have HCy : Hid _ := fun x u h2 => hcopy_al2 x pw ph ad n c S hn u h2
  have HPl : Hid _ := fun ad' c' x u u' => hplanes_yes pw ph ad' ad n c' c S x u u' (by omega)
  obtain ⟨E, hE⟩ : ∃ E, chk pw ph n = E := ⟨_, rfl⟩
  have mr0 := fun ad' c' x u => srank_any pw ph ad' n c' S k x u hn hSb hml
  have ms0 := fun ad' c' x u => sshare_any pw ph ad' n c' S num den x u hn hSb hml
  have mm0 := fun x => may_any pw ph ad n c x
  simp only [hE] at mr0 ms0 mm0
  have HMr : Hid _ := mr0
  have HMs : Hid _ := ms0
  have HMm : Hid _ := mm0
  clear mr0 ms0 mm0
  have HZ : Hid (E = 0 → 1 ≤ S.length) := fun h => by
    obtain ⟨a, b, _, _, hs, he⟩ := chk_zero (hE.trans h)
    have := hs.pos
    omega
  have HDr : Hid _ := fun v x u h2 => s16rank_any v S k x u hSb h2
  have HDs : Hid _ := fun v x u h2 h1 => s16share_any v S num den x u hSb h2 h1
  have HU : Hid (USl w1 (.slice ad n c) S) := us.next q1
  have HQ1 : Hid (Qb W0 w1) := q1.qb
  have HN : Hid (S.length = n) := hn
  clear us q1 hE hT hSb hml hn
  obtain ⟨bp, hbp⟩ : ∃ bp, W0.heap.size = bp := ⟨_, rfl⟩
  rw [hbp] at p0 p1 p2
  go_enter Tryz.func4, Tryz.ntmps4
  go_wp2_with fail
  clear hw1 hbp
  refine Calls.mono HK.out ?_
  rintro e w2 ⟨rfl, q2⟩
  have p0 := q2.cell p0
  have p1 := q2.cell p1
  have p2 := q2.cell p2
  have HQ2 : Hid (Qb W0 w2) := HQ1.out.trans q2
  have HU2 : Hid (USl w2 (.slice ad n c) S) := HU.out.nextB q2
  clear q2 HQ1 HU HK
  by_cases h6 : (600 : Int) < (n : Int)
  · go_wp2_with fail
    go_ret
    exact ⟨rfl, HQ2.out⟩
  have hn6 : n ≤ 600 := by omega
  go_wp2_with fail
  refine Calls.mono (HCy.out _ HU2.out (by omega)) ?_
  rintro e w3 ⟨ad3, c3, rfl, u3, q3⟩
  obtain ⟨w4, hw4⟩ : ∃ w4, w3.alloc (.cells #[.int .i64 pw, .int .i64 ph, .slice ad3 n c3] 26) = w4 := ⟨_, rfl⟩
  have q34 : Q w3 w4 := by rw [← hw4]; exact (Q.refl w3).cells _ _
  have q24 : Q w2 w4 := q3.trans q34
  have i0 : w4.cell? ⟨w3.heap.size, 0, none⟩ = some (.int .i64 pw) := by rw [← hw4]; simp [go_sem]
  have i1 : w4.cell? ⟨w3.heap.size, 1, none⟩ = some (.int .i64 ph) := by rw [← hw4]; simp [go_sem]
  have i2 : w4.cell? ⟨w3.heap.size, 2, none⟩ = some (.slice ad3 n c3) := by rw [← hw4]; simp [go_sem]
  have HI4 : Hid (USl w4 (.slice ad3 n c3) S) := u3.next q34
  have HU4 : Hid (USl w4 (.slice ad n c) S) := HU2.out.next q24
  have HQ4 : Hid (Qb W0 w4) := HQ2.out.trans q24.qb
  have p0 := q24.cell p0
  have p1 := q24.cell p1
  have p2 := q24.cell p2
  clear q3 q34 q24 u3 HU2 HQ2
  go_wp2_with fail
  clear hw4
  generalize w3.heap.size = bi at *
  refine Calls.mono (HMr.out _ _ _ HI4.out) ?_
  rintro e w5 ⟨rfl, q5⟩
  have i0 := q5.cell i0
  have i1 := q5.cell i1
  have i2 := q5.cell i2
  have p0 := q5.cell p0
  have p1 := q5.cell p1
  have p2 := q5.cell p2
  have HI5 : Hid (USl w5 (.slice ad3 n c3) S) := HI4.out.nextB q5
  have HU5 : Hid (USl w5 (.slice ad n c) S) := HU4.out.nextB q5
  have HQ5 : Hid (Qb W0 w5) := HQ4.out.trans q5
  clear q5 HI4 HU4 HQ4
  go_wp2_with fail
  refine Calls.mono (HMs.out _ _ _ HI5.out) ?_
  rintro e w6 ⟨rfl, q6⟩
  have i0 := q6.cell i0
  have i1 := q6.cell i1
  have i2 := q6.cell i2
  have p0 := q6.cell p0
  have p1 := q6.cell p1
  have p2 := q6.cell p2
  have HI6 : Hid (USl w6 (.slice ad3 n c3) S) := HI5.out.nextB q6
  have HU6 : Hid (USl w6 (.slice ad n c) S) := HU5.out.nextB q6
  have HQ6 : Hid (Qb W0 w6) := HQ5.out.trans q6
  clear q6 HI5 HU5 HQ5
  go_wp2_with fail
  refine Calls.mono (HPl.out _ _ _ HI6.out HU6.out) ?_
  rintro e w7 ⟨rfl, q7⟩
  have p0 := q7.cell p0
  have p1 := q7.cell p1
  have p2 := q7.cell p2
  have HU7 : Hid (USl w7 (.slice ad n c) S) := HU6.out.next q7
  have HQ7 : Hid (Qb W0 w7) := HQ6.out.trans q7.qb
  clear q7 HI6 HU6 HQ6 i0 i1 i2
  go_wp2_with fail
  refine Calls.mono (HMm.out _) ?_
  rintro e w8 ⟨rfl, q8⟩
  have p0 := q8.cell p0
  have p1 := q8.cell p1
  have p2 := q8.cell p2
  have HU8 : Hid (USl w8 (.slice ad n c) S) := HU7.out.next q8
  have HQ8 : Hid (Qb W0 w8) := HQ7.out.trans q8.qb
  clear q8 HU7 HQ7
  by_cases hE : E = 0
  · subst hE
    have HZ1 : Hid (1 ≤ S.length) := HZ.out rfl
    have HDr1 : Hid _ := HDr.out (.slice ad n c) w8 HU8.out (by have := HN.out; omega)
    have HDs1 : Hid (∀ x, Q w8 x → Calls Tryz.prog 22 #[.slice ad n c, .int .i64 num, .int .i64 den] x fun e w' => e = .returned (.tuple #[.int .u32 ((sshV 0 S num den).1 : Nat), .int .i64 (sshV 0 S num den).2]) ∧ Q x w') := fun x q => HDs.out (.slice ad n c) x (HU8.out.next q) (by have := HN.out; omega) HZ1.out
    generalize (srkV 0 S k).1 = v1 at *
    generalize (srkV 0 S k).2 = v2 at *
    generalize (sshV 0 S num den).1 = v3 at *
    generalize (sshV 0 S num den).2 = v4 at *
    clear HMr HMs HMm HDr HDs HZ
    go_wp2_with fail
    refine Calls.mono HDr1.out ?_
    rintro e w9 ⟨rfl, q9⟩
    have p0 := q9.cell p0
    have p1 := q9.cell p1
    have p2 := q9.cell p2
    go_wp2_with fail
    refine Calls.mono (HDs1.out _ q9) ?_
    rintro e w10 ⟨rfl, q10⟩
    have HQ10 : Hid (Qb W0 w10) := HQ8.out.trans (q9.trans q10).qb
    clear q9 q10 HDr1 HDs1 HQ8
    go_wp2_with fail
    go_ret
    exact ⟨by simp, HQ10.out⟩
  · rw [srk_bad hE, ssh_bad hE] at *
    have hne : (E != 0) = true := by simpa using hE
    clear HDr HDs HZ hE
    go_wp2_with fail
    refine Calls.mono (HMm.out _) ?_
    rintro e w9 ⟨rfl, q9⟩
    have HQ9 : Hid (Qb W0 w9) := HQ8.out.trans q9.qb
    clear q9 HQ8
    go_wp2_with fail
    go_ret
    exact ⟨by simp, HQ9.out⟩
end Go.Proofs.YtieojgblamkgoaaGreatDoor
/- The statement StatLevels: its walk. -/
namespace Go.Proofs.YtieojgblamkgoaaGreatDoor
open Go.RowKit
set_option linter.unusedVariables false
set_option linter.unusedSimpArgs false

theorem lvl_usl {w : World} {b g n : Nat} {S : List Nat} (hn : S.length = n) (h : VR w g n (fun i => .int .u32 ((lvlV b S (S.getD i 0) : Nat) : Int))) : USl w (.slice (some ⟨g, 0, none⟩) n n) (lvlL b S) := by
  subst hn
  have hI : UIs w g 0 (lvlL b S) := fun i hi => by
    rw [lvlL_len] at hi
    rw [Nat.zero_add, h.cell i hi, lvlL_get hi]
  have := hI.usl (cap := S.length) (by rw [lvlL_len]; exact Nat.le_refl _)
  rw [lvlL_len] at this
  exact this
theorem usl_lt {w : World} {ad : Option Addr} {n c : Nat} {S : List Nat} (h : USl w (.slice ad n c) S) (hS : S.length = n) (h0 : 1 ≤ n) {g o : Nat} (e : ad = some ⟨g, o, none⟩) : g < w.heap.size := by
  subst e
  rw [← hS] at h
  exact h.block (by omega) rfl
theorem Qb.trans' {a b c : World} {G : Nat} (h : Qb a b) (f : Fb G b c) (hG : a.heap.size ≤ G) : Qb a c :=
  ⟨f.os.trans h.os, f.tape.trans h.tape, f.output.trans h.output, Nat.le_trans h.sz f.size, fun k hk => (f.block k (Nat.lt_of_lt_of_le hk h.sz) (by omega)).trans (h.block k hk)⟩
set_option maxHeartbeats 8000000 in
set_option maxRecDepth 100000 in
theorem slevels_walk (W0 : World) (pw ph b : Int) (sv : Value) (S : List Nat) (us : USl W0 sv S) (hSb : ∀ i, S.getD i 0 < 4294967296) (hml : S.length ≤ 9223372036854775807) (hT : Tab W0) :
    Calls Tryz.prog 5 #[.agg #[.int .i64 pw, .int .i64 ph, sv], .int .i64 b] W0 fun e w' => e = .returned (.bool true) ∧ Qb W0 w' := by
  obtain ⟨ad, c, rfl⟩ := us.form
  obtain ⟨n, hn⟩ : ∃ n, S.length = n := ⟨_, rfl⟩
  rw [hn] at us hml ⊢
  obtain ⟨w1, hw1⟩ : ∃ w1, W0.alloc (.cells #[.int .i64 pw, .int .i64 ph, .slice ad n c] 26) = w1 := ⟨_, rfl⟩
  have q1 : Q W0 w1 := by rw [← hw1]; exact (Q.refl W0).cells _ _
  have p0 : w1.cell? ⟨W0.heap.size, 0, none⟩ = some (.int .i64 pw) := by rw [← hw1]; simp [go_sem]
  have p1 : w1.cell? ⟨W0.heap.size, 1, none⟩ = some (.int .i64 ph) := by rw [← hw1]; simp [go_sem]
  have p2 : w1.cell? ⟨W0.heap.size, 2, none⟩ = some (.slice ad n c) := by rw [← hw1]; simp [go_sem]
  have HK : Hid (Calls Tryz.prog 9 #[] w1 fun e w' => e = .returned (.bool true) ∧ Qb w1 w') := known16_any w1 (q1.tab hT)
  have HCy : Hid _ := fun x u h2 => hcopy_al2 x pw ph ad n c S hn u h2
  have HPl : Hid _ := fun ad' c' x u u' => hplanes_yes pw ph ad' ad n c' c S x u u' (by omega)
  obtain ⟨E, hE⟩ : ∃ E, chk pw ph n = E := ⟨_, rfl⟩
  have mm0 := fun x => may_any pw ph ad n c x
  have ml0 := fun ad' c' x u h => slevel_any pw ph ad' n c' S b x u hn hSb h
  simp only [hE] at mm0 ml0
  have HMm : Hid _ := mm0
  have HMl : Hid _ := ml0
  clear mm0 ml0
  have HZ : Hid (E = 0 → 1 ≤ n) := fun h => by
    obtain ⟨a, b, _, _, hs, he⟩ := chk_zero (hE.trans h)
    have := hs.pos
    omega
  have HDl : Hid _ := fun v x u h2 => s16level_any v S b x u hSb h2
  have HU : Hid (USl w1 (.slice ad n c) S) := us.next q1
  have HQ1 : Hid (Qb W0 w1) := q1.qb
  have HN : Hid (S.length = n) := hn
  clear us q1 hE hT hSb hml hn
  obtain ⟨bp, hbp⟩ : ∃ bp, W0.heap.size = bp := ⟨_, rfl⟩
  rw [hbp] at p0 p1 p2
  go_enter Tryz.func5, Tryz.ntmps5
  go_wp2_with fail
  clear hw1 hbp
  refine Calls.mono HK.out ?_
  rintro e w2 ⟨rfl, q2⟩
  have p0 := q2.cell p0
  have p1 := q2.cell p1
  have p2 := q2.cell p2
  have HQ2 : Hid (Qb W0 w2) := HQ1.out.trans q2
  have HU2 : Hid (USl w2 (.slice ad n c) S) := HU.out.nextB q2
  clear q2 HQ1 HU HK
  by_cases h6 : (3000 : Int) < (n : Int)
  · go_wp2_with fail
    go_ret
    exact ⟨rfl, HQ2.out⟩
  have hn6 : n ≤ 3000 := by omega
  go_wp2_with fail
  refine Calls.mono (HCy.out _ HU2.out (by omega)) ?_
  rintro e w3 ⟨ad3, c3, rfl, u3, q3⟩
  obtain ⟨w4, hw4⟩ : ∃ w4, w3.alloc (.cells #[.int .i64 pw, .int .i64 ph, .slice ad3 n c3] 26) = w4 := ⟨_, rfl⟩
  have q34 : Q w3 w4 := by rw [← hw4]; exact (Q.refl w3).cells _ _
  have q24 : Q w2 w4 := q3.trans q34
  have i0 : w4.cell? ⟨w3.heap.size, 0, none⟩ = some (.int .i64 pw) := by rw [← hw4]; simp [go_sem]
  have i1 : w4.cell? ⟨w3.heap.size, 1, none⟩ = some (.int .i64 ph) := by rw [← hw4]; simp [go_sem]
  have i2 : w4.cell? ⟨w3.heap.size, 2, none⟩ = some (.slice ad3 n c3) := by rw [← hw4]; simp [go_sem]
  have HI4 : Hid (USl w4 (.slice ad3 n c3) S) := u3.next q34
  have HU4 : Hid (USl w4 (.slice ad n c) S) := HU2.out.next q24
  have HQ4 : Hid (Qb W0 w4) := HQ2.out.trans q24.qb
  have p0 := q24.cell p0
  have p1 := q24.cell p1
  have p2 := q24.cell p2
  clear q3 q34 q24 u3 HU2 HQ2
  go_wp2_with fail
  clear hw4
  generalize w3.heap.size = bi at *
  have HB4 : Hid (bi < w4.heap.size ∧ bp < w4.heap.size ∧ W0.heap.size ≤ w4.heap.size) := ⟨World.block_lt_of_cell? _ _ i0, World.block_lt_of_cell? _ _ p0, HQ4.out.sz⟩
  refine Calls.mono (HMl.out _ _ _ HI4.out (by omega)) ?_
  rintro e w5 ⟨x, y, ad5, m5, c5, F5, rfl, L5⟩
  obtain ⟨w6, hw6⟩ : ∃ w6, w5.alloc (.cells #[.int .i64 x, .int .i64 y, .slice ad5 m5 c5] 26) = w6 := ⟨_, rfl⟩
  have q56 : Q w5 w6 := by rw [← hw6]; exact (Q.refl w5).cells _ _
  have q46 : Q w4 w6 := L5.q.trans q56
  have j0 : w6.cell? ⟨w5.heap.size, 0, none⟩ = some (.int .i64 x) := by rw [← hw6]; simp [go_sem]
  have j1 : w6.cell? ⟨w5.heap.size, 1, none⟩ = some (.int .i64 y) := by rw [← hw6]; simp [go_sem]
  have j2 : w6.cell? ⟨w5.heap.size, 2, none⟩ = some (.slice ad5 m5 c5) := by rw [← hw6]; simp [go_sem]
  obtain ⟨bq, hbq⟩ : ∃ bq, w5.heap.size = bq := ⟨_, rfl⟩
  rw [hbq] at j0 j1 j2
  have p0 := q46.cell p0
  have p1 := q46.cell p1
  have p2 := q46.cell p2
  have i0 := q46.cell i0
  have i1 := q46.cell i1
  have i2 := q46.cell i2
  have HI6 : Hid (USl w6 (.slice ad3 n c3) S) := HI4.out.next q46
  have HU6 : Hid (USl w6 (.slice ad n c) S) := HU4.out.next q46
  have HQ6 : Hid (Qb W0 w6) := HQ4.out.trans q46.qb
  have hFe := L5.e
  have HL5 : Hid (LvA w4 w5 (slvE E b) pw ph n (fun i => lvlV b.toNat S (S.getD i 0)) x y ad5 m5 c5 F5 ∧ Q w5 w6 ∧ w5.heap.size = bq) := ⟨L5, q56, hbq⟩
  clear q56 q46 L5 HU4 HQ4
  go_wp2_with fail
  clear hw6 hbq
  refine Calls.mono (HPl.out _ _ _ HI6.out HU6.out) ?_
  rintro e w7 ⟨rfl, q7⟩
  have p0 := q7.cell p0
  have p1 := q7.cell p1
  have p2 := q7.cell p2
  have i0 := q7.cell i0
  have i1 := q7.cell i1
  have i2 := q7.cell i2
  have j0 := q7.cell j0
  have j1 := q7.cell j1
  have j2 := q7.cell j2
  have HI7 : Hid (USl w7 (.slice ad3 n c3) S) := HI6.out.next q7
  have HU7 : Hid (USl w7 (.slice ad n c) S) := HU6.out.next q7
  have HQ7 : Hid (Qb W0 w7) := HQ6.out.trans q7.qb
  have HQ67 : Hid (Q w6 w7) := q7
  clear q7 HI6 HU6 HQ6
  go_wp2_with fail
  refine Calls.mono (HMm.out _) ?_
  rintro e w8 ⟨rfl, q8⟩
  have p0 := q8.cell p0
  have p1 := q8.cell p1
  have p2 := q8.cell p2
  have i0 := q8.cell i0
  have i1 := q8.cell i1
  have i2 := q8.cell i2
  have j0 := q8.cell j0
  have j1 := q8.cell j1
  have j2 := q8.cell j2
  have HI8 : Hid (USl w8 (.slice ad3 n c3) S) := HI7.out.next q8
  have HU8 : Hid (USl w8 (.slice ad n c) S) := HU7.out.next q8
  have HQ8 : Hid (Qb W0 w8) := HQ7.out.trans q8.qb
  have HQ68 : Hid (Q w6 w8) := HQ67.out.trans q8
  clear q8 HI7 HU7 HQ7 HQ67
  by_cases hE : E = 0
  · subst hE
    have hz := HZ.out rfl
    have hsl : slvE 0 b = if bitsB b = true then 0 else 160 := by unfold slvE; rw [if_neg (fun h => h rfl)]
    rw [hsl] at hFe HL5
    have HDl1 : Hid _ := HDl.out (.slice ad n c) w8 HU8.out (by have := HN.out; omega)
    clear HDl HU8
    cases hbb : bitsB b
    · rw [hbb, if_neg (by decide)] at hFe HL5
      rw [hbb, if_neg (by decide), if_neg (by decide)] at HDl1
      obtain ⟨rfl, rfl, rfl, rfl, rfl⟩ := HL5.out.1.bad (by decide)
      subst hFe
      clear HL5
      go_wp2_with fail
      refine Calls.mono HDl1.out ?_
      rintro e w9 ⟨u, rfl, hu, hug, q9⟩
      have j0 := q9.cell j0
      have j1 := q9.cell j1
      have j2 := q9.cell j2
      have HQ9 : Hid (Qb W0 w9) := HQ8.out.trans q9.qb
      clear HQ8 q9 hu hug HDl1
      go_wp2_with fail
      refine Calls.mono (hplanes_yes 0 0 none none 0 0 0 [] _ (Or.inr ⟨_, _, rfl, rfl⟩) (Or.inr ⟨_, _, rfl, rfl⟩) (by decide)) ?_
      rintro e w10 ⟨rfl, q10⟩
      have HQ10 : Hid (Qb W0 w10) := HQ9.out.trans q10.qb
      clear q10 HQ9
      go_wp2_with fail
      go_ret
      exact ⟨rfl, HQ10.out⟩
    · rw [hbb, if_pos rfl] at hFe HL5
      rw [hbb, if_pos rfl, if_pos rfl] at HDl1
      obtain ⟨G, ea, ex, ey, em, ec, hG, lG, lG2⟩ := HL5.out.1.good rfl
      have ex := ex.symm
      have ey := ey.symm
      have em := em.symm
      have ec := ec.symm
      subst ea ex ey em ec
      subst hFe
      have hb5 := HL5.out.2.2
      have hq58 := HL5.out.2.1.trans HQ68.out
      have HG8 : Hid (VR w8 G n (fun i => .int .u32 ((lvlV b.toNat S (S.getD i 0) : Nat) : Int))) := hG.next hq58
      have hzS : USl w8 (.slice (some ⟨G, 0, none⟩) n n) (lvlL b.toNat S) := lvl_usl HN.out HG8.out
      have hGlt : G < w8.heap.size := Nat.lt_of_lt_of_le lG2 hq58.1.size
      have HBL : Hid (∀ g o, ad3 = some ⟨g, o, none⟩ → g ≠ G) := fun g o e => by
        have := usl_lt HI4.out HN.out hz e
        omega
      have hSW : Hid (SpW w8 G n) := ⟨fun i hi => ⟨_, HG8.out.cell i hi⟩, HG8.out.free⟩
      have HZS : Hid (USl w8 (.slice (some ⟨G, 0, none⟩) n n) (lvlL b.toNat S)) := hzS
      have HBi : Hid (bi ≠ G ∧ bp ≠ G ∧ W0.heap.size ≤ G ∧ bq ≠ G) := by have := HB4.out; show _ ∧ _ ∧ _ ∧ _; omega
      clear HL5 HG8 hzS hG
      go_wp2_with fail
      refine Calls.mono HDl1.out ?_
      rintro e w9 ⟨u, rfl, hu, hug, q9⟩
      obtain ⟨ua, uc, rfl⟩ := hu.form
      rw [lvlL_len, HN.out] at hu hug ⊢
      have j0 := q9.cell j0
      have j1 := q9.cell j1
      have j2 := q9.cell j2
      have i0 := q9.cell i0
      have i1 := q9.cell i1
      have i2 := q9.cell i2
      have p0 := q9.cell p0
      have p1 := q9.cell p1
      have p2 := q9.cell p2
      have HQ9 : Hid (Qb W0 w9) := HQ8.out.trans q9.qb
      have HI9 : Hid (USl w9 (.slice ad3 n c3) S) := HI8.out.next q9
      have HZ9 : Hid (USl w9 (.slice (some ⟨G, 0, none⟩) n n) (lvlL b.toNat S)) := HZS.out.next q9
      have HS9 : Hid (SpW w9 G n) := hSW.out.next q9
      have HU9 : Hid (USl w9 (.slice ua n uc) (lvlL b.toNat S)) := hu
      have HUG : Hid (∀ g o c, Value.slice ua n uc = .slice (some ⟨g, o, none⟩) n c → g ≠ G) := fun g o c e => by have := hug g o n c e; omega
      clear HQ8 q9 hu hug HDl1 HI8 HZS hSW
      go_wp2_with fail
      refine Calls.mono (hplanes_yes pw ph (some ⟨G, 0, none⟩) ua n n uc (lvlL b.toNat S) _ HZ9.out HU9.out (by rw [lvlL_len]; have := HN.out; omega)) ?_
      rintro e w10 ⟨rfl, q10⟩
      have j0 := q10.cell j0
      have j1 := q10.cell j1
      have j2 := q10.cell j2
      have i0 := q10.cell i0
      have i1 := q10.cell i1
      have i2 := q10.cell i2
      have HQ10 : Hid (Qb W0 w10) := HQ9.out.trans q10.qb
      have HI10 : Hid (USl w10 (.slice ad3 n c3) S) := HI9.out.next q10
      have HS10 : Hid (SpW w10 G n) := HS9.out.next q10
      have HU10 : Hid (USl w10 (.slice ua n uc) (lvlL b.toNat S)) := HU9.out.next q10
      clear HQ9 q10 HI9 HZ9 HS9 HU9 p0 p1 p2
      go_wp2_with fail
      refine Calls.mono (spoil_fb _ pw ph G n n HS10.out hz (by omega) (Nat.le_refl _)) ?_
      rintro e w11 ⟨rfl, f11⟩
      have i0 := f11.cell i0 HBi.out.1
      have i1 := f11.cell i1 HBi.out.1
      have i2 := f11.cell i2 HBi.out.1
      have HQ11 : Hid (Qb W0 w11) := by
        refine HQ10.out.trans' f11 HBi.out.2.2.1
      have HI11 : Hid (USl w11 (.slice ad3 n c3) S) := usl_fb HI10.out f11 (fun g o c e => HBL.out g o (by injection e))
      have HU11 : Hid (USl w11 (.slice ua n uc) (lvlL b.toNat S)) := usl_fb HU10.out f11 (fun g o c e => HUG.out g o c (by rw [lvlL_len, HN.out] at e; exact e))
      clear HQ10 f11 HI10 HS10 HU10 j0 j1 j2
      go_wp2_with fail
      refine Calls.mono (HMl.out _ _ _ HI11.out (by omega)) ?_
      rintro e w12 ⟨x2, y2, ad12, m12, c12, F12, rfl, L12⟩
      obtain ⟨w13, hw13⟩ : ∃ w13, w12.alloc (.cells #[.int .i64 x2, .int .i64 y2, .slice ad12 m12 c12] 26) = w13 := ⟨_, rfl⟩
      have q13 : Q w12 w13 := by rw [← hw13]; exact (Q.refl w12).cells _ _
      have k2 : w13.cell? ⟨w12.heap.size, 2, none⟩ = some (.slice ad12 m12 c12) := by rw [← hw13]; simp [go_sem]
      rw [hsl, hbb, if_pos rfl] at L12
      obtain ⟨G2, ea, ex, ey, em, ec, hG2, lG3, lG4⟩ := L12.good rfl
      have HV2 : Hid (USl w13 (.slice ad12 m12 c12) (lvlL b.toNat S)) := by
        show USl w13 (.slice ad12 m12 c12) (lvlL b.toNat S)
        rw [ea, em, ec]
        exact (lvl_usl HN.out hG2).next q13
      have HU13 : Hid (USl w13 (.slice ua n uc) (lvlL b.toNat S)) := HU11.out.next (L12.q.trans q13)
      have HQ13 : Hid (Qb W0 w13) := HQ11.out.trans (L12.q.trans q13).qb
      obtain ⟨bz, hbz⟩ : ∃ bz, w12.heap.size = bz := ⟨_, rfl⟩
      rw [hbz] at k2
      clear hG2 lG3 lG4 q13 L12 ea em ec ex ey HU11 HQ11 HI11 i0 i1 i2
      go_wp2_with fail
      clear hw13
      refine Calls.mono (words_eq _ _ (lvlL b.toNat S) _ HV2.out HU13.out (by rw [lvlL_len]; have := HN.out; omega)) ?_
      rintro e w14 ⟨rfl, q14⟩
      have HQ14 : Hid (Qb W0 w14) := HQ13.out.trans q14.qb
      clear q14 HV2 HU13 HQ13
      go_wp2_with fail
      go_ret
      exact ⟨rfl, HQ14.out⟩
  · have hsl : slvE E b = E := by unfold slvE; rw [if_pos hE]
    have hne : (E != 0) = true := by simpa using hE
    rw [hsl] at hFe HL5
    obtain ⟨rfl, rfl, rfl, rfl, rfl⟩ := HL5.out.1.bad hE
    subst hFe
    clear HL5 HDl HZ hE
    go_wp2_with fail
    refine Calls.mono (HMm.out _) ?_
    rintro e w9 ⟨rfl, q9⟩
    have j0 := q9.cell j0
    have j1 := q9.cell j1
    have j2 := q9.cell j2
    have HQ9 : Hid (Qb W0 w9) := HQ8.out.trans q9.qb
    clear HQ8 q9
    go_wp2_with fail
    refine Calls.mono (hplanes_yes 0 0 none none 0 0 0 [] _ (Or.inr ⟨_, _, rfl, rfl⟩) (Or.inr ⟨_, _, rfl, rfl⟩) (by decide)) ?_
    rintro e w10 ⟨rfl, q10⟩
    have HQ10 : Hid (Qb W0 w10) := HQ9.out.trans q10.qb
    clear q10 HQ9
    go_wp2_with fail
    go_ret
    exact ⟨by simp, HQ10.out⟩
end Go.Proofs.YtieojgblamkgoaaGreatDoor
