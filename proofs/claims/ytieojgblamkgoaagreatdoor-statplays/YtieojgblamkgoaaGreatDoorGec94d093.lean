/- Copies of planes. -/
import Derived.Test.YtieojgblamkgoaaGreatDoorG067d5bf2
import Derived.Test.YtieojgblamkgoaaGreatDoorGb82cbb4e
import Derived.Test.YtieojgblamkgoaaGreatDoorG9aa7668d
import Derived.Test.YtieojgblamkgoaaGreatDoorG00d82094
import Derived.Test.YtieojgblamkgoaaGreatDoorG829ae80f
import Derived.Test.YtieojgblamkgoaaGreatDoorG5da8ac6f
import Derived.Test.YtieojgblamkgoaaGreatDoorG678be151
import Derived.Test.YtieojgblamkgoaaGreatDoorGf477b96e
import Derived.Test.YtieojgblamkgoaaGreatDoorGba0d9aba
import Derived.Test.YtieojgblamkgoaaGreatDoorGc1d968df
import Derived.Test.YtieojgblamkgoaaGreatDoorG6b52728e
import Derived.Test.YtieojgblamkgoaaGreatDoorG48ed55a6
import Derived.Test.YtieojgblamkgoaaGreatDoorGab2760b1
import Derived.Test.YtieojgblamkgoaaGreatDoorG6d65d0b3
namespace Go.Proofs.YtieojgblamkgoaaGreatDoor
open Go.RowKit
set_option linter.unusedVariables false
set_option linter.unusedSimpArgs false

theorem uInfoq : ∃ i, Tryz.prog.info? 43 = some i ∧ i.size = 1 ∧ i.bytes = 4 ∧ i.zero = some (.int .u32 0) := info_of (by kernel_rfl) (by kernel_rfl)
theorem run_appopq {P : Program} {A : Act} {o : Oper} {x x' : World} {s u : Operand} {t : TypeId} (ho : o.op = .call { callee := .builtin .append, args := #[s, u], argTypes := #[t, t] }) {v v' r : Value} (hs : A.eval s = v) (hu : A.eval u = v') (hr : (Builtin.append_ #[t, t] o.type #[v, v']).run P x = .ok r x') : (execOp A.eval o).run P x = .ok (.value r) x' := by
  unfold execOp
  simp only [ho, resolve, invoke, builtin, Sem.run_bind, Sem.run_pure, Result.andThen_ok, List.map_toArray, List.map_cons, List.map_nil, hs, hu, hr]
set_option maxHeartbeats 2000000 in
set_option maxRecDepth 100000 in
theorem hcopy_some (w : World) (pw ph : Int) (g o n c : Nat) (S : List Nat) (hS : S.length = n) (hI : UIs w g o S) (h1 : 1 ≤ n) (h2 : n ≤ 1000000) :
    Calls Tryz.prog 16 #[.agg #[.int .i64 pw, .int .i64 ph, .slice (some ⟨g, o, none⟩) n c]] w fun e w' => ∃ v, e = .returned v ∧ ∃ b cap, v = .agg #[.int .i64 pw, .int .i64 ph, .slice (some ⟨b, 0, none⟩) n cap] ∧ n ≤ cap ∧ b < w'.heap.size ∧ Own w w' b S := by
  have HI : Hid (∀ x : World, Q w x → UIs x g o S) := fun x q => hI.next q
  have HN : Hid (S.length = n) := hS
  clear hI hS
  go_enter Tryz.func16, Tryz.ntmps16
  go_wp2_with fail
  have HQ : Hid (Q w ((w.alloc (Obj.cells #[Value.int IntKind.i64 pw, Value.int IntKind.i64 ph, .slice (some ⟨g, o, none⟩) n c] 26)).alloc (Obj.cells #[Value.int IntKind.i64 0, Value.int IntKind.i64 0, Value.slice none 0 0] 26))) := ((Q.refl w).cells _ _).cells _ _
  have c0 : ((w.alloc (Obj.cells #[Value.int IntKind.i64 pw, Value.int IntKind.i64 ph, .slice (some ⟨g, o, none⟩) n c] 26)).alloc (Obj.cells #[Value.int IntKind.i64 0, Value.int IntKind.i64 0, Value.slice none 0 0] 26)).cell? ⟨w.heap.size, 0, none⟩ = some (.int .i64 pw) := by simp [go_sem]
  have c1 : ((w.alloc (Obj.cells #[Value.int IntKind.i64 pw, Value.int IntKind.i64 ph, .slice (some ⟨g, o, none⟩) n c] 26)).alloc (Obj.cells #[Value.int IntKind.i64 0, Value.int IntKind.i64 0, Value.slice none 0 0] 26)).cell? ⟨w.heap.size, 1, none⟩ = some (.int .i64 ph) := by simp [go_sem]
  have c2 : ((w.alloc (Obj.cells #[Value.int IntKind.i64 pw, Value.int IntKind.i64 ph, .slice (some ⟨g, o, none⟩) n c] 26)).alloc (Obj.cells #[Value.int IntKind.i64 0, Value.int IntKind.i64 0, Value.slice none 0 0] 26)).cell? ⟨w.heap.size, 2, none⟩ = some (.slice (some ⟨g, o, none⟩) n c) := by simp [go_sem]
  have d0 : ((w.alloc (Obj.cells #[Value.int IntKind.i64 pw, Value.int IntKind.i64 ph, .slice (some ⟨g, o, none⟩) n c] 26)).alloc (Obj.cells #[Value.int IntKind.i64 0, Value.int IntKind.i64 0, Value.slice none 0 0] 26)).cell? ⟨w.heap.size + 1, 0, none⟩ = some (.int .i64 0) := by simp [go_sem]
  have d1 : ((w.alloc (Obj.cells #[Value.int IntKind.i64 pw, Value.int IntKind.i64 ph, .slice (some ⟨g, o, none⟩) n c] 26)).alloc (Obj.cells #[Value.int IntKind.i64 0, Value.int IntKind.i64 0, Value.slice none 0 0] 26)).cell? ⟨w.heap.size + 1, 1, none⟩ = some (.int .i64 0) := by simp [go_sem]
  have d2 : ((w.alloc (Obj.cells #[Value.int IntKind.i64 pw, Value.int IntKind.i64 ph, .slice (some ⟨g, o, none⟩) n c] 26)).alloc (Obj.cells #[Value.int IntKind.i64 0, Value.int IntKind.i64 0, Value.slice none 0 0] 26)).cell? ⟨w.heap.size + 1, 2, none⟩ = some (.slice none 0 0) := by simp [go_sem]
  have fz : ∀ j, ((w.alloc (Obj.cells #[Value.int IntKind.i64 pw, Value.int IntKind.i64 ph, .slice (some ⟨g, o, none⟩) n c] 26)).alloc (Obj.cells #[Value.int IntKind.i64 0, Value.int IntKind.i64 0, Value.slice none 0 0] 26)).frozen? ⟨w.heap.size + 1, j, none⟩ = false := fun j => by simp [go_sem]
  have hsz : ((w.alloc (Obj.cells #[Value.int IntKind.i64 pw, Value.int IntKind.i64 ph, .slice (some ⟨g, o, none⟩) n c] 26)).alloc (Obj.cells #[Value.int IntKind.i64 0, Value.int IntKind.i64 0, Value.slice none 0 0] 26)).heap.size = w.heap.size + 2 := by simp
  generalize ((w.alloc (Obj.cells #[Value.int IntKind.i64 pw, Value.int IntKind.i64 ph, .slice (some ⟨g, o, none⟩) n c] 26)).alloc (Obj.cells #[Value.int IntKind.i64 0, Value.int IntKind.i64 0, Value.slice none 0 0] 26)) = wz at *
  have n0 := qw_some wz
  have f0 := qw_cell c0
  have f1 := qw_cell c1
  have f2 := qw_cell c2
  refine wp_region_mk [0, 1, 2, 3, 4, 5] [[6, 7, 8]] 3 _ (by kernel_rfl) (by kernel_rfl) rfl (by kernel_rfl) ?_
  simp only [List.filterMap_cons, List.filterMap_nil, List.getElem?_cons_zero, List.getElem?_cons_succ]
  repeat (first | go_big_quiet_step (fail) | quiet_step (fail))
  refine wpQuiet_nil ?_
  intro x hx
  obtain ⟨iu, i1, i2, i3, i4⟩ := uInfoq
  obtain ⟨cap, w7, hr7, hq7, hc1, hc2, hz7, hn7, -, hf7⟩ := run_app_room (P := Tryz.prog) x 24 24 43 iu _ Tryz.underlying24 i1 i4 (by rw [i2]; rfl) (.slice none 0 0) (Or.inl rfl) ⟨g, o, none⟩ n c (S.map fun (s : Nat) => Value.int .u32 (s : Int)) (by rw [List.length_map, HN.out, i2]; omega) (fun j u hu => by
    rw [List.getElem?_map] at hu
    cases hj : S[j]? with
    | none => rw [hj] at hu; cases hu
    | some s =>
      rw [hj] at hu
      have hu := Option.some.inj hu
      have hjl : j < S.length := (List.getElem?_eq_some_iff.1 hj).1
      have := HI.out x (HQ.out.trans hx) j hjl
      rw [List.getD_eq_getElem?_getD, hj] at this
      rw [← hu, show (⟨g, o, none⟩ : Addr).add j = ⟨g, o + j, none⟩ by unfold Addr.add; split <;> simp_all]
      exact this) (by omega) (by omega) (by rw [i3]; omega)
  have hc7 : ∀ i, i < S.length → w7.cell? ⟨x.heap.size, i, none⟩ = some (.int .u32 ((S.getD i 0 : Nat) : Int)) := fun i hi => by
    refine hn7 i _ ?_
    rw [List.getElem?_map, List.getElem?_eq_getElem hi, List.getD_eq_getElem?_getD, List.getElem?_eq_getElem hi]
    rfl
  have hq2 : Q wz w7 := hx.trans hq7
  refine tree_run 6 rfl rfl (v := .slice (some ⟨x.heap.size, 0, none⟩) n cap) (x' := w7) (run_appopq rfl (v := .slice none 0 0) (v' := .slice (some ⟨g, o, none⟩) n c) (by simp [Act.eval, Act.put]) (by simp [Act.eval, Act.put]) hr7) hq2 ?_
  refine tree_run 7 rfl rfl (v := .agg #[.int .i64 pw, .int .i64 ph, .slice (some ⟨x.heap.size, 0, none⟩) n cap]) (x' := w7) (by simp [execOp, go_sem]) hq2 ?_
  have d02 := hq2.cell d0
  have d12 := hq2.cell d1
  have d22 := hq2.cell d2
  have fz2 : ∀ j, w7.frozen? ⟨w.heap.size + 1, j, none⟩ = false := fun j => (hq2.2 _).trans (fz j)
  refine tree_skipF 8 rfl rfl rfl (x' := (((w7.setCell ⟨w.heap.size + 1, 0, none⟩ (.int .i64 pw)).setCell ⟨w.heap.size + 1, 1, none⟩ (.int .i64 ph)).setCell ⟨w.heap.size + 1, 2, none⟩ (.slice (some ⟨x.heap.size, 0, none⟩) n cap))) (by simp [execOp, go_sem, d02, d12, d22, fz2]) ?_
  refine tree_nil ?_
  have HO : Hid (Own w (((w7.setCell ⟨w.heap.size + 1, 0, none⟩ (.int .i64 pw)).setCell ⟨w.heap.size + 1, 1, none⟩ (.int .i64 ph)).setCell ⟨w.heap.size + 1, 2, none⟩ (.slice (some ⟨x.heap.size, 0, none⟩) n cap)) x.heap.size S) := by
    have hlt : w.heap.size + 1 < x.heap.size := by have := hx.1.size; omega
    have hne : ∀ j, (⟨x.heap.size, j, none⟩ : Addr) ≠ ⟨w.heap.size + 1, 0, none⟩ := fun j e => by injection e with e; omega
    refine ⟨(((HQ.out.trans hq2).set (Nat.le_succ _) _).set (Nat.le_succ _) _).set (Nat.le_succ _) _, by omega, fun i hi => ?_, fun j => ?_⟩
    · rw [World.cell?_setCell_other _ _ _ _ (fun e => by injection e with e; omega), World.cell?_setCell_other _ _ _ _ (fun e => by injection e with e; omega), World.cell?_setCell_other _ _ _ _ (fun e => by injection e with e; omega), Nat.zero_add]
      exact hc7 i hi
    · rw [World.frozen?_setCell, World.frozen?_setCell, World.frozen?_setCell]
      exact hf7 j
  have k0 : (((w7.setCell ⟨w.heap.size + 1, 0, none⟩ (.int .i64 pw)).setCell ⟨w.heap.size + 1, 1, none⟩ (.int .i64 ph)).setCell ⟨w.heap.size + 1, 2, none⟩ (.slice (some ⟨x.heap.size, 0, none⟩) n cap)).cell? ⟨w.heap.size + 1, 0, none⟩ = some (.int .i64 pw) := by simp [go_sem, d02, d12, d22]
  have k1 : (((w7.setCell ⟨w.heap.size + 1, 0, none⟩ (.int .i64 pw)).setCell ⟨w.heap.size + 1, 1, none⟩ (.int .i64 ph)).setCell ⟨w.heap.size + 1, 2, none⟩ (.slice (some ⟨x.heap.size, 0, none⟩) n cap)).cell? ⟨w.heap.size + 1, 1, none⟩ = some (.int .i64 ph) := by simp [go_sem, d02, d12, d22]
  have k2 : (((w7.setCell ⟨w.heap.size + 1, 0, none⟩ (.int .i64 pw)).setCell ⟨w.heap.size + 1, 1, none⟩ (.int .i64 ph)).setCell ⟨w.heap.size + 1, 2, none⟩ (.slice (some ⟨x.heap.size, 0, none⟩) n cap)).cell? ⟨w.heap.size + 1, 2, none⟩ = some (.slice (some ⟨x.heap.size, 0, none⟩) n cap) := by simp [go_sem, d02, d12, d22]
  generalize (((w7.setCell ⟨w.heap.size + 1, 0, none⟩ (.int .i64 pw)).setCell ⟨w.heap.size + 1, 1, none⟩ (.int .i64 ph)).setCell ⟨w.heap.size + 1, 2, none⟩ (.slice (some ⟨x.heap.size, 0, none⟩) n cap)) = w5 at *
  clear d02 d12 d22 fz2 hq2 hx c0 c1 c2 d0 d1 d2 fz hr7 hq7
  go_wp2_with fail
  have hb5 : x.heap.size < w5.heap.size := World.block_lt_of_cell? _ _ (HO.out.cells 0 (by rw [HN.out]; omega))
  exact bodyPost_ret (v := .agg #[.int .i64 pw, .int .i64 ph, .slice (some ⟨x.heap.size, 0, none⟩) n cap]) (by simp [results, Tryz.results16, go_sem, k0, k1, k2]) rfl ⟨_, rfl, x.heap.size, cap, rfl, hc1, hb5, HO.out⟩
theorem run_app_noneH (x : World) (ad : Option Addr) (c : Nat) : ∃ w7, (Builtin.append_ #[24, 24] 24 #[.slice none 0 0, .slice ad 0 c]).run Tryz.prog x = .ok (.slice none 0 0) w7 ∧ Q x w7 := by
  refine ⟨x, ?_, Q.refl x⟩
  cases ad <;> simp [Builtin.append_, go_sem]
set_option maxHeartbeats 2000000 in
set_option maxRecDepth 100000 in
theorem hcopy_none (w : World) (pw ph : Int) (ad : Option Addr) (c : Nat) :
    Calls Tryz.prog 16 #[.agg #[.int .i64 pw, .int .i64 ph, .slice ad 0 c]] w fun e w' => ∃ v, e = .returned v ∧ v = .agg #[.int .i64 pw, .int .i64 ph, .slice none 0 0] ∧ Q w w' := by
  go_enter Tryz.func16, Tryz.ntmps16
  go_wp2_with fail
  have HQ : Hid (Q w ((w.alloc (Obj.cells #[Value.int IntKind.i64 pw, Value.int IntKind.i64 ph, .slice ad 0 c] 26)).alloc (Obj.cells #[Value.int IntKind.i64 0, Value.int IntKind.i64 0, Value.slice none 0 0] 26))) := ((Q.refl w).cells _ _).cells _ _
  have c0 : ((w.alloc (Obj.cells #[Value.int IntKind.i64 pw, Value.int IntKind.i64 ph, .slice ad 0 c] 26)).alloc (Obj.cells #[Value.int IntKind.i64 0, Value.int IntKind.i64 0, Value.slice none 0 0] 26)).cell? ⟨w.heap.size, 0, none⟩ = some (.int .i64 pw) := by simp [go_sem]
  have c1 : ((w.alloc (Obj.cells #[Value.int IntKind.i64 pw, Value.int IntKind.i64 ph, .slice ad 0 c] 26)).alloc (Obj.cells #[Value.int IntKind.i64 0, Value.int IntKind.i64 0, Value.slice none 0 0] 26)).cell? ⟨w.heap.size, 1, none⟩ = some (.int .i64 ph) := by simp [go_sem]
  have c2 : ((w.alloc (Obj.cells #[Value.int IntKind.i64 pw, Value.int IntKind.i64 ph, .slice ad 0 c] 26)).alloc (Obj.cells #[Value.int IntKind.i64 0, Value.int IntKind.i64 0, Value.slice none 0 0] 26)).cell? ⟨w.heap.size, 2, none⟩ = some (.slice ad 0 c) := by simp [go_sem]
  have d0 : ((w.alloc (Obj.cells #[Value.int IntKind.i64 pw, Value.int IntKind.i64 ph, .slice ad 0 c] 26)).alloc (Obj.cells #[Value.int IntKind.i64 0, Value.int IntKind.i64 0, Value.slice none 0 0] 26)).cell? ⟨w.heap.size + 1, 0, none⟩ = some (.int .i64 0) := by simp [go_sem]
  have d1 : ((w.alloc (Obj.cells #[Value.int IntKind.i64 pw, Value.int IntKind.i64 ph, .slice ad 0 c] 26)).alloc (Obj.cells #[Value.int IntKind.i64 0, Value.int IntKind.i64 0, Value.slice none 0 0] 26)).cell? ⟨w.heap.size + 1, 1, none⟩ = some (.int .i64 0) := by simp [go_sem]
  have d2 : ((w.alloc (Obj.cells #[Value.int IntKind.i64 pw, Value.int IntKind.i64 ph, .slice ad 0 c] 26)).alloc (Obj.cells #[Value.int IntKind.i64 0, Value.int IntKind.i64 0, Value.slice none 0 0] 26)).cell? ⟨w.heap.size + 1, 2, none⟩ = some (.slice none 0 0) := by simp [go_sem]
  have fz : ∀ j, ((w.alloc (Obj.cells #[Value.int IntKind.i64 pw, Value.int IntKind.i64 ph, .slice ad 0 c] 26)).alloc (Obj.cells #[Value.int IntKind.i64 0, Value.int IntKind.i64 0, Value.slice none 0 0] 26)).frozen? ⟨w.heap.size + 1, j, none⟩ = false := fun j => by simp [go_sem]
  have hsz : ((w.alloc (Obj.cells #[Value.int IntKind.i64 pw, Value.int IntKind.i64 ph, .slice ad 0 c] 26)).alloc (Obj.cells #[Value.int IntKind.i64 0, Value.int IntKind.i64 0, Value.slice none 0 0] 26)).heap.size = w.heap.size + 2 := by simp
  generalize ((w.alloc (Obj.cells #[Value.int IntKind.i64 pw, Value.int IntKind.i64 ph, .slice ad 0 c] 26)).alloc (Obj.cells #[Value.int IntKind.i64 0, Value.int IntKind.i64 0, Value.slice none 0 0] 26)) = wz at *
  have n0 := qw_some wz
  have f0 := qw_cell c0
  have f1 := qw_cell c1
  have f2 := qw_cell c2
  refine wp_region_mk [0, 1, 2, 3, 4, 5] [[6, 7, 8]] 3 _ (by kernel_rfl) (by kernel_rfl) rfl (by kernel_rfl) ?_
  simp only [List.filterMap_cons, List.filterMap_nil, List.getElem?_cons_zero, List.getElem?_cons_succ]
  repeat (first | go_big_quiet_step (fail) | quiet_step (fail))
  refine wpQuiet_nil ?_
  intro x hx
  obtain ⟨iu, i1, i2, i3, i4⟩ := uInfoq
  obtain ⟨w7, hr7, hq7⟩ : ∃ w7, (Builtin.append_ #[24, 24] 24 #[.slice none 0 0, .slice ad 0 c]).run Tryz.prog x = .ok (.slice none 0 0) w7 ∧ Q x w7 := run_app_noneH x ad c
  have hq2 : Q wz w7 := hx.trans hq7
  refine tree_run 6 rfl rfl (v := .slice none 0 0) (x' := w7) (run_appopq rfl (v := .slice none 0 0) (v' := .slice ad 0 c) (by simp [Act.eval, Act.put]) (by simp [Act.eval, Act.put]) hr7) hq2 ?_
  refine tree_run 7 rfl rfl (v := .agg #[.int .i64 pw, .int .i64 ph, .slice none 0 0]) (x' := w7) (by simp [execOp, go_sem]) hq2 ?_
  have d02 := hq2.cell d0
  have d12 := hq2.cell d1
  have d22 := hq2.cell d2
  have fz2 : ∀ j, w7.frozen? ⟨w.heap.size + 1, j, none⟩ = false := fun j => (hq2.2 _).trans (fz j)
  refine tree_skipF 8 rfl rfl rfl (x' := (((w7.setCell ⟨w.heap.size + 1, 0, none⟩ (.int .i64 pw)).setCell ⟨w.heap.size + 1, 1, none⟩ (.int .i64 ph)).setCell ⟨w.heap.size + 1, 2, none⟩ (.slice none 0 0))) (by simp [execOp, go_sem, d02, d12, d22, fz2]) ?_
  refine tree_nil ?_
  have HO : Hid (Q w (((w7.setCell ⟨w.heap.size + 1, 0, none⟩ (.int .i64 pw)).setCell ⟨w.heap.size + 1, 1, none⟩ (.int .i64 ph)).setCell ⟨w.heap.size + 1, 2, none⟩ (.slice none 0 0))) := by
    exact (((HQ.out.trans hq2).set (Nat.le_succ _) _).set (Nat.le_succ _) _).set (Nat.le_succ _) _
  have k0 : (((w7.setCell ⟨w.heap.size + 1, 0, none⟩ (.int .i64 pw)).setCell ⟨w.heap.size + 1, 1, none⟩ (.int .i64 ph)).setCell ⟨w.heap.size + 1, 2, none⟩ (.slice none 0 0)).cell? ⟨w.heap.size + 1, 0, none⟩ = some (.int .i64 pw) := by simp [go_sem, d02, d12, d22]
  have k1 : (((w7.setCell ⟨w.heap.size + 1, 0, none⟩ (.int .i64 pw)).setCell ⟨w.heap.size + 1, 1, none⟩ (.int .i64 ph)).setCell ⟨w.heap.size + 1, 2, none⟩ (.slice none 0 0)).cell? ⟨w.heap.size + 1, 1, none⟩ = some (.int .i64 ph) := by simp [go_sem, d02, d12, d22]
  have k2 : (((w7.setCell ⟨w.heap.size + 1, 0, none⟩ (.int .i64 pw)).setCell ⟨w.heap.size + 1, 1, none⟩ (.int .i64 ph)).setCell ⟨w.heap.size + 1, 2, none⟩ (.slice none 0 0)).cell? ⟨w.heap.size + 1, 2, none⟩ = some (.slice none 0 0) := by simp [go_sem, d02, d12, d22]
  generalize (((w7.setCell ⟨w.heap.size + 1, 0, none⟩ (.int .i64 pw)).setCell ⟨w.heap.size + 1, 1, none⟩ (.int .i64 ph)).setCell ⟨w.heap.size + 1, 2, none⟩ (.slice none 0 0)) = w5 at *
  clear d02 d12 d22 fz2 hq2 hx c0 c1 c2 d0 d1 d2 fz hr7 hq7
  go_wp2_with fail
  exact bodyPost_ret (v := .agg #[.int .i64 pw, .int .i64 ph, .slice none 0 0]) (by simp [results, Tryz.results16, go_sem, k0, k1, k2]) rfl ⟨_, rfl, rfl, HO.out⟩
end Go.Proofs.YtieojgblamkgoaaGreatDoor
/- Lists of samples that are the same. -/
namespace Go.Proofs.YtieojgblamkgoaaGreatDoor
open Go.RowKit
set_option linter.unusedVariables false
set_option linter.unusedSimpArgs false

set_option maxHeartbeats 4000000 in
set_option maxRecDepth 100000 in
theorem words_eq (v v' : Value) (xs : List Nat) (w : World) (h : USl w v xs) (h' : USl w v' xs) (hn : xs.length ≤ 9223372036854775807) :
    Calls Tryz.prog 26 #[v, v'] w fun e w' => e = .returned (.bool true) ∧ Q w w' := by
  obtain ⟨a, cap, ev⟩ := h.form
  obtain ⟨a', cap', ev'⟩ := h'.form
  subst ev ev'
  have HS : Hid (USl w (.slice a xs.length cap) xs) := h
  have HT : Hid (USl w (.slice a' xs.length cap') xs) := h'
  obtain ⟨n, en⟩ : ∃ n, xs.length = n := ⟨_, rfl⟩
  have HN : Hid (xs.length = n) := en
  rw [en] at HS HT hn ⊢
  have hnn : ((n : Int) == (n : Int)) = true := by simp
  clear h h' en
  go_enter Tryz.func26, Tryz.ntmps26
  go_wp2_with fail
  go_loopg [5] n (fun m s5 wx => ∃ i : Nat, s5 = .int .i64 i ∧ i + m = n ∧ Hid (Q w wx))
  case atStart => exact ⟨0, rfl, by omega, Q.refl w⟩
  case round =>
    obtain ⟨i, rfl, him, HQ⟩ := hrel
    by_cases hi : i < n
    · have hi0 : (0 : Int) ≤ (i : Int) := by omega
      have hi1 : (i : Int) < (n : Int) := by omega
      obtain ⟨g, o, c, e1, e2, e3⟩ := HS.out.some (by rw [HN.out]; omega)
      obtain ⟨g', o', c', f1, f2, f3⟩ := HT.out.some (by rw [HN.out]; omega)
      injection e1 with e1 hh1 hh2
      clear hh1 hh2
      injection f1 with f1 hh1 hh2
      clear hh1 hh2
      subst e1 f1
      have c1 := HQ.out.cell (e3 i (by rw [HN.out]; exact hi))
      have c2 := HQ.out.cell (f3 i (by rw [HN.out]; exact hi))
      obtain ⟨z, hz⟩ : ∃ z, xs.getD i 0 = z := ⟨_, rfl⟩
      rw [hz] at c1 c2
      have hzz : ((z : Int) == (z : Int)) = true := by simp
      have n0 := qw_some wr
      have d1 := qw_cell c1
      have d2 := qw_cell c2
      clear hz e2 e3 f2 f3
      go_wp2_with fail
      refine wp_region_quiet_Q (by kernel_rfl) (by kernel_rfl) ?_
      repeat (first | go_big_quiet_step (fail) | quiet_step (fail))
      refine wpQuiet_nil ?_
      intro w4 hw'
      have hq4 := qw_out hw'
      have HQ4 : Hid (Q w w4) := HQ.out.trans hq4
      clear hw' n0 d1 d2
      go_wp2_with fail
      go_roundg (n - (i + 1))
      case measure => go_light; omega
      case rel => go_light; exact ⟨i + 1, by go_num, by omega, HQ4⟩
    · have hie : i = n := by omega
      go_wp2_with fail
      go_ret
      exact ⟨rfl, HQ.out⟩
end Go.Proofs.YtieojgblamkgoaaGreatDoor
/- Planes that are the same. -/
namespace Go.Proofs.YtieojgblamkgoaaGreatDoor
open Go.RowKit
set_option linter.unusedVariables false
set_option linter.unusedSimpArgs false

set_option maxHeartbeats 2000000 in
set_option maxRecDepth 100000 in
theorem hplanes_yes (a b : Int) (p q : Option Addr) (n c d : Nat) (S : List Nat) (w : World) (h : USl w (.slice p n c) S) (h' : USl w (.slice q n d) S) (hn : S.length ≤ 9223372036854775807) :
    Calls Tryz.prog 19 #[.agg #[.int .i64 a, .int .i64 b, .slice p n c], .agg #[.int .i64 a, .int .i64 b, .slice q n d]] w fun e w' => e = .returned (.bool true) ∧ Q w w' := by
  have H1 : Hid (USl w (.slice p n c) S) := h
  have H2 : Hid (USl w (.slice q n d) S) := h'
  clear h h'
  have qa : Hid (∀ a b c d, Q w ((w.alloc (.cells a b)).alloc (.cells c d))) := fun a b c d => ((Q.refl w).cells _ _).cells _ _
  go_enter Tryz.func19, Tryz.ntmps19
  go_wp2_with fail
  refine (words_eq _ _ S _ (H1.out.next (qa.out _ _ _ _)) (H2.out.next (qa.out _ _ _ _)) hn).mono ?_
  rintro e w1 ⟨rfl, q1⟩
  go_wp2_with fail
  go_ret
  exact ⟨rfl, (qa.out _ _ _ _).trans q1⟩
end Go.Proofs.YtieojgblamkgoaaGreatDoor
/- The statements' helpers: sizes, planes that may be. (Out of BlL.) -/
namespace Go.Proofs.YtieojgblamkgoaaGreatDoor
open Go.RowKit
set_option linter.unusedVariables false
set_option linter.unusedSimpArgs false

set_option maxHeartbeats 2000000 in
set_option maxRecDepth 100000 in
theorem hsize_b (W H : Int) (w : World) : Calls Tryz.prog 58 #[.int .i64 W, .int .i64 H] w fun e w' => e = .returned (.bool (sizeB W H)) ∧ w' = w := by
  have E : Hid (sizeB W H = true ↔ SizeB W H) := sizeB_true
  have EF : Hid (¬ SizeB W H → sizeB W H = false) := fun h => by
    cases g : sizeB W H
    · rfl
    · exact absurd (sizeB_true.1 g) h
  generalize sizeB W H = b at *
  rcases Int.lt_or_le W 1 with h0 | h0
  · obtain rfl : b = false := EF.out (fun c => by unfold SizeB at c; omega)
    clear E EF
    go_enter Tryz.func58, Tryz.ntmps58
    go_wp2_with fail
    exact bodyPost_ret (v := .bool false) (by simp [results, Tryz.results58, go_sem] <;> omega) rfl ⟨rfl, rfl⟩
  rcases Int.lt_or_le H 1 with h1 | h1
  · obtain rfl : b = false := EF.out (fun c => by unfold SizeB at c; omega)
    clear E EF
    go_enter Tryz.func58, Tryz.ntmps58
    go_wp2_with fail
    exact bodyPost_ret (v := .bool false) (by simp [results, Tryz.results58, go_sem] <;> omega) rfl ⟨rfl, rfl⟩
  rcases Int.lt_or_le 1024 W with h2 | h2
  · obtain rfl : b = false := EF.out (fun c => by unfold SizeB at c; omega)
    clear E EF
    go_enter Tryz.func58, Tryz.ntmps58
    go_wp2_with fail
    exact bodyPost_ret (v := .bool false) (by simp [results, Tryz.results58, go_sem] <;> omega) rfl ⟨rfl, rfl⟩
  rcases Int.lt_or_le 1024 H with h3 | h3
  · obtain rfl : b = false := EF.out (fun c => by unfold SizeB at c; omega)
    clear E EF
    go_enter Tryz.func58, Tryz.ntmps58
    go_wp2_with fail
    exact bodyPost_ret (v := .bool false) (by simp [results, Tryz.results58, go_sem] <;> omega) rfl ⟨rfl, rfl⟩
  have hb1 : 0 ≤ W * H := Int.mul_nonneg (by omega) (by omega)
  have hb2 : W * H ≤ 1048576 := Int.le_trans (Int.mul_le_mul h2 h3 (by omega) (by omega)) (by decide)
  rcases Int.lt_or_le 65536 (W * H) with h4 | h4
  · obtain rfl : b = false := EF.out (fun c => by unfold SizeB at c; omega)
    clear E EF
    go_enter Tryz.func58, Tryz.ntmps58
    go_wp2_with fail
    exact bodyPost_ret (v := .bool false) (by simp [results, Tryz.results58, go_sem] <;> omega) rfl ⟨rfl, rfl⟩
  · obtain rfl : b = true := E.out.2 (by unfold SizeB; omega)
    clear E EF
    go_enter Tryz.func58, Tryz.ntmps58
    go_wp2_with fail
    exact bodyPost_ret (v := .bool true) (by simp [results, Tryz.results58, go_sem] <;> omega) rfl ⟨rfl, rfl⟩
set_option maxHeartbeats 2000000 in
set_option maxRecDepth 100000 in
theorem may_any (W H : Int) (ad : Option Addr) (n c : Nat) (w : World) : Calls Tryz.prog 20 #[.agg #[.int .i64 W, .int .i64 H, .slice ad n c]] w fun e w' => e = .returned (.int .i64 (chk W H n)) ∧ Q w w' := by
  obtain ⟨w1, hw1⟩ : ∃ w1, w.alloc (.cells #[.int .i64 W, .int .i64 H, .slice ad n c] 26) = w1 := ⟨_, rfl⟩
  have HQ : Hid (Q w w1) := by show Q w w1; rw [← hw1]; exact (Q.refl w).cells _ _
  have k0 : w1.cell? ⟨w.heap.size, 0, none⟩ = some (.int .i64 W) := by rw [← hw1]; simp [go_sem]
  have k1 : w1.cell? ⟨w.heap.size, 1, none⟩ = some (.int .i64 H) := by rw [← hw1]; simp [go_sem]
  have k2 : w1.cell? ⟨w.heap.size, 2, none⟩ = some (.slice ad n c) := by rw [← hw1]; simp [go_sem]
  have C := hsize_b W H w1
  cases hs : sizeB W H
  · rw [hs] at C
    rw [chk_bad hs]
    go_enter Tryz.func20, Tryz.ntmps20
    go_wp2_with fail
    refine C.mono ?_
    rintro e w2 ⟨rfl, hw2⟩
    obtain rfl := hw2.symm
    clear hw2 C
    go_wp2_with fail
    go_ret
    exact ⟨rfl, HQ.out⟩
  · rw [hs] at C
    have hb := sizeB_true.1 hs
    have hb1 : 0 ≤ W * H := Int.mul_nonneg (by unfold SizeB at hb; omega) (by unfold SizeB at hb; omega)
    have hb2 : W * H ≤ 65536 := by unfold SizeB at hb; omega
    by_cases hn : (n : Int) = W * H
    · rw [chk_ok hs hn]
      have e1 : ((n : Int) != W * H) = false := by simpa using hn
      clear hn hb hs
      go_enter Tryz.func20, Tryz.ntmps20
      go_wp2_with fail
      refine C.mono ?_
      rintro e w2 ⟨rfl, hw2⟩
      obtain rfl := hw2.symm
      clear hw2 C
      go_wp2_with fail
      go_ret
      exact ⟨rfl, HQ.out⟩
    · rw [chk_count hs hn]
      have e1 : ((n : Int) != W * H) = true := by simpa using hn
      clear hn hb hs
      go_enter Tryz.func20, Tryz.ntmps20
      go_wp2_with fail
      refine C.mono ?_
      rintro e w2 ⟨rfl, hw2⟩
      obtain rfl := hw2.symm
      clear hw2 C
      go_wp2_with fail
      go_ret
      exact ⟨rfl, HQ.out⟩
end Go.Proofs.YtieojgblamkgoaaGreatDoor
/- A picture that is being built: a box with its space and its planes so far. -/
namespace Go.Proofs.YtieojgblamkgoaaGreatDoor
open Go.RowKit
set_option linter.unusedVariables false
set_option linter.unusedSimpArgs false

theorem own_up {w : World} {base base' : Nat} {e : TypeId} {size n : Nat} {v : Value} {xs : List Value} (h : w.ownsRow base e size v n xs) (hg : ∀ g, v.ownBlock = some g → base' ≤ g) : w.ownsRow base' e size v n xs := by
  refine ⟨h.1, ?_⟩
  rcases h.2 with c | ⟨g, cap, cur, h1, h2, h3⟩
  · exact Or.inl c
  · exact Or.inr ⟨g, cap, cur, h1, hg g (by rw [h1]; rfl), h3⟩
theorem run_appop {P : Program} {A : Act} {o : Oper} {x x' : World} {s u : Operand} {t : TypeId} (ho : o.op = .call { callee := .builtin .append, args := #[s, u], argTypes := #[t, t] }) {v v' r : Value} (hs : A.eval s = v) (hu : A.eval u = v') (hr : (Builtin.append_ #[t, t] o.type #[v, v']).run P x = .ok r x') : (execOp A.eval o).run P x = .ok (.value r) x' := by
  unfold execOp
  simp only [ho, resolve, invoke, builtin, Sem.run_bind, Sem.run_pure, Result.andThen_ok, List.map_toArray, List.map_cons, List.map_nil, hs, hu, hr]
end Go.Proofs.YtieojgblamkgoaaGreatDoor
/- Copies of pictures. -/
namespace Go.Proofs.YtieojgblamkgoaaGreatDoor
open Go.RowKit
end Go.Proofs.YtieojgblamkgoaaGreatDoor
/- Lifting: keys that go round; what Lift and Drop return, the program's and the document's. -/
namespace Go.Proofs.YtieojgblamkgoaaGreatDoor
open Go.RowKit
set_option linter.unusedVariables false

def a3 (x y z : Nat) : Value := .agg #[.int .u32 (x : Nat), .int .u32 (y : Nat), .int .u32 (z : Nat)]
def t3 (x y z : Nat) : Value := .tuple #[.int .u32 (x : Nat), .int .u32 (y : Nat), .int .u32 (z : Nat)]
/-- A method's three samples in a box, and the box of its answer. -/
structure B3 (w wz : World) (r g b : Nat) : Prop where
  q : Q w wz
  d0 : wz.cell? ⟨w.heap.size + 1, 0, none⟩ = some (.int .u32 (r : Int))
  d1 : wz.cell? ⟨w.heap.size + 1, 1, none⟩ = some (.int .u32 (g : Int))
  d2 : wz.cell? ⟨w.heap.size + 1, 2, none⟩ = some (.int .u32 (b : Int))
  k0 : wz.cell? ⟨w.heap.size + 1 + 1, 0, none⟩ = some (.int .u32 0)
  k1 : wz.cell? ⟨w.heap.size + 1 + 1, 1, none⟩ = some (.int .u32 0)
  k2 : wz.cell? ⟨w.heap.size + 1 + 1, 2, none⟩ = some (.int .u32 0)
  f0 : wz.frozen? ⟨w.heap.size + 1 + 1, 0, none⟩ = false
  f1 : wz.frozen? ⟨w.heap.size + 1 + 1, 1, none⟩ = false
  f2 : wz.frozen? ⟨w.heap.size + 1 + 1, 2, none⟩ = false
end Go.Proofs.YtieojgblamkgoaaGreatDoor
/- Mixing: what is done to the first three samples of each place. -/
namespace Go.Proofs.YtieojgblamkgoaaGreatDoor
open Go.RowKit
set_option linter.unusedVariables false
set_option linter.unusedSimpArgs false

end Go.Proofs.YtieojgblamkgoaaGreatDoor
/- Mixing: the walk. -/
namespace Go.Proofs.YtieojgblamkgoaaGreatDoor
open Go.RowKit
end Go.Proofs.YtieojgblamkgoaaGreatDoor
/- What is wrong with a picture. -/
namespace Go.Proofs.YtieojgblamkgoaaGreatDoor
open Go.RowKit
set_option linter.unusedVariables false
set_option linter.unusedSimpArgs false

end Go.Proofs.YtieojgblamkgoaaGreatDoor
/- Check: the walk. -/
namespace Go.Proofs.YtieojgblamkgoaaGreatDoor
open Go.RowKit
end Go.Proofs.YtieojgblamkgoaaGreatDoor
/- YCC: what ToYCC and FromYCC return. -/
namespace Go.Proofs.YtieojgblamkgoaaGreatDoor
open Go.RowKit
set_option linter.unusedVariables false

def yS (r b : Nat) : Nat := opT .add (wideW r) (wideW b)
end Go.Proofs.YtieojgblamkgoaaGreatDoor
/- Plain facts: rounding to binary64 and then to binary32 does not show where no half-way number lies near. -/
namespace Go.Proofs.YtieojgblamkgoaaGreatDoor
open Go.RowKit

end Go.Proofs.YtieojgblamkgoaaGreatDoor
/- What the reference's Of returns at binary64, and F64. -/
namespace Go.Proofs.YtieojgblamkgoaaGreatDoor
open Go.RowKit

end Go.Proofs.YtieojgblamkgoaaGreatDoor
/- Plain facts: the reference's word of binary64, put together. -/
namespace Go.Proofs.YtieojgblamkgoaaGreatDoor
open Go.RowKit

end Go.Proofs.YtieojgblamkgoaaGreatDoor
/- What the reference's Round returns at binary64: the nearest word. -/
namespace Go.Proofs.YtieojgblamkgoaaGreatDoor
open Go.RowKit

end Go.Proofs.YtieojgblamkgoaaGreatDoor
/- What the reference's Round returns at binary64 of whatever number; its Wide and Narrow. -/
namespace Go.Proofs.YtieojgblamkgoaaGreatDoor
open Go.RowKit

end Go.Proofs.YtieojgblamkgoaaGreatDoor
/- Plain facts: sums, products and quotients of two samples, rounded to binary64 and then to binary32: it does not show. -/
namespace Go.Proofs.YtieojgblamkgoaaGreatDoor
open Go.RowKit

end Go.Proofs.YtieojgblamkgoaaGreatDoor
/- Plain facts: the reference's sums, products and quotients in binary64, made narrow, are those of samples. -/
namespace Go.Proofs.YtieojgblamkgoaaGreatDoor
open Go.RowKit

end Go.Proofs.YtieojgblamkgoaaGreatDoor
/- What the reference's Wide and Narrow return. -/
namespace Go.Proofs.YtieojgblamkgoaaGreatDoor
open Go.RowKit

end Go.Proofs.YtieojgblamkgoaaGreatDoor
/- Words of binary64 as numbers of the document: sums. -/
namespace Go.Proofs.YtieojgblamkgoaaGreatDoor
open Go.RowKit
set_option linter.unusedVariables false

end Go.Proofs.YtieojgblamkgoaaGreatDoor
/- By powers of two, in binary64. -/
namespace Go.Proofs.YtieojgblamkgoaaGreatDoor
open Go.RowKit
set_option linter.unusedVariables false

end Go.Proofs.YtieojgblamkgoaaGreatDoor
/- Finite words of binary64, by what they are worth: plain. -/
namespace Go.Proofs.YtieojgblamkgoaaGreatDoor
open Go.RowKit
set_option linter.unusedVariables false

end Go.Proofs.YtieojgblamkgoaaGreatDoor
/- Plain facts: roots with one bit that tells what is left; rounding a root twice; the model's root. -/
namespace Go.Proofs.YtieojgblamkgoaaGreatDoor
open Go.RowKit

/-- The whole root. -/
structure IsRoot (n r : Nat) : Prop where
  lo : r * r ≤ n
  hi : n < (r + 1) * (r + 1)
/-- The root's digits, and one more that tells of a rest. -/
def srV (n r : Nat) : Nat := 2 * r + if r * r = n then 0 else 1
/-- Rounding a root twice doesn't show. -/
theorem twice {S n' r : Nat} (hr : IsRoot n' r) (hS : S = srV n' r) (h0 : 2 ^ 54 ≤ r) (h1 : r < 2 ^ 55) (hd : 2 ^ 61 ∣ n') : rne (rne S 3 * 8) 32 = rne S 32 := by
  obtain ⟨n1, n2⟩ := rne_near S 3
  obtain ⟨c, hc⟩ : ∃ c, c = rne S 3 := ⟨_, rfl⟩
  rw [← hc] at n1 n2 ⊢
  have e8 : (2 : Nat) ^ 3 = 8 := rfl
  rw [e8] at n1 n2
  have hS2 : S = 2 * r ∨ S = 2 * r + 1 := by rw [hS]; unfold srV; split <;> omega
  have hno : c * 8 % 4294967296 ≠ 2147483648 := by
    intro hm
    obtain ⟨q, hq⟩ : ∃ q, c * 8 = (2 * q + 1) * 2147483648 := ⟨c * 8 / 4294967296, by omega⟩
    obtain ⟨v, hv⟩ := hd
    have hC : c * 8 ≤ 2 ^ 57 := by omega
    -- 4 n' lies about the square of it
    obtain ⟨C, hCe⟩ : ∃ C, C = c * 8 := ⟨_, rfl⟩
    rw [← hCe] at hq hC n1 n2
    have a1 : C ≤ 2 * r + 5 := by omega
    have a2 : 2 * r + 2 ≤ C + 6 := by omega
    have b1 := hr.lo
    have b2 := hr.hi
    have s1 : C * C ≤ (2 * r + 5) * (2 * r + 5) := Nat.mul_le_mul a1 a1
    have s2 : (2 * r + 2) * (2 * r + 2) ≤ (C + 6) * (C + 6) := Nat.mul_le_mul a2 a2
    have t1 : (2 * r + 5) * (2 * r + 5) = 4 * (r * r) + 20 * r + 25 := by
      simp only [Nat.add_mul, Nat.mul_add, Nat.mul_assoc, Nat.mul_left_comm r 2]
      omega
    have t2 : (2 * r + 2) * (2 * r + 2) = 4 * ((r + 1) * (r + 1)) := by
      rw [show 2 * r + 2 = 2 * (r + 1) by omega, Nat.mul_mul_mul_comm]
    have t3 : (C + 6) * (C + 6) = C * C + 12 * C + 36 := by
      simp only [Nat.add_mul, Nat.mul_add]
      omega
    have t4 : C * C = (2 * q + 1) * (2 * q + 1) * 4611686018427387904 := by
      rw [hq, Nat.mul_mul_mul_comm]
    have t5 : (2 * q + 1) * (2 * q + 1) = 2 * (2 * (q * q) + 2 * q) + 1 := by
      simp only [Nat.add_mul, Nat.mul_add, Nat.mul_assoc, Nat.mul_left_comm q 2]
      omega
    rw [t5] at t4
    have e61 : (2 : Nat) ^ 61 = 2305843009213693952 := by decide
    rw [e61] at hv
    generalize q * q = qq at t4
    generalize C * C = CC at *
    generalize r * r = rr at *
    generalize (r + 1) * (r + 1) = rp at *
    omega
  have h32 : (2 : Nat) ^ 32 = 4294967296 := by decide
  have g1 : rne (c * 8) 32 = c * 8 / 4294967296 ∧ c * 8 % 4294967296 < 2147483648 ∨ rne (c * 8) 32 = c * 8 / 4294967296 + 1 ∧ 2147483648 < c * 8 % 4294967296 := by
    unfold rne
    by_cases g : goesUp (c * 8) 32
    · rw [if_pos g, h32]
      unfold goesUp at g
      rw [h32] at g
      right; exact ⟨rfl, by omega⟩
    · rw [if_neg g, h32]
      unfold goesUp at g
      rw [h32] at g
      left; exact ⟨rfl, by omega⟩
  have g2 : rne S 32 = S / 4294967296 ∧ S % 4294967296 ≤ 2147483648 ∨ rne S 32 = S / 4294967296 + 1 ∧ 2147483648 ≤ S % 4294967296 := by
    unfold rne
    by_cases g : goesUp S 32
    · rw [if_pos g, h32]
      unfold goesUp at g
      rw [h32] at g
      right; exact ⟨rfl, by omega⟩
    · rw [if_neg g, h32]
      unfold goesUp at g
      rw [h32] at g
      left; exact ⟨rfl, by omega⟩
  generalize rne (c * 8) 32 = x at g1 ⊢
  generalize rne S 32 = y at g2 ⊢
  have hc8 : c * 8 % 8 = 0 := Nat.mul_mod_left _ _
  generalize c * 8 = C at *
  omega
end Go.Proofs.YtieojgblamkgoaaGreatDoor
/- Plain facts: what the program's Sqrt tells of a number above 0: its root, rounded once; the odd cases. -/
namespace Go.Proofs.YtieojgblamkgoaaGreatDoor
open Go.RowKit

end Go.Proofs.YtieojgblamkgoaaGreatDoor
/- Plain facts: sums, products by what isn't negative, and roots rise; near numbers are taken away exactly. -/
namespace Go.Proofs.YtieojgblamkgoaaGreatDoor
open Go.RowKit
set_option linter.unusedVariables false
set_option linter.unusedSimpArgs false

end Go.Proofs.YtieojgblamkgoaaGreatDoor
/- Log and Exp: what the program returns. -/
namespace Go.Proofs.YtieojgblamkgoaaGreatDoor
open Go.RowKit
set_option linter.unusedVariables false

end Go.Proofs.YtieojgblamkgoaaGreatDoor
/- Convert: what the program returns. -/
namespace Go.Proofs.YtieojgblamkgoaaGreatDoor
open Go.RowKit
set_option linter.unusedVariables false
set_option linter.unusedSimpArgs false

end Go.Proofs.YtieojgblamkgoaaGreatDoor
/- Convert: spaces by number, and what Convert returns. -/
namespace Go.Proofs.YtieojgblamkgoaaGreatDoor
open Go.RowKit
def t4 (x y z : Nat) (e : Int) : Value := .tuple #[.int .u32 (x : Nat), .int .u32 (y : Nat), .int .u32 (z : Nat), .int .i64 e]
end Go.Proofs.YtieojgblamkgoaaGreatDoor
/- Convert. -/
namespace Go.Proofs.YtieojgblamkgoaaGreatDoor
open Go.RowKit
end Go.Proofs.YtieojgblamkgoaaGreatDoor
/- What is done to each sample: Map's loop, and a picture's planes one by one. -/
namespace Go.Proofs.YtieojgblamkgoaaGreatDoor
open Go.RowKit
set_option linter.unusedVariables false
set_option linter.unusedSimpArgs false

end Go.Proofs.YtieojgblamkgoaaGreatDoor
/- A picture's samples changed one by one. -/
namespace Go.Proofs.YtieojgblamkgoaaGreatDoor
open Go.RowKit
end Go.Proofs.YtieojgblamkgoaaGreatDoor
/- Affine and Between. -/
namespace Go.Proofs.YtieojgblamkgoaaGreatDoor
open Go.RowKit
set_option linter.unusedVariables false
set_option linter.unusedSimpArgs false

end Go.Proofs.YtieojgblamkgoaaGreatDoor
/- Matrix. -/
namespace Go.Proofs.YtieojgblamkgoaaGreatDoor
open Go.RowKit
end Go.Proofs.YtieojgblamkgoaaGreatDoor
/- Two samples put together, place by place. -/
namespace Go.Proofs.YtieojgblamkgoaaGreatDoor
open Go.RowKit
set_option linter.unusedVariables false
set_option linter.unusedSimpArgs false

structure W1 (w1 wx : World) (y : PL) (N : Nat) (t : Nat → Nat) : Prop where
  u : ∀ j, j < N → wx.cell? ⟨y.g, y.o + j, none⟩ = some (.int .u32 ((t j : Nat) : Int))
  fr : Fr w1 wx (fun b => b ≠ y.g)
  ex : ∀ (p : Addr) (v : Value), w1.cell? p = some v → ∃ u, wx.cell? p = some u
end Go.Proofs.YtieojgblamkgoaaGreatDoor
/- Two. -/
namespace Go.Proofs.YtieojgblamkgoaaGreatDoor
open Go.RowKit
end Go.Proofs.YtieojgblamkgoaaGreatDoor
/- The kinds of Two. -/
namespace Go.Proofs.YtieojgblamkgoaaGreatDoor
open Go.RowKit
set_option linter.unusedVariables false
set_option linter.unusedSimpArgs false

end Go.Proofs.YtieojgblamkgoaaGreatDoor
/- New. -/
namespace Go.Proofs.YtieojgblamkgoaaGreatDoor
open Go.RowKit
set_option linter.unusedVariables false
set_option linter.unusedSimpArgs false

end Go.Proofs.YtieojgblamkgoaaGreatDoor
/- Pictures that are the same. -/
namespace Go.Proofs.YtieojgblamkgoaaGreatDoor
open Go.RowKit
set_option linter.unusedVariables false
set_option linter.unusedSimpArgs false

end Go.Proofs.YtieojgblamkgoaaGreatDoor
/- Pictures of one place. -/
namespace Go.Proofs.YtieojgblamkgoaaGreatDoor
open Go.RowKit
set_option linter.unusedVariables false
set_option linter.unusedSimpArgs false

end Go.Proofs.YtieojgblamkgoaaGreatDoor
/- The chapter's examples: what lies where. -/
namespace Go.Proofs.YtieojgblamkgoaaGreatDoor
open Go.RowKit
set_option linter.unusedVariables false
set_option linter.unusedSimpArgs false

end Go.Proofs.YtieojgblamkgoaaGreatDoor
/- The chapter's examples: the last region. -/
namespace Go.Proofs.YtieojgblamkgoaaGreatDoor
open Go.RowKit
set_option linter.unusedVariables false
set_option linter.unusedSimpArgs false

end Go.Proofs.YtieojgblamkgoaaGreatDoor
/- The chapter's examples. -/
namespace Go.Proofs.YtieojgblamkgoaaGreatDoor
open Go.RowKit
end Go.Proofs.YtieojgblamkgoaaGreatDoor
/- A piece of a picture. -/
namespace Go.Proofs.YtieojgblamkgoaaGreatDoor
open Go.RowKit
set_option linter.unusedVariables false
set_option linter.unusedSimpArgs false

def cutL (a x0 y0 c d : Nat) (S : List Nat) : List Nat := tab c d fun x y => smp S a (x0 + x) (y0 + y)
theorem cutL_len (a x0 y0 c d : Nat) (S : List Nat) : (cutL a x0 y0 c d S).length = c * d := tab_length _ _ _
theorem cutL_lt {a x0 y0 c d : Nat} {S : List Nat} (h : ∀ i, S.getD i 0 < 4294967296) (i : Nat) : (cutL a x0 y0 c d S).getD i 0 < 4294967296 := tab_lt (by decide) (fun x y => h _) i
end Go.Proofs.YtieojgblamkgoaaGreatDoor
/- A piece of a plane, as the statements' helper makes it: row by row. -/
namespace Go.Proofs.YtieojgblamkgoaaGreatDoor
open Go.RowKit
set_option linter.unusedVariables false
set_option linter.unusedSimpArgs false

theorem wordInfo : ∃ i, Tryz.prog.info? 43 = some i ∧ i.size = 1 ∧ i.bytes = 4 ∧ i.zero = some (.int .u32 0) :=
  info_of (by kernel_rfl) (by kernel_rfl)
def wdL (xs : List Nat) : List Value := xs.map fun x : Nat => Value.int .u32 (x : Int)
theorem wdL_len (xs : List Nat) : (wdL xs).length = xs.length := List.length_map ..
theorem wdL_app (xs ys : List Nat) : wdL (xs ++ ys) = wdL xs ++ wdL ys := List.map_append ..
theorem wdL_one (xs : List Nat) : ∀ u ∈ wdL xs, u.oneCell' = true := fun u hu => by
  obtain ⟨x, _, rfl⟩ := List.mem_map.1 hu
  rfl
theorem wdL_get {xs : List Nat} {j : Nat} (h : j < xs.length) : (wdL xs)[j]? = some (.int .u32 ((xs.getD j 0 : Nat) : Int)) := by
  unfold wdL
  rw [List.getElem?_map, List.getD_eq_getElem?_getD, List.getElem?_eq_getElem h]
  rfl
/-- A plane that is being built. -/
structure Sbl (base : Nat) (w : World) (tb : Nat) (c d : Int) (v : Value) (xs : List Nat) : Prop where
  c0 : w.cell? ⟨tb, 0, none⟩ = some (.int .i64 c)
  c1 : w.cell? ⟨tb, 1, none⟩ = some (.int .i64 d)
  c2 : w.cell? ⟨tb, 2, none⟩ = some v
  fz : ∀ j, w.frozen? ⟨tb, j, none⟩ = false
  row : w.ownsRow base 43 1 v xs.length (wdL xs)
  tb : tb < base
theorem own_nx {w w' : World} {base : Nat} {e : TypeId} {size n : Nat} {v : Value} {xs : List Value} (h : w.ownsRow base e size v n xs) (q : Q w w') : w'.ownsRow base e size v n xs := (q.fr fun _ => True).row h (fun _ _ => trivial)
theorem Sbl.next {base : Nat} {w w' : World} {tb : Nat} {c d : Int} {v : Value} {xs : List Nat} (h : Sbl base w tb c d v xs) (q : Q w w') : Sbl base w' tb c d v xs :=
  ⟨q.cell h.c0, q.cell h.c1, q.cell h.c2, fun j => (q.2 _).trans (h.fz j), own_nx h.row q, h.tb⟩
theorem Sbl.app {base : Nat} {w0 w : World} {tb : Nat} {sc sd : Int} {v : Value} {xs : List Nat} (h : Sbl base w tb sc sd v xs) (q0 : Q w0 w) (hb : w0.heap.size ≤ tb) (hw : base ≤ w.heap.size) {ys : List Nat} (hy : 0 < ys.length) (hM : xs.length + ys.length ≤ 65536) {ad : Addr} {m c : Nat} (hm : ys.length = m) (hc : ∀ j u, (wdL ys)[j]? = some u → w.cell? (ad.add j) = some u) :
    ∃ g cap w', (Builtin.append_ #[24, 24] 24 #[v, .slice (some ad) m c]).run Tryz.prog w = .ok (.slice (some ⟨g, 0, none⟩) (xs.length + m) cap) w' ∧ w'.cell? ⟨tb, 2, none⟩ = some v ∧ (∀ j, w'.frozen? ⟨tb, j, none⟩ = false) ∧
      Hid (Sbl base (w'.setCell ⟨tb, 2, none⟩ (.slice (some ⟨g, 0, none⟩) (xs.length + m) cap)) tb sc sd (.slice (some ⟨g, 0, none⟩) (xs.length + m) cap) (xs ++ ys)) ∧ Hid (Q w0 (w'.setCell ⟨tb, 2, none⟩ (.slice (some ⟨g, 0, none⟩) (xs.length + m) cap))) ∧
      Hid (Fr w (w'.setCell ⟨tb, 2, none⟩ (.slice (some ⟨g, 0, none⟩) (xs.length + m) cap)) (fun b => b ≠ tb ∧ v.ownBlock ≠ some b)) := by
  subst hm
  obtain ⟨i, i1, i2, i3, i4⟩ := wordInfo
  have hle : w0.heap.size ≤ base := Nat.le_trans hb (Nat.le_of_lt h.tb)
  obtain ⟨g, cap, w', hr, o1, o2, o3, o4⟩ := run_app_qg (P := Tryz.prog) w w0 q0 24 24 43 i _ 1 4 Tryz.underlying24 i1 i4 i2 i3 rfl (by decide) v xs.length (wdL xs) (own_up h.row (fun g e => Nat.le_trans hle (own_lt h.row e).1)) ad ys.length c (wdL ys) (by rw [wdL_len, Nat.mul_one]) hc (wdL_one ys) hy (by unfold maxLen; omega) (by omega)
  have hvt : v.ownBlock ≠ some tb := fun e => by have := (own_lt h.row e).1; have := h.tb; omega
  have fz : ∀ p, w'.frozen? p = w.frozen? p := fun p => (o2.2 p).trans (q0.2 p).symm
  have hg : base ≤ g := by
    rcases o4 with e | e
    · exact (own_lt h.row e).1
    · omega
  have hgt : g ≠ tb := by have := h.tb; omega
  have ct : w'.cell? ⟨tb, 2, none⟩ = some v := o3.cell h.c2 (fun e => hvt e.symm)
  have ct0 : w'.cell? ⟨tb, 0, none⟩ = some (.int .i64 sc) := o3.cell h.c0 (fun e => hvt e.symm)
  have ct1 : w'.cell? ⟨tb, 1, none⟩ = some (.int .i64 sd) := o3.cell h.c1 (fun e => hvt e.symm)
  have F2 : Fr w' (w'.setCell ⟨tb, 2, none⟩ (.slice (some ⟨g, 0, none⟩) (xs.length + ys.length) cap)) (fun b => b ≠ tb) := (Fr.refl w' _).set (fun h => h rfl) _
  refine ⟨g, cap, w', hr, ct, fun j => (fz _).trans (h.fz j), ⟨?_, ?_, World.cell?_setCell_same _ _ _ ct, fun j => by rw [World.frozen?_setCell]; exact (fz _).trans (h.fz j), ?_, h.tb⟩, o2.set hb _, ?_⟩
  · rw [World.cell?_setCell_other _ _ _ _ (by simp)]; exact ct0
  · rw [World.cell?_setCell_other _ _ _ _ (by simp)]; exact ct1
  · rw [wdL_app, List.length_append]
    refine F2.row (own_up o1 (fun g' e => by injection e with e; rw [← e]; exact hg)) (fun x hx => ?_)
    injection hx with hx
    have hx : g = x := hx
    rw [← hx]; exact hgt
  · exact (Fr.mk o3.os o3.tape o3.output o3.size (fun x hx hR => o3.block x hx (fun e => hR.2 e.symm)) fz : Fr w w' (fun b => b ≠ tb ∧ v.ownBlock ≠ some b)).trans (F2.mono (fun x hx _ => hx.1))
theorem Sbl.start {base : Nat} {w : World} {tb : Nat} {c d : Int} (c0 : w.cell? ⟨tb, 0, none⟩ = some (.int .i64 c)) (c1 : w.cell? ⟨tb, 1, none⟩ = some (.int .i64 d)) (c2 : w.cell? ⟨tb, 2, none⟩ = some (.slice none 0 0)) (fz : ∀ j, w.frozen? ⟨tb, j, none⟩ = false) (ht : tb < base) : Sbl base w tb c d (.slice none 0 0) [] :=
  ⟨c0, c1, c2, fz, World.ownsRow_nil _ _ _ _, ht⟩
/-- At the end it is a plane of the call's own. -/
theorem Sbl.mine {base : Nat} {w : World} {tb : Nat} {c d : Int} {v : Value} {xs : List Nat} {n : Nat} (h : Sbl base w tb c d v xs) (hn : xs.length = n) (h1 : 1 ≤ n) (hlt : ∀ i, xs.getD i 0 < 4294967296) : ∃ y : PL, v = y.v ∧ y.S = xs ∧ Mine base w n y := by
  obtain ⟨h2, ⟨h3, h4⟩ | ⟨g, cap, cur, h3, hb, hg, hc, hm, hs, ht⟩⟩ := h.row
  · omega
  · refine ⟨⟨g, 0, cap, xs⟩, h3, rfl, rfl, hb, ?_, ⟨hn, hc, fun i hi => ?_, hlt⟩, fun j => frozen_of_row _ _ _ _ _ hg, fun j hj => ?_, hm⟩
    · exact (Array.getElem?_eq_some_iff.1 hg).1
    · rw [cell_of_row _ _ _ _ _ _ hg, ← wdL_get hi, ← ht, List.getElem?_take_of_lt (by have : i < xs.length := hi; omega), Nat.zero_add, Array.getElem?_toList]
    · rw [cell_of_row _ _ _ _ _ _ hg]
      have hj : j < cap := hj
      exact ⟨_, Array.getElem?_eq_getElem (by omega)⟩
theorem tab_succ (c i : Nat) (G : Nat → Nat → Nat) : tab c (i + 1) G = tab c i G ++ (List.range c).map (fun j => G j i) := by
  unfold tab
  rw [Nat.mul_succ, List.range_add, List.map_append, List.map_map]
  congr 1
  apply List.map_congr_left
  intro j hj
  have := List.mem_range.1 hj
  show G ((c * i + j) % c) ((c * i + j) / c) = G j i
  rw [Nat.mul_add_mod, Nat.mod_eq_of_lt this, Nat.mul_add_div (by omega), Nat.div_eq_of_lt this, Nat.add_zero]
end Go.Proofs.YtieojgblamkgoaaGreatDoor
