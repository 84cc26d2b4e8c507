/- The chapter's examples: known's last region. -/
import Derived.Test.YtedaacddnahjkaaG631fdf94
import Derived.Test.YtedaacddnahjkaaGbb08d0d0
namespace Go.Proofs.Ytedaacddnahjkaa
open Go.RowKit
set_option linter.unusedVariables false
set_option linter.unusedSimpArgs false

theorem lit_uis {W : World} {M : Array Value} {t : TypeId} {xs : List Nat} (hM : M = (xs.map fun x : Nat => Value.int .u32 (x : Nat)).toArray) : UIs (W.alloc (.cells M t)) W.heap.size 0 xs := fun i hi => by
  have hb : (W.alloc (.cells M t)).heap[W.heap.size]? = some (.cells M t (0, 0)) := heap_alloc_new W _
  rw [Nat.zero_add, cell_of_row _ _ i _ t (0, 0) hb, hM, List.getElem?_toArray, List.getElem?_map, List.getElem?_eq_getElem hi, List.getD_eq_getElem?_getD, List.getElem?_eq_getElem hi]
  rfl
set_option maxHeartbeats 400000 in
theorem lrow_any (ad : Option Addr) (n c : Nat) (w : World) : Calls Try.prog 27 #[.slice ad n c] w fun e w' => e = .returned (.agg #[.int .i64 (n : Int), .int .i64 1, .slice ad n c]) ∧ Q w w' := by
  go_enter Try.func27, Try.ntmps27
  go_wp2_with fail
  refine bodyPost_ret (v := .agg #[.int .i64 (n : Int), .int .i64 1, .slice ad n c]) (by simp [results, Try.results27, go_sem]) rfl ⟨rfl, ?_⟩
  first
    | exact (Q.refl w).cells _ _
    | exact ((((Q.refl w).cells _ _).set (Nat.le_refl _) _).set (Nat.le_refl _) _).set (Nat.le_refl _) _
def litS (n : Nat) (xs : List Nat) : Spec := ⟨fun v x => ∃ g, v = .slice (some ⟨g, 0, none⟩) n n ∧ UIs x g 0 xs, fun ⟨g, h1, h2⟩ q => ⟨g, h1, h2.next q⟩⟩
def rowS (n : Nat) (xs : List Nat) : Spec := ⟨fun v x => ∃ g, v = .agg #[.int .i64 (n : Int), .int .i64 1, .slice (some ⟨g, 0, none⟩) n n] ∧ UIs x g 0 xs, fun ⟨g, h1, h2⟩ q => ⟨g, h1, h2.next q⟩⟩
theorem run_andq {P : Program} {ρ : Operand → Value} {x : World} {d : Option Tmp} {ty : TypeId} {ps : String} {af : Array Edge} {g : Option (Nat × Bool)} {c j : Nat} {v u : Value} (hc : ρ (.tmp c) = .bool true) (h : ρ (.tmp j) = v) : (execOp ρ { dst := d, op := .pick (.tmp c) (.tmp j) (.const u), type := ty, pos := ps, after := af, guard := g }).run P x = .ok (.value v) x := by
  simp [execOp, hc, h, go_sem]
theorem run_asgq {P : Program} {ρ : Operand → Value} {x : World} {d : Option Tmp} {ty : TypeId} {ps : String} {af : Array Edge} {g : Option (Nat × Bool)} {j : Nat} {v : Value} (h : ρ (.tmp j) = v) : (execOp ρ { dst := d, op := .assign (.tmp j), type := ty, pos := ps, after := af, guard := g }).run P x = .ok (.value v) x := by
  simp [execOp, h, go_sem]
def oKn_0 : Oper := { dst := some 60, op := .load 43 (.tmp 5), type := 43, pos := "whatfor.go:26", after := #[], guard := none }
def oKn_1 : Oper := { dst := some 61, op := .buildSlice 41 5 #[(0, .const (.int .u32 0)), (1, .const (.int .u32 1048576000)), (2, .const (.int .u32 1056964608)), (3, .const (.int .u32 1048576000)), (4, .const (.int .u32 0))], type := 41, pos := "whatfor.go:26", after := #[], guard := none }
def oKn_2 : Oper := { dst := some 62, op := .call { callee := .value (.func 27), args := #[.tmp 61], argTypes := #[41] }, type := 43, pos := "whatfor.go:26", after := #[⟨1, .data⟩], guard := none }
def oKn_3 : Oper := { dst := some 63, op := .call { callee := .value (.func 17), args := #[.tmp 60, .tmp 62], argTypes := #[43, 43] }, type := 4, pos := "whatfor.go:26", after := #[⟨0, .data⟩, ⟨2, .data⟩, ⟨2, .chain⟩], guard := none }
def oKn_4 : Oper := { dst := some 64, op := .move (.tmp 63), type := 4, pos := "whatfor.go:26", after := #[⟨3, .data⟩, ⟨3, .chain⟩], guard := none }
def oKn_5 : Oper := { dst := some 65, op := .load 43 (.tmp 7), type := 43, pos := "whatfor.go:26", after := #[⟨4, .guard⟩], guard := some (4, true) }
def oKn_6 : Oper := { dst := some 66, op := .buildSlice 41 3 #[(0, .const (.int .u32 1065353216)), (1, .const (.int .u32 1065353216)), (2, .const (.int .u32 1065353216))], type := 41, pos := "whatfor.go:26", after := #[⟨4, .guard⟩], guard := some (4, true) }
def oKn_7 : Oper := { dst := some 67, op := .call { callee := .value (.func 27), args := #[.tmp 66], argTypes := #[41] }, type := 43, pos := "whatfor.go:26", after := #[⟨6, .data⟩, ⟨4, .chain⟩, ⟨4, .guard⟩], guard := some (4, true) }
def oKn_8 : Oper := { dst := some 68, op := .call { callee := .value (.func 17), args := #[.tmp 65, .tmp 67], argTypes := #[43, 43] }, type := 4, pos := "whatfor.go:26", after := #[⟨5, .data⟩, ⟨7, .data⟩, ⟨7, .chain⟩, ⟨4, .guard⟩], guard := some (4, true) }
def oKn_9 : Oper := { dst := some 69, op := .pick (.tmp 64) (.tmp 68) (.const (.bool false)), type := 4, pos := "whatfor.go:26", after := #[⟨4, .data⟩, ⟨8, .data⟩], guard := none }
def oKn_10 : Oper := { dst := some 70, op := .move (.tmp 69), type := 4, pos := "whatfor.go:26", after := #[⟨9, .data⟩, ⟨8, .chain⟩], guard := none }
def oKn_11 : Oper := { dst := some 71, op := .load 43 (.tmp 9), type := 43, pos := "whatfor.go:26", after := #[⟨10, .guard⟩], guard := some (10, true) }
def oKn_12 : Oper := { dst := some 72, op := .buildSlice 41 3 #[(0, .const (.int .u32 1056964608)), (1, .const (.int .u32 1069547520)), (2, .const (.int .u32 1065353216))], type := 41, pos := "whatfor.go:26", after := #[⟨10, .guard⟩], guard := some (10, true) }
def oKn_13 : Oper := { dst := some 73, op := .call { callee := .value (.func 27), args := #[.tmp 72], argTypes := #[41] }, type := 43, pos := "whatfor.go:26", after := #[⟨12, .data⟩, ⟨10, .chain⟩, ⟨10, .guard⟩], guard := some (10, true) }
def oKn_14 : Oper := { dst := some 74, op := .call { callee := .value (.func 17), args := #[.tmp 71, .tmp 73], argTypes := #[43, 43] }, type := 4, pos := "whatfor.go:26", after := #[⟨11, .data⟩, ⟨13, .data⟩, ⟨13, .chain⟩, ⟨10, .guard⟩], guard := some (10, true) }
def oKn_15 : Oper := { dst := some 75, op := .pick (.tmp 70) (.tmp 74) (.const (.bool false)), type := 4, pos := "whatfor.go:26", after := #[⟨10, .data⟩, ⟨14, .data⟩], guard := none }
def oKn_16 : Oper := { dst := some 76, op := .move (.tmp 75), type := 4, pos := "whatfor.go:26", after := #[⟨15, .data⟩, ⟨14, .chain⟩], guard := none }
def oKn_17 : Oper := { dst := some 77, op := .load 43 (.tmp 10), type := 43, pos := "whatfor.go:26", after := #[⟨16, .guard⟩], guard := some (16, true) }
def oKn_18 : Oper := { dst := some 78, op := .buildSlice 41 3 #[(0, .const (.int .u32 0)), (1, .const (.int .u32 0)), (2, .const (.int .u32 0))], type := 41, pos := "whatfor.go:26", after := #[⟨16, .guard⟩], guard := some (16, true) }
def oKn_19 : Oper := { dst := some 79, op := .call { callee := .value (.func 27), args := #[.tmp 78], argTypes := #[41] }, type := 43, pos := "whatfor.go:26", after := #[⟨18, .data⟩, ⟨16, .chain⟩, ⟨16, .guard⟩], guard := some (16, true) }
def oKn_20 : Oper := { dst := some 80, op := .call { callee := .value (.func 17), args := #[.tmp 77, .tmp 79], argTypes := #[43, 43] }, type := 4, pos := "whatfor.go:26", after := #[⟨17, .data⟩, ⟨19, .data⟩, ⟨19, .chain⟩, ⟨16, .guard⟩], guard := some (16, true) }
def oKn_21 : Oper := { dst := some 81, op := .pick (.tmp 76) (.tmp 80) (.const (.bool false)), type := 4, pos := "whatfor.go:26", after := #[⟨16, .data⟩, ⟨20, .data⟩], guard := none }
def oKn_22 : Oper := { dst := some 0, op := .assign (.tmp 81), type := 4, pos := "whatfor.go:26", after := #[⟨21, .data⟩, ⟨20, .chain⟩, ⟨0, .phase⟩, ⟨1, .phase⟩, ⟨2, .phase⟩, ⟨3, .phase⟩, ⟨4, .phase⟩, ⟨5, .phase⟩, ⟨6, .phase⟩, ⟨7, .phase⟩, ⟨8, .phase⟩, ⟨9, .phase⟩, ⟨10, .phase⟩, ⟨11, .phase⟩, ⟨12, .phase⟩, ⟨13, .phase⟩, ⟨14, .phase⟩, ⟨15, .phase⟩, ⟨16, .phase⟩, ⟨17, .phase⟩, ⟨18, .phase⟩, ⟨19, .phase⟩, ⟨20, .phase⟩, ⟨21, .phase⟩], guard := none }
def opsKn : List Oper := [oKn_0, oKn_1, oKn_2, oKn_3, oKn_4, oKn_5, oKn_6, oKn_7, oKn_8, oKn_9, oKn_10, oKn_11, oKn_12, oKn_13, oKn_14, oKn_15, oKn_16, oKn_17, oKn_18, oKn_19, oKn_20, oKn_21, oKn_22]
def sKn : List Nat := [60, 61, 62, 63, 64, 65, 66, 67, 68, 69, 70, 71, 72, 73, 74, 75, 76, 77, 78, 79, 80, 81, 0]
def spKn (V5 V7 V9 V10 g5 g7 g9 g10 : Nat) : List Spec := [spV (.agg #[.int .i64 5, .int .i64 1, .slice (some ⟨g5, 0, none⟩) 5 5]), litS 5 [0, 1048576000, 1056964608, 1048576000, 0], rowS 5 [0, 1048576000, 1056964608, 1048576000, 0], spV (.bool true), spV (.bool true), spV (.agg #[.int .i64 3, .int .i64 1, .slice (some ⟨g7, 0, none⟩) 3 3]), litS 3 [1065353216, 1065353216, 1065353216], rowS 3 [1065353216, 1065353216, 1065353216], spV (.bool true), spV (.bool true), spV (.bool true), spV (.agg #[.int .i64 3, .int .i64 1, .slice (some ⟨g9, 0, none⟩) 3 3]), litS 3 [1056964608, 1069547520, 1065353216], rowS 3 [1056964608, 1069547520, 1065353216], spV (.bool true), spV (.bool true), spV (.bool true), spV (.agg #[.int .i64 3, .int .i64 1, .slice (some ⟨g10, 0, none⟩) 3 3]), litS 3 [0, 0, 0], rowS 3 [0, 0, 0], spV (.bool true), spV (.bool true), spV (.bool true)]
structure EnvKn (a0 : Act) (w : World) (V5 V7 V9 V10 g5 g7 g9 g10 : Nat) : Prop where
  h5 : a0.tmps[5]? = some (.pointer (some ⟨V5, 0, none⟩))
  a5 : w.cell? ⟨V5, 0, none⟩ = some (.int .i64 5)
  b5 : w.cell? ⟨V5, 1, none⟩ = some (.int .i64 1)
  c5 : w.cell? ⟨V5, 2, none⟩ = some (.slice (some ⟨g5, 0, none⟩) 5 5)
  u5 : UIs w g5 0 [0, 1048576000, 1056964608, 1048576000, 0]
  h7 : a0.tmps[7]? = some (.pointer (some ⟨V7, 0, none⟩))
  a7 : w.cell? ⟨V7, 0, none⟩ = some (.int .i64 3)
  b7 : w.cell? ⟨V7, 1, none⟩ = some (.int .i64 1)
  c7 : w.cell? ⟨V7, 2, none⟩ = some (.slice (some ⟨g7, 0, none⟩) 3 3)
  u7 : UIs w g7 0 [1065353216, 1065353216, 1065353216]
  h9 : a0.tmps[9]? = some (.pointer (some ⟨V9, 0, none⟩))
  a9 : w.cell? ⟨V9, 0, none⟩ = some (.int .i64 3)
  b9 : w.cell? ⟨V9, 1, none⟩ = some (.int .i64 1)
  c9 : w.cell? ⟨V9, 2, none⟩ = some (.slice (some ⟨g9, 0, none⟩) 3 3)
  u9 : UIs w g9 0 [1056964608, 1069547520, 1065353216]
  h10 : a0.tmps[10]? = some (.pointer (some ⟨V10, 0, none⟩))
  a10 : w.cell? ⟨V10, 0, none⟩ = some (.int .i64 3)
  b10 : w.cell? ⟨V10, 1, none⟩ = some (.int .i64 1)
  c10 : w.cell? ⟨V10, 2, none⟩ = some (.slice (some ⟨g10, 0, none⟩) 3 3)
  u10 : UIs w g10 0 [0, 0, 0]
def skKn (i : Nat) : Bool := [].contains i
theorem yKn_0 {a0 : Act} {w : World} {V5 V7 V9 V10 g5 g7 g9 g10 : Nat} (E : EnvKn a0 w V5 V7 V9 V10 g5 g7 g9 g10) {R : Exit → Act → World → Prop} {a : Act} {x : World} (q : Q w x) (oth : ∀ j, j ∉ sKn → a.tmps[j]? = a0.tmps[j]?) (dep : ∀ ed ∈ oKn_0.after, Region.binds .any ed = true → ∀ t', sKn[ed.on]? = some t' → ∃ v, a.tmps[t']? = some v ∧ specAt (spKn V5 V7 V9 V10 g5 g7 g9 g10) ed.on v x) : Yld Try.prog R oKn_0 a x 60 (specAt (spKn V5 V7 V9 V10 g5 g7 g9 g10) 0) := by
  have hs := (oth 5 (by decide)).trans E.h5
  have c0 := q.cell E.a5
  have c1 := q.cell E.b5
  have c2 := q.cell E.c5
  exact yld_run (x' := x) rfl (by simp [oKn_0, execOp, go_sem, hs, c0, c1, c2]) (Q.refl x) rfl
theorem yKn_1 {a0 : Act} {w : World} {V5 V7 V9 V10 g5 g7 g9 g10 : Nat} (E : EnvKn a0 w V5 V7 V9 V10 g5 g7 g9 g10) {R : Exit → Act → World → Prop} {a : Act} {x : World} (q : Q w x) (oth : ∀ j, j ∉ sKn → a.tmps[j]? = a0.tmps[j]?) (dep : ∀ ed ∈ oKn_1.after, Region.binds .any ed = true → ∀ t', sKn[ed.on]? = some t' → ∃ v, a.tmps[t']? = some v ∧ specAt (spKn V5 V7 V9 V10 g5 g7 g9 g10) ed.on v x) : Yld Try.prog R oKn_1 a x 61 (specAt (spKn V5 V7 V9 V10 g5 g7 g9 g10) 1) := by
  exact yld_run (x' := x.alloc (.cells (([0, 1048576000, 1056964608, 1048576000, 0] : List Nat).map fun y : Nat => Value.int .u32 (y : Nat)).toArray 63)) (v := .slice (some ⟨x.heap.size, 0, none⟩) 5 5) rfl (by simp [oKn_1, execOp, go_sem]) ((Q.refl x).cells _ _) ⟨x.heap.size, rfl, lit_uis rfl⟩
theorem yKn_2 {a0 : Act} {w : World} {V5 V7 V9 V10 g5 g7 g9 g10 : Nat} (E : EnvKn a0 w V5 V7 V9 V10 g5 g7 g9 g10) {R : Exit → Act → World → Prop} {a : Act} {x : World} (q : Q w x) (oth : ∀ j, j ∉ sKn → a.tmps[j]? = a0.tmps[j]?) (dep : ∀ ed ∈ oKn_2.after, Region.binds .any ed = true → ∀ t', sKn[ed.on]? = some t' → ∃ v, a.tmps[t']? = some v ∧ specAt (spKn V5 V7 V9 V10 g5 g7 g9 g10) ed.on v x) : Yld Try.prog R oKn_2 a x 62 (specAt (spKn V5 V7 V9 V10 g5 g7 g9 g10) 2) := by
  obtain ⟨v1, t1, f1⟩ := dep ⟨1, .data⟩ (by simp [oKn_2]) rfl 61 rfl
  have f1 : (litS 5 [0, 1048576000, 1056964608, 1048576000, 0]).p v1 x := f1
  obtain ⟨g, rfl, hu⟩ := f1
  refine yld_call (enters_of Try.func27 (by kernel_rfl) rfl) (vs := #[.slice (some ⟨g, 0, none⟩) 5 5]) (by simp [tmp_eval t1]) ((lrow_any (some ⟨g, 0, none⟩) 5 5 x).mono ?_)
  rintro u x' ⟨rfl, q'⟩
  exact ⟨_, rfl, q', g, rfl, hu.next q'⟩
theorem yKn_3 {a0 : Act} {w : World} {V5 V7 V9 V10 g5 g7 g9 g10 : Nat} (E : EnvKn a0 w V5 V7 V9 V10 g5 g7 g9 g10) {R : Exit → Act → World → Prop} {a : Act} {x : World} (q : Q w x) (oth : ∀ j, j ∉ sKn → a.tmps[j]? = a0.tmps[j]?) (dep : ∀ ed ∈ oKn_3.after, Region.binds .any ed = true → ∀ t', sKn[ed.on]? = some t' → ∃ v, a.tmps[t']? = some v ∧ specAt (spKn V5 V7 V9 V10 g5 g7 g9 g10) ed.on v x) : Yld Try.prog R oKn_3 a x 63 (specAt (spKn V5 V7 V9 V10 g5 g7 g9 g10) 3) := by
  obtain ⟨v0, t0, f0⟩ := dep ⟨0, .data⟩ (by simp [oKn_3]) rfl 60 rfl
  have f0 : v0 = (.agg #[.int .i64 5, .int .i64 1, .slice (some ⟨g5, 0, none⟩) 5 5]) := f0
  subst f0
  obtain ⟨v2, t2, f2⟩ := dep ⟨2, .data⟩ (by simp [oKn_3]) rfl 62 rfl
  have f2 : (rowS 5 [0, 1048576000, 1056964608, 1048576000, 0]).p v2 x := f2
  obtain ⟨g, rfl, hu⟩ := f2
  refine yld_call (enters_of Try.func17 (by kernel_rfl) rfl) (vs := #[.agg #[.int .i64 5, .int .i64 1, .slice (some ⟨g5, 0, none⟩) 5 5], .agg #[.int .i64 5, .int .i64 1, .slice (some ⟨g, 0, none⟩) 5 5]]) (by simp [tmp_eval t0, tmp_eval t2]) ((hplanes_yes 5 1 (some ⟨g5, 0, none⟩) (some ⟨g, 0, none⟩) 5 5 5 [0, 1048576000, 1056964608, 1048576000, 0] x ((E.u5.next q).usl (cap := 5) (by decide)) (hu.usl (cap := 5) (by decide)) (by decide)).mono ?_)
  rintro u x' ⟨rfl, q'⟩
  exact ⟨_, rfl, q', rfl⟩
theorem yKn_4 {a0 : Act} {w : World} {V5 V7 V9 V10 g5 g7 g9 g10 : Nat} (E : EnvKn a0 w V5 V7 V9 V10 g5 g7 g9 g10) {R : Exit → Act → World → Prop} {a : Act} {x : World} (q : Q w x) (oth : ∀ j, j ∉ sKn → a.tmps[j]? = a0.tmps[j]?) (dep : ∀ ed ∈ oKn_4.after, Region.binds .any ed = true → ∀ t', sKn[ed.on]? = some t' → ∃ v, a.tmps[t']? = some v ∧ specAt (spKn V5 V7 V9 V10 g5 g7 g9 g10) ed.on v x) : Yld Try.prog R oKn_4 a x 64 (specAt (spKn V5 V7 V9 V10 g5 g7 g9 g10) 4) := by
  obtain ⟨v3, t3, f3⟩ := dep ⟨3, .data⟩ (by simp [oKn_4]) rfl 63 rfl
  have f3 : v3 = (.bool true) := f3
  subst f3
  exact yld_move t3 rfl
theorem yKn_5 {a0 : Act} {w : World} {V5 V7 V9 V10 g5 g7 g9 g10 : Nat} (E : EnvKn a0 w V5 V7 V9 V10 g5 g7 g9 g10) {R : Exit → Act → World → Prop} {a : Act} {x : World} (q : Q w x) (oth : ∀ j, j ∉ sKn → a.tmps[j]? = a0.tmps[j]?) (dep : ∀ ed ∈ oKn_5.after, Region.binds .any ed = true → ∀ t', sKn[ed.on]? = some t' → ∃ v, a.tmps[t']? = some v ∧ specAt (spKn V5 V7 V9 V10 g5 g7 g9 g10) ed.on v x) : Yld Try.prog R oKn_5 a x 65 (specAt (spKn V5 V7 V9 V10 g5 g7 g9 g10) 5) := by
  have hs := (oth 7 (by decide)).trans E.h7
  have c0 := q.cell E.a7
  have c1 := q.cell E.b7
  have c2 := q.cell E.c7
  exact yld_run (x' := x) rfl (by simp [oKn_5, execOp, go_sem, hs, c0, c1, c2]) (Q.refl x) rfl
theorem yKn_6 {a0 : Act} {w : World} {V5 V7 V9 V10 g5 g7 g9 g10 : Nat} (E : EnvKn a0 w V5 V7 V9 V10 g5 g7 g9 g10) {R : Exit → Act → World → Prop} {a : Act} {x : World} (q : Q w x) (oth : ∀ j, j ∉ sKn → a.tmps[j]? = a0.tmps[j]?) (dep : ∀ ed ∈ oKn_6.after, Region.binds .any ed = true → ∀ t', sKn[ed.on]? = some t' → ∃ v, a.tmps[t']? = some v ∧ specAt (spKn V5 V7 V9 V10 g5 g7 g9 g10) ed.on v x) : Yld Try.prog R oKn_6 a x 66 (specAt (spKn V5 V7 V9 V10 g5 g7 g9 g10) 6) := by
  exact yld_run (x' := x.alloc (.cells (([1065353216, 1065353216, 1065353216] : List Nat).map fun y : Nat => Value.int .u32 (y : Nat)).toArray 63)) (v := .slice (some ⟨x.heap.size, 0, none⟩) 3 3) rfl (by simp [oKn_6, execOp, go_sem]) ((Q.refl x).cells _ _) ⟨x.heap.size, rfl, lit_uis rfl⟩
theorem yKn_7 {a0 : Act} {w : World} {V5 V7 V9 V10 g5 g7 g9 g10 : Nat} (E : EnvKn a0 w V5 V7 V9 V10 g5 g7 g9 g10) {R : Exit → Act → World → Prop} {a : Act} {x : World} (q : Q w x) (oth : ∀ j, j ∉ sKn → a.tmps[j]? = a0.tmps[j]?) (dep : ∀ ed ∈ oKn_7.after, Region.binds .any ed = true → ∀ t', sKn[ed.on]? = some t' → ∃ v, a.tmps[t']? = some v ∧ specAt (spKn V5 V7 V9 V10 g5 g7 g9 g10) ed.on v x) : Yld Try.prog R oKn_7 a x 67 (specAt (spKn V5 V7 V9 V10 g5 g7 g9 g10) 7) := by
  obtain ⟨v6, t6, f6⟩ := dep ⟨6, .data⟩ (by simp [oKn_7]) rfl 66 rfl
  have f6 : (litS 3 [1065353216, 1065353216, 1065353216]).p v6 x := f6
  obtain ⟨g, rfl, hu⟩ := f6
  refine yld_call (enters_of Try.func27 (by kernel_rfl) rfl) (vs := #[.slice (some ⟨g, 0, none⟩) 3 3]) (by simp [tmp_eval t6]) ((lrow_any (some ⟨g, 0, none⟩) 3 3 x).mono ?_)
  rintro u x' ⟨rfl, q'⟩
  exact ⟨_, rfl, q', g, rfl, hu.next q'⟩
theorem yKn_8 {a0 : Act} {w : World} {V5 V7 V9 V10 g5 g7 g9 g10 : Nat} (E : EnvKn a0 w V5 V7 V9 V10 g5 g7 g9 g10) {R : Exit → Act → World → Prop} {a : Act} {x : World} (q : Q w x) (oth : ∀ j, j ∉ sKn → a.tmps[j]? = a0.tmps[j]?) (dep : ∀ ed ∈ oKn_8.after, Region.binds .any ed = true → ∀ t', sKn[ed.on]? = some t' → ∃ v, a.tmps[t']? = some v ∧ specAt (spKn V5 V7 V9 V10 g5 g7 g9 g10) ed.on v x) : Yld Try.prog R oKn_8 a x 68 (specAt (spKn V5 V7 V9 V10 g5 g7 g9 g10) 8) := by
  obtain ⟨v5, t5, f5⟩ := dep ⟨5, .data⟩ (by simp [oKn_8]) rfl 65 rfl
  have f5 : v5 = (.agg #[.int .i64 3, .int .i64 1, .slice (some ⟨g7, 0, none⟩) 3 3]) := f5
  subst f5
  obtain ⟨v7, t7, f7⟩ := dep ⟨7, .data⟩ (by simp [oKn_8]) rfl 67 rfl
  have f7 : (rowS 3 [1065353216, 1065353216, 1065353216]).p v7 x := f7
  obtain ⟨g, rfl, hu⟩ := f7
  refine yld_call (enters_of Try.func17 (by kernel_rfl) rfl) (vs := #[.agg #[.int .i64 3, .int .i64 1, .slice (some ⟨g7, 0, none⟩) 3 3], .agg #[.int .i64 3, .int .i64 1, .slice (some ⟨g, 0, none⟩) 3 3]]) (by simp [tmp_eval t5, tmp_eval t7]) ((hplanes_yes 3 1 (some ⟨g7, 0, none⟩) (some ⟨g, 0, none⟩) 3 3 3 [1065353216, 1065353216, 1065353216] x ((E.u7.next q).usl (cap := 3) (by decide)) (hu.usl (cap := 3) (by decide)) (by decide)).mono ?_)
  rintro u x' ⟨rfl, q'⟩
  exact ⟨_, rfl, q', rfl⟩
theorem yKn_9 {a0 : Act} {w : World} {V5 V7 V9 V10 g5 g7 g9 g10 : Nat} (E : EnvKn a0 w V5 V7 V9 V10 g5 g7 g9 g10) {R : Exit → Act → World → Prop} {a : Act} {x : World} (q : Q w x) (oth : ∀ j, j ∉ sKn → a.tmps[j]? = a0.tmps[j]?) (dep : ∀ ed ∈ oKn_9.after, Region.binds .any ed = true → ∀ t', sKn[ed.on]? = some t' → ∃ v, a.tmps[t']? = some v ∧ specAt (spKn V5 V7 V9 V10 g5 g7 g9 g10) ed.on v x) : Yld Try.prog R oKn_9 a x 69 (specAt (spKn V5 V7 V9 V10 g5 g7 g9 g10) 9) := by
  obtain ⟨v4, t4, f4⟩ := dep ⟨4, .data⟩ (by simp [oKn_9]) rfl 64 rfl
  have f4 : v4 = (.bool true) := f4
  subst f4
  obtain ⟨v8, t8, f8⟩ := dep ⟨8, .data⟩ (by simp [oKn_9]) rfl 68 rfl
  have f8 : v8 = (.bool true) := f8
  subst f8
  exact yld_run (x' := x) rfl (run_andq (tmp_eval t4) (tmp_eval t8)) (Q.refl x) rfl
theorem yKn_10 {a0 : Act} {w : World} {V5 V7 V9 V10 g5 g7 g9 g10 : Nat} (E : EnvKn a0 w V5 V7 V9 V10 g5 g7 g9 g10) {R : Exit → Act → World → Prop} {a : Act} {x : World} (q : Q w x) (oth : ∀ j, j ∉ sKn → a.tmps[j]? = a0.tmps[j]?) (dep : ∀ ed ∈ oKn_10.after, Region.binds .any ed = true → ∀ t', sKn[ed.on]? = some t' → ∃ v, a.tmps[t']? = some v ∧ specAt (spKn V5 V7 V9 V10 g5 g7 g9 g10) ed.on v x) : Yld Try.prog R oKn_10 a x 70 (specAt (spKn V5 V7 V9 V10 g5 g7 g9 g10) 10) := by
  obtain ⟨v9, t9, f9⟩ := dep ⟨9, .data⟩ (by simp [oKn_10]) rfl 69 rfl
  have f9 : v9 = (.bool true) := f9
  subst f9
  exact yld_move t9 rfl
theorem yKn_11 {a0 : Act} {w : World} {V5 V7 V9 V10 g5 g7 g9 g10 : Nat} (E : EnvKn a0 w V5 V7 V9 V10 g5 g7 g9 g10) {R : Exit → Act → World → Prop} {a : Act} {x : World} (q : Q w x) (oth : ∀ j, j ∉ sKn → a.tmps[j]? = a0.tmps[j]?) (dep : ∀ ed ∈ oKn_11.after, Region.binds .any ed = true → ∀ t', sKn[ed.on]? = some t' → ∃ v, a.tmps[t']? = some v ∧ specAt (spKn V5 V7 V9 V10 g5 g7 g9 g10) ed.on v x) : Yld Try.prog R oKn_11 a x 71 (specAt (spKn V5 V7 V9 V10 g5 g7 g9 g10) 11) := by
  have hs := (oth 9 (by decide)).trans E.h9
  have c0 := q.cell E.a9
  have c1 := q.cell E.b9
  have c2 := q.cell E.c9
  exact yld_run (x' := x) rfl (by simp [oKn_11, execOp, go_sem, hs, c0, c1, c2]) (Q.refl x) rfl
theorem yKn_12 {a0 : Act} {w : World} {V5 V7 V9 V10 g5 g7 g9 g10 : Nat} (E : EnvKn a0 w V5 V7 V9 V10 g5 g7 g9 g10) {R : Exit → Act → World → Prop} {a : Act} {x : World} (q : Q w x) (oth : ∀ j, j ∉ sKn → a.tmps[j]? = a0.tmps[j]?) (dep : ∀ ed ∈ oKn_12.after, Region.binds .any ed = true → ∀ t', sKn[ed.on]? = some t' → ∃ v, a.tmps[t']? = some v ∧ specAt (spKn V5 V7 V9 V10 g5 g7 g9 g10) ed.on v x) : Yld Try.prog R oKn_12 a x 72 (specAt (spKn V5 V7 V9 V10 g5 g7 g9 g10) 12) := by
  exact yld_run (x' := x.alloc (.cells (([1056964608, 1069547520, 1065353216] : List Nat).map fun y : Nat => Value.int .u32 (y : Nat)).toArray 63)) (v := .slice (some ⟨x.heap.size, 0, none⟩) 3 3) rfl (by simp [oKn_12, execOp, go_sem]) ((Q.refl x).cells _ _) ⟨x.heap.size, rfl, lit_uis rfl⟩
theorem yKn_13 {a0 : Act} {w : World} {V5 V7 V9 V10 g5 g7 g9 g10 : Nat} (E : EnvKn a0 w V5 V7 V9 V10 g5 g7 g9 g10) {R : Exit → Act → World → Prop} {a : Act} {x : World} (q : Q w x) (oth : ∀ j, j ∉ sKn → a.tmps[j]? = a0.tmps[j]?) (dep : ∀ ed ∈ oKn_13.after, Region.binds .any ed = true → ∀ t', sKn[ed.on]? = some t' → ∃ v, a.tmps[t']? = some v ∧ specAt (spKn V5 V7 V9 V10 g5 g7 g9 g10) ed.on v x) : Yld Try.prog R oKn_13 a x 73 (specAt (spKn V5 V7 V9 V10 g5 g7 g9 g10) 13) := by
  obtain ⟨v12, t12, f12⟩ := dep ⟨12, .data⟩ (by simp [oKn_13]) rfl 72 rfl
  have f12 : (litS 3 [1056964608, 1069547520, 1065353216]).p v12 x := f12
  obtain ⟨g, rfl, hu⟩ := f12
  refine yld_call (enters_of Try.func27 (by kernel_rfl) rfl) (vs := #[.slice (some ⟨g, 0, none⟩) 3 3]) (by simp [tmp_eval t12]) ((lrow_any (some ⟨g, 0, none⟩) 3 3 x).mono ?_)
  rintro u x' ⟨rfl, q'⟩
  exact ⟨_, rfl, q', g, rfl, hu.next q'⟩
theorem yKn_14 {a0 : Act} {w : World} {V5 V7 V9 V10 g5 g7 g9 g10 : Nat} (E : EnvKn a0 w V5 V7 V9 V10 g5 g7 g9 g10) {R : Exit → Act → World → Prop} {a : Act} {x : World} (q : Q w x) (oth : ∀ j, j ∉ sKn → a.tmps[j]? = a0.tmps[j]?) (dep : ∀ ed ∈ oKn_14.after, Region.binds .any ed = true → ∀ t', sKn[ed.on]? = some t' → ∃ v, a.tmps[t']? = some v ∧ specAt (spKn V5 V7 V9 V10 g5 g7 g9 g10) ed.on v x) : Yld Try.prog R oKn_14 a x 74 (specAt (spKn V5 V7 V9 V10 g5 g7 g9 g10) 14) := by
  obtain ⟨v11, t11, f11⟩ := dep ⟨11, .data⟩ (by simp [oKn_14]) rfl 71 rfl
  have f11 : v11 = (.agg #[.int .i64 3, .int .i64 1, .slice (some ⟨g9, 0, none⟩) 3 3]) := f11
  subst f11
  obtain ⟨v13, t13, f13⟩ := dep ⟨13, .data⟩ (by simp [oKn_14]) rfl 73 rfl
  have f13 : (rowS 3 [1056964608, 1069547520, 1065353216]).p v13 x := f13
  obtain ⟨g, rfl, hu⟩ := f13
  refine yld_call (enters_of Try.func17 (by kernel_rfl) rfl) (vs := #[.agg #[.int .i64 3, .int .i64 1, .slice (some ⟨g9, 0, none⟩) 3 3], .agg #[.int .i64 3, .int .i64 1, .slice (some ⟨g, 0, none⟩) 3 3]]) (by simp [tmp_eval t11, tmp_eval t13]) ((hplanes_yes 3 1 (some ⟨g9, 0, none⟩) (some ⟨g, 0, none⟩) 3 3 3 [1056964608, 1069547520, 1065353216] x ((E.u9.next q).usl (cap := 3) (by decide)) (hu.usl (cap := 3) (by decide)) (by decide)).mono ?_)
  rintro u x' ⟨rfl, q'⟩
  exact ⟨_, rfl, q', rfl⟩
theorem yKn_15 {a0 : Act} {w : World} {V5 V7 V9 V10 g5 g7 g9 g10 : Nat} (E : EnvKn a0 w V5 V7 V9 V10 g5 g7 g9 g10) {R : Exit → Act → World → Prop} {a : Act} {x : World} (q : Q w x) (oth : ∀ j, j ∉ sKn → a.tmps[j]? = a0.tmps[j]?) (dep : ∀ ed ∈ oKn_15.after, Region.binds .any ed = true → ∀ t', sKn[ed.on]? = some t' → ∃ v, a.tmps[t']? = some v ∧ specAt (spKn V5 V7 V9 V10 g5 g7 g9 g10) ed.on v x) : Yld Try.prog R oKn_15 a x 75 (specAt (spKn V5 V7 V9 V10 g5 g7 g9 g10) 15) := by
  obtain ⟨v10, t10, f10⟩ := dep ⟨10, .data⟩ (by simp [oKn_15]) rfl 70 rfl
  have f10 : v10 = (.bool true) := f10
  subst f10
  obtain ⟨v14, t14, f14⟩ := dep ⟨14, .data⟩ (by simp [oKn_15]) rfl 74 rfl
  have f14 : v14 = (.bool true) := f14
  subst f14
  exact yld_run (x' := x) rfl (run_andq (tmp_eval t10) (tmp_eval t14)) (Q.refl x) rfl
theorem yKn_16 {a0 : Act} {w : World} {V5 V7 V9 V10 g5 g7 g9 g10 : Nat} (E : EnvKn a0 w V5 V7 V9 V10 g5 g7 g9 g10) {R : Exit → Act → World → Prop} {a : Act} {x : World} (q : Q w x) (oth : ∀ j, j ∉ sKn → a.tmps[j]? = a0.tmps[j]?) (dep : ∀ ed ∈ oKn_16.after, Region.binds .any ed = true → ∀ t', sKn[ed.on]? = some t' → ∃ v, a.tmps[t']? = some v ∧ specAt (spKn V5 V7 V9 V10 g5 g7 g9 g10) ed.on v x) : Yld Try.prog R oKn_16 a x 76 (specAt (spKn V5 V7 V9 V10 g5 g7 g9 g10) 16) := by
  obtain ⟨v15, t15, f15⟩ := dep ⟨15, .data⟩ (by simp [oKn_16]) rfl 75 rfl
  have f15 : v15 = (.bool true) := f15
  subst f15
  exact yld_move t15 rfl
theorem yKn_17 {a0 : Act} {w : World} {V5 V7 V9 V10 g5 g7 g9 g10 : Nat} (E : EnvKn a0 w V5 V7 V9 V10 g5 g7 g9 g10) {R : Exit → Act → World → Prop} {a : Act} {x : World} (q : Q w x) (oth : ∀ j, j ∉ sKn → a.tmps[j]? = a0.tmps[j]?) (dep : ∀ ed ∈ oKn_17.after, Region.binds .any ed = true → ∀ t', sKn[ed.on]? = some t' → ∃ v, a.tmps[t']? = some v ∧ specAt (spKn V5 V7 V9 V10 g5 g7 g9 g10) ed.on v x) : Yld Try.prog R oKn_17 a x 77 (specAt (spKn V5 V7 V9 V10 g5 g7 g9 g10) 17) := by
  have hs := (oth 10 (by decide)).trans E.h10
  have c0 := q.cell E.a10
  have c1 := q.cell E.b10
  have c2 := q.cell E.c10
  exact yld_run (x' := x) rfl (by simp [oKn_17, execOp, go_sem, hs, c0, c1, c2]) (Q.refl x) rfl
theorem yKn_18 {a0 : Act} {w : World} {V5 V7 V9 V10 g5 g7 g9 g10 : Nat} (E : EnvKn a0 w V5 V7 V9 V10 g5 g7 g9 g10) {R : Exit → Act → World → Prop} {a : Act} {x : World} (q : Q w x) (oth : ∀ j, j ∉ sKn → a.tmps[j]? = a0.tmps[j]?) (dep : ∀ ed ∈ oKn_18.after, Region.binds .any ed = true → ∀ t', sKn[ed.on]? = some t' → ∃ v, a.tmps[t']? = some v ∧ specAt (spKn V5 V7 V9 V10 g5 g7 g9 g10) ed.on v x) : Yld Try.prog R oKn_18 a x 78 (specAt (spKn V5 V7 V9 V10 g5 g7 g9 g10) 18) := by
  exact yld_run (x' := x.alloc (.cells (([0, 0, 0] : List Nat).map fun y : Nat => Value.int .u32 (y : Nat)).toArray 63)) (v := .slice (some ⟨x.heap.size, 0, none⟩) 3 3) rfl (by simp [oKn_18, execOp, go_sem]) ((Q.refl x).cells _ _) ⟨x.heap.size, rfl, lit_uis rfl⟩
theorem yKn_19 {a0 : Act} {w : World} {V5 V7 V9 V10 g5 g7 g9 g10 : Nat} (E : EnvKn a0 w V5 V7 V9 V10 g5 g7 g9 g10) {R : Exit → Act → World → Prop} {a : Act} {x : World} (q : Q w x) (oth : ∀ j, j ∉ sKn → a.tmps[j]? = a0.tmps[j]?) (dep : ∀ ed ∈ oKn_19.after, Region.binds .any ed = true → ∀ t', sKn[ed.on]? = some t' → ∃ v, a.tmps[t']? = some v ∧ specAt (spKn V5 V7 V9 V10 g5 g7 g9 g10) ed.on v x) : Yld Try.prog R oKn_19 a x 79 (specAt (spKn V5 V7 V9 V10 g5 g7 g9 g10) 19) := by
  obtain ⟨v18, t18, f18⟩ := dep ⟨18, .data⟩ (by simp [oKn_19]) rfl 78 rfl
  have f18 : (litS 3 [0, 0, 0]).p v18 x := f18
  obtain ⟨g, rfl, hu⟩ := f18
  refine yld_call (enters_of Try.func27 (by kernel_rfl) rfl) (vs := #[.slice (some ⟨g, 0, none⟩) 3 3]) (by simp [tmp_eval t18]) ((lrow_any (some ⟨g, 0, none⟩) 3 3 x).mono ?_)
  rintro u x' ⟨rfl, q'⟩
  exact ⟨_, rfl, q', g, rfl, hu.next q'⟩
theorem yKn_20 {a0 : Act} {w : World} {V5 V7 V9 V10 g5 g7 g9 g10 : Nat} (E : EnvKn a0 w V5 V7 V9 V10 g5 g7 g9 g10) {R : Exit → Act → World → Prop} {a : Act} {x : World} (q : Q w x) (oth : ∀ j, j ∉ sKn → a.tmps[j]? = a0.tmps[j]?) (dep : ∀ ed ∈ oKn_20.after, Region.binds .any ed = true → ∀ t', sKn[ed.on]? = some t' → ∃ v, a.tmps[t']? = some v ∧ specAt (spKn V5 V7 V9 V10 g5 g7 g9 g10) ed.on v x) : Yld Try.prog R oKn_20 a x 80 (specAt (spKn V5 V7 V9 V10 g5 g7 g9 g10) 20) := by
  obtain ⟨v17, t17, f17⟩ := dep ⟨17, .data⟩ (by simp [oKn_20]) rfl 77 rfl
  have f17 : v17 = (.agg #[.int .i64 3, .int .i64 1, .slice (some ⟨g10, 0, none⟩) 3 3]) := f17
  subst f17
  obtain ⟨v19, t19, f19⟩ := dep ⟨19, .data⟩ (by simp [oKn_20]) rfl 79 rfl
  have f19 : (rowS 3 [0, 0, 0]).p v19 x := f19
  obtain ⟨g, rfl, hu⟩ := f19
  refine yld_call (enters_of Try.func17 (by kernel_rfl) rfl) (vs := #[.agg #[.int .i64 3, .int .i64 1, .slice (some ⟨g10, 0, none⟩) 3 3], .agg #[.int .i64 3, .int .i64 1, .slice (some ⟨g, 0, none⟩) 3 3]]) (by simp [tmp_eval t17, tmp_eval t19]) ((hplanes_yes 3 1 (some ⟨g10, 0, none⟩) (some ⟨g, 0, none⟩) 3 3 3 [0, 0, 0] x ((E.u10.next q).usl (cap := 3) (by decide)) (hu.usl (cap := 3) (by decide)) (by decide)).mono ?_)
  rintro u x' ⟨rfl, q'⟩
  exact ⟨_, rfl, q', rfl⟩
theorem yKn_21 {a0 : Act} {w : World} {V5 V7 V9 V10 g5 g7 g9 g10 : Nat} (E : EnvKn a0 w V5 V7 V9 V10 g5 g7 g9 g10) {R : Exit → Act → World → Prop} {a : Act} {x : World} (q : Q w x) (oth : ∀ j, j ∉ sKn → a.tmps[j]? = a0.tmps[j]?) (dep : ∀ ed ∈ oKn_21.after, Region.binds .any ed = true → ∀ t', sKn[ed.on]? = some t' → ∃ v, a.tmps[t']? = some v ∧ specAt (spKn V5 V7 V9 V10 g5 g7 g9 g10) ed.on v x) : Yld Try.prog R oKn_21 a x 81 (specAt (spKn V5 V7 V9 V10 g5 g7 g9 g10) 21) := by
  obtain ⟨v16, t16, f16⟩ := dep ⟨16, .data⟩ (by simp [oKn_21]) rfl 76 rfl
  have f16 : v16 = (.bool true) := f16
  subst f16
  obtain ⟨v20, t20, f20⟩ := dep ⟨20, .data⟩ (by simp [oKn_21]) rfl 80 rfl
  have f20 : v20 = (.bool true) := f20
  subst f20
  exact yld_run (x' := x) rfl (run_andq (tmp_eval t16) (tmp_eval t20)) (Q.refl x) rfl
theorem yKn_22 {a0 : Act} {w : World} {V5 V7 V9 V10 g5 g7 g9 g10 : Nat} (E : EnvKn a0 w V5 V7 V9 V10 g5 g7 g9 g10) {R : Exit → Act → World → Prop} {a : Act} {x : World} (q : Q w x) (oth : ∀ j, j ∉ sKn → a.tmps[j]? = a0.tmps[j]?) (dep : ∀ ed ∈ oKn_22.after, Region.binds .any ed = true → ∀ t', sKn[ed.on]? = some t' → ∃ v, a.tmps[t']? = some v ∧ specAt (spKn V5 V7 V9 V10 g5 g7 g9 g10) ed.on v x) : Yld Try.prog R oKn_22 a x 0 (specAt (spKn V5 V7 V9 V10 g5 g7 g9 g10) 22) := by
  obtain ⟨v21, t21, f21⟩ := dep ⟨21, .data⟩ (by simp [oKn_22]) rfl 81 rfl
  have f21 : v21 = (.bool true) := f21
  subst f21
  exact yld_run (x' := x) rfl (run_asgq (tmp_eval t21)) (Q.refl x) rfl
theorem hopKn {a0 : Act} {w : World} {V5 V7 V9 V10 g5 g7 g9 g10 : Nat} (E : EnvKn a0 w V5 V7 V9 V10 g5 g7 g9 g10) {R : Exit → Act → World → Prop} : ∀ (i t : Nat) (o : Oper) (a : Act) (x : World), skKn i = false → sKn[i]? = some t → opsKn[i]? = some o → Q w x → (∀ j, j ∉ sKn → a.tmps[j]? = a0.tmps[j]?) → (∀ ed ∈ o.after, Region.binds .any ed = true → ∀ t', sKn[ed.on]? = some t' → ∃ v, a.tmps[t']? = some v ∧ specAt (spKn V5 V7 V9 V10 g5 g7 g9 g10) ed.on v x) → Yld Try.prog R o a x t (specAt (spKn V5 V7 V9 V10 g5 g7 g9 g10) i)
  | 0, t, o, a, x, hi, ht, ho, q, oth, dep => by
    have e1 : oKn_0 = o := Option.some.inj ho
    have e2 : 60 = t := Option.some.inj ht
    subst e1 e2
    exact yKn_0 E q oth dep
  | 1, t, o, a, x, hi, ht, ho, q, oth, dep => by
    have e1 : oKn_1 = o := Option.some.inj ho
    have e2 : 61 = t := Option.some.inj ht
    subst e1 e2
    exact yKn_1 E q oth dep
  | 2, t, o, a, x, hi, ht, ho, q, oth, dep => by
    have e1 : oKn_2 = o := Option.some.inj ho
    have e2 : 62 = t := Option.some.inj ht
    subst e1 e2
    exact yKn_2 E q oth dep
  | 3, t, o, a, x, hi, ht, ho, q, oth, dep => by
    have e1 : oKn_3 = o := Option.some.inj ho
    have e2 : 63 = t := Option.some.inj ht
    subst e1 e2
    exact yKn_3 E q oth dep
  | 4, t, o, a, x, hi, ht, ho, q, oth, dep => by
    have e1 : oKn_4 = o := Option.some.inj ho
    have e2 : 64 = t := Option.some.inj ht
    subst e1 e2
    exact yKn_4 E q oth dep
  | 5, t, o, a, x, hi, ht, ho, q, oth, dep => by
    have e1 : oKn_5 = o := Option.some.inj ho
    have e2 : 65 = t := Option.some.inj ht
    subst e1 e2
    exact yKn_5 E q oth dep
  | 6, t, o, a, x, hi, ht, ho, q, oth, dep => by
    have e1 : oKn_6 = o := Option.some.inj ho
    have e2 : 66 = t := Option.some.inj ht
    subst e1 e2
    exact yKn_6 E q oth dep
  | 7, t, o, a, x, hi, ht, ho, q, oth, dep => by
    have e1 : oKn_7 = o := Option.some.inj ho
    have e2 : 67 = t := Option.some.inj ht
    subst e1 e2
    exact yKn_7 E q oth dep
  | 8, t, o, a, x, hi, ht, ho, q, oth, dep => by
    have e1 : oKn_8 = o := Option.some.inj ho
    have e2 : 68 = t := Option.some.inj ht
    subst e1 e2
    exact yKn_8 E q oth dep
  | 9, t, o, a, x, hi, ht, ho, q, oth, dep => by
    have e1 : oKn_9 = o := Option.some.inj ho
    have e2 : 69 = t := Option.some.inj ht
    subst e1 e2
    exact yKn_9 E q oth dep
  | 10, t, o, a, x, hi, ht, ho, q, oth, dep => by
    have e1 : oKn_10 = o := Option.some.inj ho
    have e2 : 70 = t := Option.some.inj ht
    subst e1 e2
    exact yKn_10 E q oth dep
  | 11, t, o, a, x, hi, ht, ho, q, oth, dep => by
    have e1 : oKn_11 = o := Option.some.inj ho
    have e2 : 71 = t := Option.some.inj ht
    subst e1 e2
    exact yKn_11 E q oth dep
  | 12, t, o, a, x, hi, ht, ho, q, oth, dep => by
    have e1 : oKn_12 = o := Option.some.inj ho
    have e2 : 72 = t := Option.some.inj ht
    subst e1 e2
    exact yKn_12 E q oth dep
  | 13, t, o, a, x, hi, ht, ho, q, oth, dep => by
    have e1 : oKn_13 = o := Option.some.inj ho
    have e2 : 73 = t := Option.some.inj ht
    subst e1 e2
    exact yKn_13 E q oth dep
  | 14, t, o, a, x, hi, ht, ho, q, oth, dep => by
    have e1 : oKn_14 = o := Option.some.inj ho
    have e2 : 74 = t := Option.some.inj ht
    subst e1 e2
    exact yKn_14 E q oth dep
  | 15, t, o, a, x, hi, ht, ho, q, oth, dep => by
    have e1 : oKn_15 = o := Option.some.inj ho
    have e2 : 75 = t := Option.some.inj ht
    subst e1 e2
    exact yKn_15 E q oth dep
  | 16, t, o, a, x, hi, ht, ho, q, oth, dep => by
    have e1 : oKn_16 = o := Option.some.inj ho
    have e2 : 76 = t := Option.some.inj ht
    subst e1 e2
    exact yKn_16 E q oth dep
  | 17, t, o, a, x, hi, ht, ho, q, oth, dep => by
    have e1 : oKn_17 = o := Option.some.inj ho
    have e2 : 77 = t := Option.some.inj ht
    subst e1 e2
    exact yKn_17 E q oth dep
  | 18, t, o, a, x, hi, ht, ho, q, oth, dep => by
    have e1 : oKn_18 = o := Option.some.inj ho
    have e2 : 78 = t := Option.some.inj ht
    subst e1 e2
    exact yKn_18 E q oth dep
  | 19, t, o, a, x, hi, ht, ho, q, oth, dep => by
    have e1 : oKn_19 = o := Option.some.inj ho
    have e2 : 79 = t := Option.some.inj ht
    subst e1 e2
    exact yKn_19 E q oth dep
  | 20, t, o, a, x, hi, ht, ho, q, oth, dep => by
    have e1 : oKn_20 = o := Option.some.inj ho
    have e2 : 80 = t := Option.some.inj ht
    subst e1 e2
    exact yKn_20 E q oth dep
  | 21, t, o, a, x, hi, ht, ho, q, oth, dep => by
    have e1 : oKn_21 = o := Option.some.inj ho
    have e2 : 81 = t := Option.some.inj ht
    subst e1 e2
    exact yKn_21 E q oth dep
  | 22, t, o, a, x, hi, ht, ho, q, oth, dep => by
    have e1 : oKn_22 = o := Option.some.inj ho
    have e2 : 0 = t := Option.some.inj ht
    subst e1 e2
    exact yKn_22 E q oth dep
  | i + 23, t, o, a, x, hi, ht, ho, q, oth, dep => by cases ho
theorem keyKn : ∀ i, i < 23 → ((opsKn[i]?).bind (fun o : Oper => o.guard) = none ∧ skKn i = false) ∨ ((opsKn[i]?).bind (fun o : Oper => o.guard) = some (4, true) ∧ skKn i = false) ∨ ((opsKn[i]?).bind (fun o : Oper => o.guard) = some (10, true) ∧ skKn i = false) ∨ ((opsKn[i]?).bind (fun o : Oper => o.guard) = some (16, true) ∧ skKn i = false) := by decide +kernel
theorem hguKn {V5 V7 V9 V10 g5 g7 g9 g10 : Nat} : ∀ (i : Nat) (o : Oper) (g : Nat) (b : Bool), opsKn[i]? = some o → o.guard = some (g, b) → ∀ v x, specAt (spKn V5 V7 V9 V10 g5 g7 g9 g10) g v x → (v = .bool b ↔ skKn i = false) := by
  intro i o g b ho hg v x hf
  have h := keyKn i (List.getElem?_eq_some_iff.1 ho).1
  rw [ho] at h
  simp only [Option.bind_some] at h
  rw [hg] at h
  rcases h with ⟨h, _⟩ | ⟨h, hs⟩ | ⟨h, hs⟩ | ⟨h, hs⟩
  · cases h
  · injection h with h
    injection h with h1 h2
    subst h1 h2
    have hv : v = .bool true := hf
    subst hv
    rw [hs]
    simp
  · injection h with h
    injection h with h1 h2
    subst h1 h2
    have hv : v = .bool true := hf
    subst hv
    rw [hs]
    simp
  · injection h with h
    injection h with h1 h2
    subst h1 h2
    have hv : v = .bool true := hf
    subst hv
    rw [hs]
    simp
theorem hgnKn : ∀ (i : Nat) (o : Oper), opsKn[i]? = some o → o.guard = none → skKn i = false := by
  intro i o ho hg
  have h := keyKn i (List.getElem?_eq_some_iff.1 ho).1
  rw [ho] at h
  simp only [Option.bind_some] at h
  rw [hg] at h
  rcases h with ⟨_, h⟩ | ⟨h, _⟩ | ⟨h, _⟩ | ⟨h, _⟩
  · exact h
  · cases h
  · cases h
  · cases h
theorem hskKn {V5 V7 V9 V10 g5 g7 g9 g10 : Nat} : ∀ (i : Nat) (x : World), skKn i = true → specAt (spKn V5 V7 V9 V10 g5 g7 g9 g10) i undef x := by
  intro i x h
  cases h
set_option maxHeartbeats 1000000 in
theorem regionKn {id : Nat} {l : List Oper} {R : Exit → Act → World → Prop} {a0 : Act} {w : World} {V5 V7 V9 V10 g5 g7 g9 g10 : Nat} (hl : l = opsKn) (hsz : a0.tmps.size = 82) (E : EnvKn a0 w V5 V7 V9 V10 g5 g7 g9 g10)
    (hR : ∀ x v1 v2 v6 v7 v12 v13 v18 v19, Q w x → R .normal (putAll a0 [(60, (.agg #[.int .i64 5, .int .i64 1, .slice (some ⟨g5, 0, none⟩) 5 5])), (61, v1), (62, v2), (63, (.bool true)), (64, (.bool true)), (65, (.agg #[.int .i64 3, .int .i64 1, .slice (some ⟨g7, 0, none⟩) 3 3])), (66, v6), (67, v7), (68, (.bool true)), (69, (.bool true)), (70, (.bool true)), (71, (.agg #[.int .i64 3, .int .i64 1, .slice (some ⟨g9, 0, none⟩) 3 3])), (72, v12), (73, v13), (74, (.bool true)), (75, (.bool true)), (76, (.bool true)), (77, (.agg #[.int .i64 3, .int .i64 1, .slice (some ⟨g10, 0, none⟩) 3 3])), (78, v18), (79, v19), (80, (.bool true)), (81, (.bool true)), (0, (.bool true))]) x) :
    (Code.region id l.toArray true).wp Try.prog R a0 w := by
  subst hl
  refine wp_region_factsS sKn (specAt (spKn V5 V7 V9 V10 g5 g7 g9 g10)) skKn (by kernel_rfl) (by decide +kernel) (by decide) (fun t ht => ?_) specAt.next hguKn hgnKn hskKn (hopKn E) (fun a x q size defers other facts => ?_)
  · rw [hsz]
    revert t
    decide
  · obtain ⟨v0, t0, f0⟩ := facts 0 60 rfl
    have f0 : v0 = (.agg #[.int .i64 5, .int .i64 1, .slice (some ⟨g5, 0, none⟩) 5 5]) := f0
    subst f0
    obtain ⟨v1, t1, f1⟩ := facts 1 61 rfl
    obtain ⟨v2, t2, f2⟩ := facts 2 62 rfl
    obtain ⟨v3, t3, f3⟩ := facts 3 63 rfl
    have f3 : v3 = (.bool true) := f3
    subst f3
    obtain ⟨v4, t4, f4⟩ := facts 4 64 rfl
    have f4 : v4 = (.bool true) := f4
    subst f4
    obtain ⟨v5, t5, f5⟩ := facts 5 65 rfl
    have f5 : v5 = (.agg #[.int .i64 3, .int .i64 1, .slice (some ⟨g7, 0, none⟩) 3 3]) := f5
    subst f5
    obtain ⟨v6, t6, f6⟩ := facts 6 66 rfl
    obtain ⟨v7, t7, f7⟩ := facts 7 67 rfl
    obtain ⟨v8, t8, f8⟩ := facts 8 68 rfl
    have f8 : v8 = (.bool true) := f8
    subst f8
    obtain ⟨v9, t9, f9⟩ := facts 9 69 rfl
    have f9 : v9 = (.bool true) := f9
    subst f9
    obtain ⟨v10, t10, f10⟩ := facts 10 70 rfl
    have f10 : v10 = (.bool true) := f10
    subst f10
    obtain ⟨v11, t11, f11⟩ := facts 11 71 rfl
    have f11 : v11 = (.agg #[.int .i64 3, .int .i64 1, .slice (some ⟨g9, 0, none⟩) 3 3]) := f11
    subst f11
    obtain ⟨v12, t12, f12⟩ := facts 12 72 rfl
    obtain ⟨v13, t13, f13⟩ := facts 13 73 rfl
    obtain ⟨v14, t14, f14⟩ := facts 14 74 rfl
    have f14 : v14 = (.bool true) := f14
    subst f14
    obtain ⟨v15, t15, f15⟩ := facts 15 75 rfl
    have f15 : v15 = (.bool true) := f15
    subst f15
    obtain ⟨v16, t16, f16⟩ := facts 16 76 rfl
    have f16 : v16 = (.bool true) := f16
    subst f16
    obtain ⟨v17, t17, f17⟩ := facts 17 77 rfl
    have f17 : v17 = (.agg #[.int .i64 3, .int .i64 1, .slice (some ⟨g10, 0, none⟩) 3 3]) := f17
    subst f17
    obtain ⟨v18, t18, f18⟩ := facts 18 78 rfl
    obtain ⟨v19, t19, f19⟩ := facts 19 79 rfl
    obtain ⟨v20, t20, f20⟩ := facts 20 80 rfl
    have f20 : v20 = (.bool true) := f20
    subst f20
    obtain ⟨v21, t21, f21⟩ := facts 21 81 rfl
    have f21 : v21 = (.bool true) := f21
    subst f21
    obtain ⟨v22, t22, f22⟩ := facts 22 0 rfl
    have f22 : v22 = (.bool true) := f22
    subst f22
    have hA := act_puts (a := a) (a0 := a0) [(60, (.agg #[.int .i64 5, .int .i64 1, .slice (some ⟨g5, 0, none⟩) 5 5])), (61, v1), (62, v2), (63, (.bool true)), (64, (.bool true)), (65, (.agg #[.int .i64 3, .int .i64 1, .slice (some ⟨g7, 0, none⟩) 3 3])), (66, v6), (67, v7), (68, (.bool true)), (69, (.bool true)), (70, (.bool true)), (71, (.agg #[.int .i64 3, .int .i64 1, .slice (some ⟨g9, 0, none⟩) 3 3])), (72, v12), (73, v13), (74, (.bool true)), (75, (.bool true)), (76, (.bool true)), (77, (.agg #[.int .i64 3, .int .i64 1, .slice (some ⟨g10, 0, none⟩) 3 3])), (78, v18), (79, v19), (80, (.bool true)), (81, (.bool true)), (0, (.bool true))] (by show [60, 61, 62, 63, 64, 65, 66, 67, 68, 69, 70, 71, 72, 73, 74, 75, 76, 77, 78, 79, 80, 81, 0].Nodup; decide) size defers (fun j hj => other j (fun hk => hj hk)) (fun r hr => by
      simp only [List.mem_cons, List.not_mem_nil, or_false] at hr
      rcases hr with rfl | rfl | rfl | rfl | rfl | rfl | rfl | rfl | rfl | rfl | rfl | rfl | rfl | rfl | rfl | rfl | rfl | rfl | rfl | rfl | rfl | rfl | rfl
      · exact t0
      · exact t1
      · exact t2
      · exact t3
      · exact t4
      · exact t5
      · exact t6
      · exact t7
      · exact t8
      · exact t9
      · exact t10
      · exact t11
      · exact t12
      · exact t13
      · exact t14
      · exact t15
      · exact t16
      · exact t17
      · exact t18
      · exact t19
      · exact t20
      · exact t21
      · exact t22)
    rw [hA]
    exact ⟨hR x v1 v2 v6 v7 v12 v13 v18 v19 q⟩
end Go.Proofs.Ytedaacddnahjkaa
/- The chapter's examples: known. -/
namespace Go.Proofs.Ytedaacddnahjkaa
open Go.RowKit
set_option linter.unusedVariables false
set_option linter.unusedSimpArgs false

theorem vr_uis {x : World} {g n : Nat} {F : Nat → Nat} (h : VR x g n (fun j => .int .u32 ((F j : Nat) : Int))) : UIs x g 0 (tabB n F) := fun i hi => by
  rw [tabB_len] at hi
  rw [Nat.zero_add, tabB_at hi]
  exact h.cell i hi
theorem ex_blur1 : tabB 5 (bluV 1 1 1 5 1 [0, 0, 1065353216, 0, 0]) = [0, 1048576000, 1056964608, 1048576000, 0] := by decide +kernel
theorem ex_blur2 : tabB 3 (bluV 2 1 3 3 1 [1077936128, 0, 0]) = [1065353216, 1065353216, 1065353216] := by decide +kernel
theorem ex_row : tabB 3 (rowB slpV 1 1 3 [1065353216, 1073741824, 1082130432]) = [1056964608, 1069547520, 1065353216] := by decide +kernel
theorem ex_col : tabB 3 (colB slpV 1 1 3 1 [1065353216, 1073741824, 1082130432]) = [0, 0, 0] := by decide +kernel
theorem lit_bdq {xs : List Nat} (h : ∀ x ∈ xs, x < 4294967296) (i : Nat) : xs.getD i 0 < 4294967296 := by
  rw [List.getD_eq_getElem?_getD]
  cases g : xs[i]? with
  | none => show 0 < 4294967296; decide
  | some x => exact h x (List.mem_of_getElem? g)
theorem lit_isl {W : World} {M : Array Value} {t : TypeId} {xs : List Int} (hM : M = (xs.map fun x : Int => Value.int .i64 x).toArray) : ISl (W.alloc (.cells M t)) (.slice (some ⟨W.heap.size, 0, none⟩) xs.length xs.length) xs := by
  have hb : (W.alloc (.cells M t)).heap[W.heap.size]? = some (.cells M t (0, 0)) := heap_alloc_new W _
  refine Or.inl ⟨W.heap.size, 0, xs.length, rfl, fun i hi => ?_⟩
  rw [Nat.zero_add, cell_of_row _ _ i _ t (0, 0) hb, hM, List.getElem?_toArray, List.getElem?_map, List.getElem?_eq_getElem hi, List.getD_eq_getElem?_getD, List.getElem?_eq_getElem hi]
  rfl
set_option maxHeartbeats 400000 in
theorem num11_any (e0 : Int) (w : World) : Calls Try.prog 10 #[.int .i64 e0] w fun e w' => e = .returned (.int .i64 e0) ∧ w' = w := by
  go_enter Try.func10, Try.ntmps10
  go_wp2_with fail
  go_ret
  exact ⟨rfl, rfl⟩
theorem vr_isl {x : World} {g n : Nat} {F : Nat → Int} {xs : List Int} (h : VR x g n (fun i => .int .i64 (F i))) (hn : xs.length = n) (hx : ∀ i, i < n → F i = xs.getD i 0) : ISl x (.slice (some ⟨g, 0, none⟩) n n) xs := by
  refine Or.inl ⟨g, 0, n, by rw [hn], fun i hi => ?_⟩
  rw [hn] at hi
  rw [Nat.zero_add, ← hx i hi]
  exact h.cell i hi
structure Ks (w x : World) (b1 b3 V5 V7 g5 g7 : Nat) : Prop where
  q : Q w x
  i1 : ISl x (.slice (some ⟨b1, 0, none⟩) 5 5) [1, 4, 6, 4, 1]
  i3 : ISl x (.slice (some ⟨b3, 0, none⟩) 3 3) [1, 1, 1]
  a5 : x.cell? ⟨V5, 0, none⟩ = some (.int .i64 5)
  b5 : x.cell? ⟨V5, 1, none⟩ = some (.int .i64 1)
  c5 : x.cell? ⟨V5, 2, none⟩ = some (.slice (some ⟨g5, 0, none⟩) 5 5)
  u5 : UIs x g5 0 [0, 1048576000, 1056964608, 1048576000, 0]
  a7 : x.cell? ⟨V7, 0, none⟩ = some (.int .i64 3)
  b7 : x.cell? ⟨V7, 1, none⟩ = some (.int .i64 1)
  c7 : x.cell? ⟨V7, 2, none⟩ = some (.slice (some ⟨g7, 0, none⟩) 3 3)
  u7 : UIs x g7 0 [1065353216, 1065353216, 1065353216]
theorem Ks.next {w x y : World} {b1 b3 V5 V7 g5 g7 : Nat} (h : Ks w x b1 b3 V5 V7 g5 g7) (q : Q x y) : Ks w y b1 b3 V5 V7 g5 g7 := ⟨h.q.trans q, h.i1.next q, h.i3.next q, q.cell h.a5, q.cell h.b5, q.cell h.c5, h.u5.next q, q.cell h.a7, q.cell h.b7, q.cell h.c7, h.u7.next q⟩
set_option maxHeartbeats 8000000 in
set_option maxRecDepth 100000 in
theorem known11_any (w : World) : Calls Try.prog 7 #[] w fun e w' => e = .returned (.bool true) ∧ Q w w' := by
  have HC1 : Hid (∀ W : World, Calls Try.prog 9 #[.int .i64 1, .int .i64 2] W fun e w' => ∃ g, e = .returned (.tuple #[.slice (some ⟨g, 0, none⟩) 5 5, .int .i64 0]) ∧ ISl w' (.slice (some ⟨g, 0, none⟩) 5 5) [1, 4, 6, 4, 1] ∧ Q W w') := fun W => (weights_good 1 2 (by decide) W).mono fun e w' ⟨g, h1, h2, h3, h4⟩ => ⟨g, h1, vr_isl (xs := [1, 4, 6, 4, 1]) h2 rfl (fun i hi => by
    have : ∀ i : Fin 5, bwV 1 2 i.val = ([1, 4, 6, 4, 1] : List Int).getD i.val 0 := by decide +kernel
    exact this ⟨i, hi⟩), h4⟩
  have HC2 : Hid (∀ W : World, Calls Try.prog 9 #[.int .i64 2, .int .i64 1] W fun e w' => ∃ g, e = .returned (.tuple #[.slice (some ⟨g, 0, none⟩) 3 3, .int .i64 0]) ∧ ISl w' (.slice (some ⟨g, 0, none⟩) 3 3) [1, 1, 1] ∧ Q W w') := fun W => (weights_good 2 1 (by decide) W).mono fun e w' ⟨g, h1, h2, h3, h4⟩ => ⟨g, h1, vr_isl (xs := [1, 1, 1]) h2 rfl (fun i hi => by
    have : ∀ i : Fin 3, bwV 2 1 i.val = ([1, 1, 1] : List Int).getD i.val 0 := by decide +kernel
    exact this ⟨i, hi⟩), h4⟩
  have HC3 : Hid (∀ (W : World) (g : Nat), UIs W g 0 [0, 0, 1065353216, 0, 0] → Calls Try.prog 16 #[.agg #[.int .i64 5, .int .i64 1, .slice (some ⟨g, 0, none⟩) 5 5], .int .i64 1, .int .i64 1, .int .i64 1] W fun e w' => ∃ g, e = .returned (.tuple #[.agg #[.int .i64 5, .int .i64 1, .slice (some ⟨g, 0, none⟩) 5 5], .int .i64 0]) ∧ UIs w' g 0 [0, 1048576000, 1056964608, 1048576000, 0] ∧ Q W w') := fun W g hu => (blur_good 1 1 1 5 1 g 0 5 5 [0, 0, 1065353216, 0, 0] W ⟨by decide, by decide, by decide, by decide, by decide⟩ rfl rfl (lit_bdq (by decide)) hu (by decide) (by decide) (by decide)).mono fun e w' ⟨g, h1, h2, h3, h4⟩ => ⟨g, h1, by rw [← ex_blur1]; exact vr_uis h2, h4⟩
  have HC4 : Hid (∀ (W : World) (g : Nat), UIs W g 0 [1077936128, 0, 0] → Calls Try.prog 16 #[.agg #[.int .i64 3, .int .i64 1, .slice (some ⟨g, 0, none⟩) 3 3], .int .i64 2, .int .i64 1, .int .i64 3] W fun e w' => ∃ g, e = .returned (.tuple #[.agg #[.int .i64 3, .int .i64 1, .slice (some ⟨g, 0, none⟩) 3 3], .int .i64 0]) ∧ UIs w' g 0 [1065353216, 1065353216, 1065353216] ∧ Q W w') := fun W g hu => (blur_good 2 1 3 3 1 g 0 3 3 [1077936128, 0, 0] W ⟨by decide, by decide, by decide, by decide, by decide⟩ rfl rfl (lit_bdq (by decide)) hu (by decide) (by decide) (by decide)).mono fun e w' ⟨g, h1, h2, h3, h4⟩ => ⟨g, h1, by rw [← ex_blur2]; exact vr_uis h2, h4⟩
  have HC5 : Hid (∀ (W : World) (g : Nat), UIs W g 0 [1065353216, 1073741824, 1082130432] → Calls Try.prog 21 #[.agg #[.int .i64 3, .int .i64 1, .slice (some ⟨g, 0, none⟩) 3 3], .int .i64 1] W fun e w' => ∃ g gu, e = .returned (.tuple #[.agg #[.int .i64 3, .int .i64 1, .slice (some ⟨g, 0, none⟩) 3 3], .agg #[.int .i64 3, .int .i64 1, .slice (some ⟨gu, 0, none⟩) 3 3], .int .i64 0]) ∧ UIs w' g 0 [1056964608, 1069547520, 1065353216] ∧ UIs w' gu 0 [0, 0, 0] ∧ Q W w') := fun W g hu => (grad_good 1 3 1 g 0 3 3 [1065353216, 1073741824, 1082130432] W ⟨by decide, by decide, by decide, by decide, by decide⟩ rfl rfl (lit_bdq (by decide)) hu (by decide)).mono fun e w' ⟨g, gu, h1, h2, h3, h4, h5, h6, h7⟩ => ⟨g, gu, h1, by rw [← ex_row]; exact vr_uis h2, by rw [← ex_col]; exact vr_uis h3, h7⟩
  have HLR : Hid (∀ (W : World) (g n : Nat), Calls Try.prog 27 #[.slice (some ⟨g, 0, none⟩) n n] W fun e w' => e = .returned (.agg #[.int .i64 (n : Int), .int .i64 1, .slice (some ⟨g, 0, none⟩) n n]) ∧ Q W w') := fun W g n => lrow_any _ n n W
  have HNU : Hid (∀ W : World, Calls Try.prog 10 #[.int .i64 0] W fun e w' => e = .returned (.int .i64 0) ∧ w' = W) := fun W => num11_any 0 W
  have HIN : Hid (∀ (v : Value) (W : World) (xs : List Int) (M : Array Value), ISl W v xs → M = (xs.map fun x : Int => Value.int .i64 x).toArray → xs.length ≤ 10 → Calls Try.prog 11 #[v, .slice (some ⟨W.heap.size, 0, none⟩) xs.length xs.length] (W.alloc (.cells M 3)) fun e w' => e = .returned (.bool true) ∧ Q (W.alloc (.cells M 3)) w') := fun v W xs M h hM hl => by
    have := ints_any v (.slice (some ⟨W.heap.size, 0, none⟩) xs.length xs.length) xs xs (W.alloc (.cells M 3)) (h.next ((Q.refl W).cells _ _)) (lit_isl hM) (by omega) (by omega)
    rw [decide_eq_true rfl] at this
    exact this
  go_enter Try.func7, Try.ntmps7
  go_wp2_with fail
  refine (HC1.out w).mono ?_
  rintro e w1 ⟨b1, rfl, i1, q1⟩
  have H1 : Hid (ISl w1 (.slice (some ⟨b1, 0, none⟩) 5 5) [1, 4, 6, 4, 1] ∧ Q w w1) := ⟨i1, q1⟩
  clear i1 q1
  go_wp2_with fail
  refine (HC2.out w1).mono ?_
  rintro e w2 ⟨b3, rfl, i3, q2⟩
  have H2 : Hid (ISl w2 (.slice (some ⟨b1, 0, none⟩) 5 5) [1, 4, 6, 4, 1] ∧ ISl w2 (.slice (some ⟨b3, 0, none⟩) 3 3) [1, 1, 1] ∧ Q w w2) := ⟨H1.out.1.next q2, i3, H1.out.2.trans q2⟩
  clear i3 q2 H1
  go_wp2_with fail
  refine (HLR.out _ _ 5).mono ?_
  rintro e w3 ⟨rfl, q3⟩
  have H3 : Hid (UIs w3 w2.heap.size 0 [0, 0, 1065353216, 0, 0] ∧ Q w2 w3) := ⟨(lit_uis (xs := [0, 0, 1065353216, 0, 0]) rfl).next q3, ((Q.refl w2).cells _ _).trans q3⟩
  clear q3
  go_wp2_with fail
  refine (HC3.out w3 _ H3.out.1).mono ?_
  rintro e w4 ⟨g5, rfl, u5, q4⟩
  obtain ⟨w5, hw5⟩ : ∃ w5, w4.alloc (.cells #[.int .i64 5, .int .i64 1, .slice (some ⟨g5, 0, none⟩) 5 5] 43) = w5 := ⟨_, rfl⟩
  have H5 : Hid (Q w w5 ∧ ISl w5 (.slice (some ⟨b1, 0, none⟩) 5 5) [1, 4, 6, 4, 1] ∧ ISl w5 (.slice (some ⟨b3, 0, none⟩) 3 3) [1, 1, 1] ∧ w5.cell? ⟨w4.heap.size, 0, none⟩ = some (.int .i64 5) ∧ w5.cell? ⟨w4.heap.size, 1, none⟩ = some (.int .i64 1) ∧ w5.cell? ⟨w4.heap.size, 2, none⟩ = some (.slice (some ⟨g5, 0, none⟩) 5 5) ∧ UIs w5 g5 0 [0, 1048576000, 1056964608, 1048576000, 0]) := by
    have q45 : Q w4 w5 := by rw [← hw5]; exact (Q.refl w4).cells _ _
    have q25 := (H3.out.2.trans q4).trans q45
    refine ⟨H2.out.2.2.trans q25, H2.out.1.next q25, H2.out.2.1.next q25, ?_, ?_, ?_, u5.next q45⟩
    · rw [← hw5]; simp [go_sem]
    · rw [← hw5]; simp [go_sem]
    · rw [← hw5]; simp [go_sem]
  clear u5 q4 H3 H2
  go_wp2_with fail
  refine (HLR.out _ _ 3).mono ?_
  rintro e w6 ⟨rfl, q6⟩
  have H6 : Hid (UIs w6 w5.heap.size 0 [1077936128, 0, 0] ∧ Q w5 w6) := ⟨(lit_uis (xs := [1077936128, 0, 0]) rfl).next q6, ((Q.refl w5).cells _ _).trans q6⟩
  clear q6 hw5
  go_wp2_with fail
  refine (HC4.out w6 _ H6.out.1).mono ?_
  rintro e w7 ⟨g7, rfl, u7, q7⟩
  obtain ⟨w8, hw8⟩ : ∃ w8, w7.alloc (.cells #[.int .i64 3, .int .i64 1, .slice (some ⟨g7, 0, none⟩) 3 3] 43) = w8 := ⟨_, rfl⟩
  have H8 : Hid (Ks w w8 b1 b3 w4.heap.size w7.heap.size g5 g7) := by
    have q78 : Q w7 w8 := by rw [← hw8]; exact (Q.refl w7).cells _ _
    have q58 := (H6.out.2.trans q7).trans q78
    have z := H5.out
    refine ⟨z.1.trans q58, z.2.1.next q58, z.2.2.1.next q58, q58.cell z.2.2.2.1, q58.cell z.2.2.2.2.1, q58.cell z.2.2.2.2.2.1, z.2.2.2.2.2.2.next q58, ?_, ?_, ?_, u7.next q78⟩
    · rw [← hw8]; simp [go_sem]
    · rw [← hw8]; simp [go_sem]
    · rw [← hw8]; simp [go_sem]
  clear u7 q7 H6 H5
  go_wp2_with fail
  refine (HLR.out _ _ 3).mono ?_
  rintro e w9 ⟨rfl, q9⟩
  have H9 : Hid (UIs w9 w8.heap.size 0 [1065353216, 1073741824, 1082130432] ∧ Q w8 w9) := ⟨(lit_uis (xs := [1065353216, 1073741824, 1082130432]) rfl).next q9, ((Q.refl w8).cells _ _).trans q9⟩
  clear q9 hw8
  go_wp2_with fail
  refine (HC5.out w9 _ H9.out.1).mono ?_
  rintro e w10 ⟨g9, g10, rfl, u9, u10, q10⟩
  have HD : Hid (Ks w w10 b1 b3 w4.heap.size w7.heap.size g5 g7 ∧ UIs w10 g9 0 [1056964608, 1069547520, 1065353216] ∧ UIs w10 g10 0 [0, 0, 0]) := ⟨(H8.out.next H9.out.2).next q10, u9, u10⟩
  clear u9 u10 q10 H9 H8
  go_wp2_with fail
  have HE : Hid (Ks w ((w10.alloc (.cells #[.int .i64 3, .int .i64 1, .slice (some ⟨g9, 0, none⟩) 3 3] 43)).alloc (.cells #[.int .i64 3, .int .i64 1, .slice (some ⟨g10, 0, none⟩) 3 3] 43)) b1 b3 w4.heap.size w7.heap.size g5 g7 ∧ UIs ((w10.alloc (.cells #[.int .i64 3, .int .i64 1, .slice (some ⟨g9, 0, none⟩) 3 3] 43)).alloc (.cells #[.int .i64 3, .int .i64 1, .slice (some ⟨g10, 0, none⟩) 3 3] 43)) g9 0 [1056964608, 1069547520, 1065353216] ∧ UIs ((w10.alloc (.cells #[.int .i64 3, .int .i64 1, .slice (some ⟨g9, 0, none⟩) 3 3] 43)).alloc (.cells #[.int .i64 3, .int .i64 1, .slice (some ⟨g10, 0, none⟩) 3 3] 43)) g10 0 [0, 0, 0] ∧ ((w10.alloc (.cells #[.int .i64 3, .int .i64 1, .slice (some ⟨g9, 0, none⟩) 3 3] 43)).alloc (.cells #[.int .i64 3, .int .i64 1, .slice (some ⟨g10, 0, none⟩) 3 3] 43)).cell? ⟨w10.heap.size, 0, none⟩ = some (.int .i64 3) ∧ ((w10.alloc (.cells #[.int .i64 3, .int .i64 1, .slice (some ⟨g9, 0, none⟩) 3 3] 43)).alloc (.cells #[.int .i64 3, .int .i64 1, .slice (some ⟨g10, 0, none⟩) 3 3] 43)).cell? ⟨w10.heap.size, 1, none⟩ = some (.int .i64 1) ∧ ((w10.alloc (.cells #[.int .i64 3, .int .i64 1, .slice (some ⟨g9, 0, none⟩) 3 3] 43)).alloc (.cells #[.int .i64 3, .int .i64 1, .slice (some ⟨g10, 0, none⟩) 3 3] 43)).cell? ⟨w10.heap.size, 2, none⟩ = some (.slice (some ⟨g9, 0, none⟩) 3 3) ∧ ((w10.alloc (.cells #[.int .i64 3, .int .i64 1, .slice (some ⟨g9, 0, none⟩) 3 3] 43)).alloc (.cells #[.int .i64 3, .int .i64 1, .slice (some ⟨g10, 0, none⟩) 3 3] 43)).cell? ⟨w10.heap.size + 1, 0, none⟩ = some (.int .i64 3) ∧ ((w10.alloc (.cells #[.int .i64 3, .int .i64 1, .slice (some ⟨g9, 0, none⟩) 3 3] 43)).alloc (.cells #[.int .i64 3, .int .i64 1, .slice (some ⟨g10, 0, none⟩) 3 3] 43)).cell? ⟨w10.heap.size + 1, 1, none⟩ = some (.int .i64 1) ∧ ((w10.alloc (.cells #[.int .i64 3, .int .i64 1, .slice (some ⟨g9, 0, none⟩) 3 3] 43)).alloc (.cells #[.int .i64 3, .int .i64 1, .slice (some ⟨g10, 0, none⟩) 3 3] 43)).cell? ⟨w10.heap.size + 1, 2, none⟩ = some (.slice (some ⟨g10, 0, none⟩) 3 3)) := by
    have q : Q w10 ((w10.alloc (.cells #[.int .i64 3, .int .i64 1, .slice (some ⟨g9, 0, none⟩) 3 3] 43)).alloc (.cells #[.int .i64 3, .int .i64 1, .slice (some ⟨g10, 0, none⟩) 3 3] 43)) := ((Q.refl w10).cells _ _).cells _ _
    exact ⟨HD.out.1.next q, HD.out.2.1.next q, HD.out.2.2.next q, by simp [go_sem], by simp [go_sem], by simp [go_sem], by simp [go_sem], by simp [go_sem], by simp [go_sem]⟩
  generalize ((w10.alloc (.cells #[.int .i64 3, .int .i64 1, .slice (some ⟨g9, 0, none⟩) 3 3] 43)).alloc (.cells #[.int .i64 3, .int .i64 1, .slice (some ⟨g10, 0, none⟩) 3 3] 43)) = w11 at HE ⊢
  refine (HNU.out _).mono ?_
  rintro e w12 ⟨rfl, hw12⟩
  obtain rfl := hw12.symm
  clear hw12 HD
  go_wp2_with fail
  refine (HNU.out _).mono ?_
  rintro e w12 ⟨rfl, hw12⟩
  obtain rfl := hw12.symm
  clear hw12
  go_wp2_with fail
  refine (HNU.out _).mono ?_
  rintro e w12 ⟨rfl, hw12⟩
  obtain rfl := hw12.symm
  clear hw12
  go_wp2_with fail
  refine (HIN.out _ w11 [1, 4, 6, 4, 1] _ HE.out.1.i1 rfl (by decide)).mono ?_
  rintro e w12 ⟨rfl, q12⟩
  have q112 : Q w11 w12 := ((Q.refl w11).cells _ _).trans q12
  have H12 : Hid (Q w11 w12) := q112
  clear q12 q112
  go_wp2_with fail
  refine (HIN.out _ w12 [1, 1, 1] _ (HE.out.1.i3.next H12.out) rfl (by decide)).mono ?_
  rintro e w13 ⟨rfl, q13⟩
  have q113 : Q w11 w13 := H12.out.trans (((Q.refl w12).cells _ _).trans q13)
  clear q13
  have z := HE.out
  have k := z.1.next q113
  have HQ : Hid (Q w w13) := k.q
  have HEnv : Hid (UIs w13 g9 0 [1056964608, 1069547520, 1065353216] ∧ UIs w13 g10 0 [0, 0, 0]) := ⟨z.2.1.next q113, z.2.2.1.next q113⟩
  have a9 := q113.cell z.2.2.2.1
  have b9 := q113.cell z.2.2.2.2.1
  have c9 := q113.cell z.2.2.2.2.2.1
  have a10 := q113.cell z.2.2.2.2.2.2.1
  have b10 := q113.cell z.2.2.2.2.2.2.2.1
  have c10 := q113.cell z.2.2.2.2.2.2.2.2
  have HK : Hid (Ks w w13 b1 b3 w4.heap.size w7.heap.size g5 g7) := k
  clear z k q113
  go_wp2_with fail
  refine regionKn rfl rfl (V5 := w4.heap.size) (V7 := w7.heap.size) (V9 := w10.heap.size) (V10 := w10.heap.size + 1) (g5 := g5) (g7 := g7) (g9 := g9) (g10 := g10) ⟨rfl, HK.out.a5, HK.out.b5, HK.out.c5, HK.out.u5, rfl, HK.out.a7, HK.out.b7, HK.out.c7, HK.out.u7, rfl, a9, b9, c9, HEnv.out.1, rfl, a10, b10, c10, HEnv.out.2⟩ ?_
  intro x v1 v2 v6 v7 v12 v13 v18 v19 qx
  have HX : Hid (Q w x) := HQ.out.trans qx
  clear qx a9 b9 c9 a10 b10 c10
  simp only [putAll]
  go_wp2_with fail
  refine bodyPost_ret (v := .bool true) (by simp [results, Try.results7, go_sem]) rfl ⟨rfl, HX.out⟩
end Go.Proofs.Ytedaacddnahjkaa
