/- The chapter's examples: known's last region. -/
import Derived.Test.YtgaolakfgjmeiabG45b3ecec
import Derived.Test.YtgaolakfgjmeiabG82f6c3e3
import Derived.Test.YtgaolakfgjmeiabGec6c67fb
namespace Go.Proofs.Ytgaolakfgjmeiab
open Go.RowKit
set_option linter.unusedVariables false
set_option linter.unusedSimpArgs false

theorem lit_uis {W : World} {M : Array Value} {t : TypeId} {xs : List Nat} (hM : M = (xs.map fun x : Nat => Value.int .u32 (x : Nat)).toArray) : UIs (W.alloc (.cells M t)) W.heap.size 0 xs := fun i hi => by
  have hb : (W.alloc (.cells M t)).heap[W.heap.size]? = some (.cells M t (0, 0)) := heap_alloc_new W _
  rw [Nat.zero_add, cell_of_row _ _ i _ t (0, 0) hb, hM, List.getElem?_toArray, List.getElem?_map, List.getElem?_eq_getElem hi, List.getD_eq_getElem?_getD, List.getElem?_eq_getElem hi]
  rfl
set_option maxHeartbeats 400000 in
theorem prow_any (ad : Option Addr) (n c : Nat) (w : World) : Calls Try.prog 14 #[.slice ad n c] w fun e w' => e = .returned (.agg #[.int .i64 (n : Int), .int .i64 1, .slice ad n c]) ∧ Q w w' := by
  go_enter Try.func14, Try.ntmps14
  go_wp2_with fail
  refine bodyPost_ret (v := .agg #[.int .i64 (n : Int), .int .i64 1, .slice ad n c]) (by simp [results, Try.results14, go_sem]) rfl ⟨rfl, ?_⟩
  first
    | exact (Q.refl w).cells _ _
    | exact ((((Q.refl w).cells _ _).set (Nat.le_refl _) _).set (Nat.le_refl _) _).set (Nat.le_refl _) _
def litS (n : Nat) (xs : List Nat) : Spec := ⟨fun v x => ∃ g, v = .slice (some ⟨g, 0, none⟩) n n ∧ UIs x g 0 xs, fun ⟨g, h1, h2⟩ q => ⟨g, h1, h2.next q⟩⟩
def rowS (n : Nat) (xs : List Nat) : Spec := ⟨fun v x => ∃ g, v = .agg #[.int .i64 (n : Int), .int .i64 1, .slice (some ⟨g, 0, none⟩) n n] ∧ UIs x g 0 xs, fun ⟨g, h1, h2⟩ q => ⟨g, h1, h2.next q⟩⟩
theorem run_andq {P : Program} {ρ : Operand → Value} {x : World} {d : Option Tmp} {ty : TypeId} {ps : String} {af : Array Edge} {g : Option (Nat × Bool)} {c j : Nat} {v u : Value} (hc : ρ (.tmp c) = .bool true) (h : ρ (.tmp j) = v) : (execOp ρ { dst := d, op := .pick (.tmp c) (.tmp j) (.const u), type := ty, pos := ps, after := af, guard := g }).run P x = .ok (.value v) x := by
  simp [execOp, hc, h, go_sem]
theorem run_asgq {P : Program} {ρ : Operand → Value} {x : World} {d : Option Tmp} {ty : TypeId} {ps : String} {af : Array Edge} {g : Option (Nat × Bool)} {j : Nat} {v : Value} (h : ρ (.tmp j) = v) : (execOp ρ { dst := d, op := .assign (.tmp j), type := ty, pos := ps, after := af, guard := g }).run P x = .ok (.value v) x := by
  simp [execOp, h, go_sem]
set_option maxHeartbeats 400000 in
theorem num14_any (e0 : Int) (w : World) : Calls Try.prog 11 #[.int .i64 e0] w fun e w' => e = .returned (.int .i64 e0) ∧ w' = w := by
  go_enter Try.func11, Try.ntmps11
  go_wp2_with fail
  go_ret
  exact ⟨rfl, rfl⟩
def oKq_0 : Oper := { dst := some 27, op := .move (.tmp 2), type := 31, pos := "whatfor.go:21", after := #[], guard := none }
def oKq_1 : Oper := { dst := some 28, op := .call { callee := .value (.func 11), args := #[.tmp 27], argTypes := #[31] }, type := 3, pos := "whatfor.go:21", after := #[⟨0, .data⟩], guard := none }
def oKq_2 : Oper := { dst := some 29, op := .move (.tmp 4), type := 31, pos := "whatfor.go:21", after := #[], guard := none }
def oKq_3 : Oper := { dst := some 30, op := .call { callee := .value (.func 11), args := #[.tmp 29], argTypes := #[31] }, type := 3, pos := "whatfor.go:21", after := #[⟨2, .data⟩, ⟨1, .chain⟩], guard := none }
def oKq_4 : Oper := { dst := some 31, op := .binOp .add 3 (.tmp 28) (.tmp 30) 3, type := 3, pos := "whatfor.go:21", after := #[⟨1, .data⟩, ⟨3, .data⟩], guard := none }
def oKq_5 : Oper := { dst := some 32, op := .move (.tmp 7), type := 31, pos := "whatfor.go:21", after := #[], guard := none }
def oKq_6 : Oper := { dst := some 33, op := .call { callee := .value (.func 11), args := #[.tmp 32], argTypes := #[31] }, type := 3, pos := "whatfor.go:21", after := #[⟨5, .data⟩, ⟨3, .chain⟩], guard := none }
def oKq_7 : Oper := { dst := some 34, op := .binOp .add 3 (.tmp 31) (.tmp 33) 3, type := 3, pos := "whatfor.go:21", after := #[⟨4, .data⟩, ⟨6, .data⟩], guard := none }
def oKq_8 : Oper := { dst := some 35, op := .binOp .eql 3 (.tmp 34) (.const (.int .i64 0)) 3, type := 4, pos := "whatfor.go:21", after := #[⟨7, .data⟩], guard := none }
def oKq_9 : Oper := { dst := some 36, op := .move (.tmp 35), type := 4, pos := "whatfor.go:21", after := #[⟨8, .data⟩, ⟨6, .chain⟩], guard := none }
def oKq_10 : Oper := { dst := some 37, op := .load 24 (.tmp 1), type := 24, pos := "whatfor.go:21", after := #[⟨9, .guard⟩], guard := some (9, true) }
def oKq_11 : Oper := { dst := some 38, op := .buildSlice 22 2 #[(0, .const (.int .u32 1069023232)), (1, .const (.int .u32 1083310080))], type := 22, pos := "whatfor.go:21", after := #[⟨9, .guard⟩], guard := some (9, true) }
def oKq_12 : Oper := { dst := some 39, op := .call { callee := .value (.func 14), args := #[.tmp 38], argTypes := #[22] }, type := 24, pos := "whatfor.go:21", after := #[⟨11, .data⟩, ⟨9, .chain⟩, ⟨9, .guard⟩], guard := some (9, true) }
def oKq_13 : Oper := { dst := some 40, op := .call { callee := .value (.func 16), args := #[.tmp 37, .tmp 39], argTypes := #[24, 24] }, type := 4, pos := "whatfor.go:21", after := #[⟨10, .data⟩, ⟨12, .data⟩, ⟨12, .chain⟩, ⟨9, .guard⟩], guard := some (9, true) }
def oKq_14 : Oper := { dst := some 41, op := .pick (.tmp 36) (.tmp 40) (.const (.bool false)), type := 4, pos := "whatfor.go:21", after := #[⟨9, .data⟩, ⟨13, .data⟩], guard := none }
def oKq_15 : Oper := { dst := some 42, op := .move (.tmp 41), type := 4, pos := "whatfor.go:21", after := #[⟨14, .data⟩, ⟨13, .chain⟩], guard := none }
def oKq_16 : Oper := { dst := some 43, op := .load 24 (.tmp 3), type := 24, pos := "whatfor.go:21", after := #[⟨15, .guard⟩], guard := some (15, true) }
def oKq_17 : Oper := { dst := some 44, op := .buildSlice 22 4 #[(0, .const (.int .u32 1067450368)), (1, .const (.int .u32 1073741824)), (2, .const (.int .u32 1076887552)), (3, .const (.int .u32 1077936128))], type := 22, pos := "whatfor.go:21", after := #[⟨15, .guard⟩], guard := some (15, true) }
def oKq_18 : Oper := { dst := some 45, op := .call { callee := .value (.func 14), args := #[.tmp 44], argTypes := #[22] }, type := 24, pos := "whatfor.go:21", after := #[⟨17, .data⟩, ⟨15, .chain⟩, ⟨15, .guard⟩], guard := some (15, true) }
def oKq_19 : Oper := { dst := some 46, op := .call { callee := .value (.func 16), args := #[.tmp 43, .tmp 45], argTypes := #[24, 24] }, type := 4, pos := "whatfor.go:21", after := #[⟨16, .data⟩, ⟨18, .data⟩, ⟨18, .chain⟩, ⟨15, .guard⟩], guard := some (15, true) }
def oKq_20 : Oper := { dst := some 47, op := .pick (.tmp 42) (.tmp 46) (.const (.bool false)), type := 4, pos := "whatfor.go:21", after := #[⟨15, .data⟩, ⟨19, .data⟩], guard := none }
def oKq_21 : Oper := { dst := some 48, op := .move (.tmp 47), type := 4, pos := "whatfor.go:21", after := #[⟨20, .data⟩, ⟨19, .chain⟩], guard := none }
def oKq_22 : Oper := { dst := some 49, op := .load 24 (.tmp 5), type := 24, pos := "whatfor.go:21", after := #[⟨21, .guard⟩], guard := some (21, true) }
def oKq_23 : Oper := { dst := some 50, op := .buildSlice 22 1 #[(0, .const (.int .u32 2143289344))], type := 22, pos := "whatfor.go:21", after := #[⟨21, .guard⟩], guard := some (21, true) }
def oKq_24 : Oper := { dst := some 51, op := .call { callee := .value (.func 14), args := #[.tmp 50], argTypes := #[22] }, type := 24, pos := "whatfor.go:21", after := #[⟨23, .data⟩, ⟨21, .chain⟩, ⟨21, .guard⟩], guard := some (21, true) }
def oKq_25 : Oper := { dst := some 52, op := .call { callee := .value (.func 16), args := #[.tmp 49, .tmp 51], argTypes := #[24, 24] }, type := 4, pos := "whatfor.go:21", after := #[⟨22, .data⟩, ⟨24, .data⟩, ⟨24, .chain⟩, ⟨21, .guard⟩], guard := some (21, true) }
def oKq_26 : Oper := { dst := some 53, op := .pick (.tmp 48) (.tmp 52) (.const (.bool false)), type := 4, pos := "whatfor.go:21", after := #[⟨21, .data⟩, ⟨25, .data⟩], guard := none }
def oKq_27 : Oper := { dst := some 54, op := .move (.tmp 53), type := 4, pos := "whatfor.go:21", after := #[⟨26, .data⟩, ⟨25, .chain⟩], guard := none }
def oKq_28 : Oper := { dst := some 55, op := .load 24 (.tmp 6), type := 24, pos := "whatfor.go:21", after := #[⟨27, .guard⟩], guard := some (27, true) }
def oKq_29 : Oper := { dst := some 56, op := .buildSlice 22 1 #[(0, .const (.int .u32 4194304))], type := 22, pos := "whatfor.go:21", after := #[⟨27, .guard⟩], guard := some (27, true) }
def oKq_30 : Oper := { dst := some 57, op := .call { callee := .value (.func 14), args := #[.tmp 56], argTypes := #[22] }, type := 24, pos := "whatfor.go:21", after := #[⟨29, .data⟩, ⟨27, .chain⟩, ⟨27, .guard⟩], guard := some (27, true) }
def oKq_31 : Oper := { dst := some 58, op := .call { callee := .value (.func 16), args := #[.tmp 55, .tmp 57], argTypes := #[24, 24] }, type := 4, pos := "whatfor.go:21", after := #[⟨28, .data⟩, ⟨30, .data⟩, ⟨30, .chain⟩, ⟨27, .guard⟩], guard := some (27, true) }
def oKq_32 : Oper := { dst := some 59, op := .pick (.tmp 54) (.tmp 58) (.const (.bool false)), type := 4, pos := "whatfor.go:21", after := #[⟨27, .data⟩, ⟨31, .data⟩], guard := none }
def oKq_33 : Oper := { dst := some 0, op := .assign (.tmp 59), type := 4, pos := "whatfor.go:21", after := #[⟨32, .data⟩, ⟨31, .chain⟩, ⟨0, .phase⟩, ⟨1, .phase⟩, ⟨2, .phase⟩, ⟨3, .phase⟩, ⟨4, .phase⟩, ⟨5, .phase⟩, ⟨6, .phase⟩, ⟨7, .phase⟩, ⟨8, .phase⟩, ⟨9, .phase⟩, ⟨10, .phase⟩, ⟨11, .phase⟩, ⟨12, .phase⟩, ⟨13, .phase⟩, ⟨14, .phase⟩, ⟨15, .phase⟩, ⟨16, .phase⟩, ⟨17, .phase⟩, ⟨18, .phase⟩, ⟨19, .phase⟩, ⟨20, .phase⟩, ⟨21, .phase⟩, ⟨22, .phase⟩, ⟨23, .phase⟩, ⟨24, .phase⟩, ⟨25, .phase⟩, ⟨26, .phase⟩, ⟨27, .phase⟩, ⟨28, .phase⟩, ⟨29, .phase⟩, ⟨30, .phase⟩, ⟨31, .phase⟩, ⟨32, .phase⟩], guard := none }
def opsKq : List Oper := [oKq_0, oKq_1, oKq_2, oKq_3, oKq_4, oKq_5, oKq_6, oKq_7, oKq_8, oKq_9, oKq_10, oKq_11, oKq_12, oKq_13, oKq_14, oKq_15, oKq_16, oKq_17, oKq_18, oKq_19, oKq_20, oKq_21, oKq_22, oKq_23, oKq_24, oKq_25, oKq_26, oKq_27, oKq_28, oKq_29, oKq_30, oKq_31, oKq_32, oKq_33]
def sKq : List Nat := [27, 28, 29, 30, 31, 32, 33, 34, 35, 36, 37, 38, 39, 40, 41, 42, 43, 44, 45, 46, 47, 48, 49, 50, 51, 52, 53, 54, 55, 56, 57, 58, 59, 0]
def spKq (V1 V3 V5 V6 g1 g3 g5 g6 : Nat) : List Spec := [spV (.int .i64 0), spV (.int .i64 0), spV (.int .i64 0), spV (.int .i64 0), spV (.int .i64 0), spV (.int .i64 0), spV (.int .i64 0), spV (.int .i64 0), spV (.bool true), spV (.bool true), spV (.agg #[.int .i64 2, .int .i64 1, .slice (some ⟨g1, 0, none⟩) 2 2]), litS 2 [1069023232, 1083310080], rowS 2 [1069023232, 1083310080], spV (.bool true), spV (.bool true), spV (.bool true), spV (.agg #[.int .i64 4, .int .i64 1, .slice (some ⟨g3, 0, none⟩) 4 4]), litS 4 [1067450368, 1073741824, 1076887552, 1077936128], rowS 4 [1067450368, 1073741824, 1076887552, 1077936128], spV (.bool true), spV (.bool true), spV (.bool true), spV (.agg #[.int .i64 1, .int .i64 1, .slice (some ⟨g5, 0, none⟩) 1 1]), litS 1 [2143289344], rowS 1 [2143289344], spV (.bool true), spV (.bool true), spV (.bool true), spV (.agg #[.int .i64 1, .int .i64 1, .slice (some ⟨g6, 0, none⟩) 1 1]), litS 1 [4194304], rowS 1 [4194304], spV (.bool true), spV (.bool true), spV (.bool true)]
structure EnvKq (a0 : Act) (w : World) (V1 V3 V5 V6 g1 g3 g5 g6 : Nat) : Prop where
  e2 : a0.tmps[2]? = some (.int .i64 0)
  e4 : a0.tmps[4]? = some (.int .i64 0)
  e7 : a0.tmps[7]? = some (.int .i64 0)
  h1 : a0.tmps[1]? = some (.pointer (some ⟨V1, 0, none⟩))
  a1 : w.cell? ⟨V1, 0, none⟩ = some (.int .i64 2)
  b1 : w.cell? ⟨V1, 1, none⟩ = some (.int .i64 1)
  c1 : w.cell? ⟨V1, 2, none⟩ = some (.slice (some ⟨g1, 0, none⟩) 2 2)
  u1 : UIs w g1 0 [1069023232, 1083310080]
  h3 : a0.tmps[3]? = some (.pointer (some ⟨V3, 0, none⟩))
  a3 : w.cell? ⟨V3, 0, none⟩ = some (.int .i64 4)
  b3 : w.cell? ⟨V3, 1, none⟩ = some (.int .i64 1)
  c3 : w.cell? ⟨V3, 2, none⟩ = some (.slice (some ⟨g3, 0, none⟩) 4 4)
  u3 : UIs w g3 0 [1067450368, 1073741824, 1076887552, 1077936128]
  h5 : a0.tmps[5]? = some (.pointer (some ⟨V5, 0, none⟩))
  a5 : w.cell? ⟨V5, 0, none⟩ = some (.int .i64 1)
  b5 : w.cell? ⟨V5, 1, none⟩ = some (.int .i64 1)
  c5 : w.cell? ⟨V5, 2, none⟩ = some (.slice (some ⟨g5, 0, none⟩) 1 1)
  u5 : UIs w g5 0 [2143289344]
  h6 : a0.tmps[6]? = some (.pointer (some ⟨V6, 0, none⟩))
  a6 : w.cell? ⟨V6, 0, none⟩ = some (.int .i64 1)
  b6 : w.cell? ⟨V6, 1, none⟩ = some (.int .i64 1)
  c6 : w.cell? ⟨V6, 2, none⟩ = some (.slice (some ⟨g6, 0, none⟩) 1 1)
  u6 : UIs w g6 0 [4194304]
def skKq (i : Nat) : Bool := [].contains i
theorem yKq_0 {a0 : Act} {w : World} {V1 V3 V5 V6 g1 g3 g5 g6 : Nat} (E : EnvKq a0 w V1 V3 V5 V6 g1 g3 g5 g6) {R : Exit → Act → World → Prop} {a : Act} {x : World} (q : Q w x) (oth : ∀ j, j ∉ sKq → a.tmps[j]? = a0.tmps[j]?) (dep : ∀ ed ∈ oKq_0.after, Region.binds .any ed = true → ∀ t', sKq[ed.on]? = some t' → ∃ v, a.tmps[t']? = some v ∧ specAt (spKq V1 V3 V5 V6 g1 g3 g5 g6) ed.on v x) : Yld Try.prog R oKq_0 a x 27 (specAt (spKq V1 V3 V5 V6 g1 g3 g5 g6) 0) := by
  have hs := (oth 2 (by decide)).trans E.e2
  exact yld_run (x' := x) rfl (by simp [oKq_0, execOp, go_sem, hs]) (Q.refl x) rfl
theorem yKq_1 {a0 : Act} {w : World} {V1 V3 V5 V6 g1 g3 g5 g6 : Nat} (E : EnvKq a0 w V1 V3 V5 V6 g1 g3 g5 g6) {R : Exit → Act → World → Prop} {a : Act} {x : World} (q : Q w x) (oth : ∀ j, j ∉ sKq → a.tmps[j]? = a0.tmps[j]?) (dep : ∀ ed ∈ oKq_1.after, Region.binds .any ed = true → ∀ t', sKq[ed.on]? = some t' → ∃ v, a.tmps[t']? = some v ∧ specAt (spKq V1 V3 V5 V6 g1 g3 g5 g6) ed.on v x) : Yld Try.prog R oKq_1 a x 28 (specAt (spKq V1 V3 V5 V6 g1 g3 g5 g6) 1) := by
  obtain ⟨v0, t0, f0⟩ := dep ⟨0, .data⟩ (by simp [oKq_1]) rfl 27 rfl
  have f0 : v0 = (.int .i64 0) := f0
  subst f0
  refine yld_call (enters_of Try.func11 (by kernel_rfl) rfl) (vs := #[.int .i64 0]) (by simp [tmp_eval t0]) ((num14_any 0 x).mono ?_)
  rintro u x' ⟨rfl, hx⟩
  exact ⟨_, rfl, hx ▸ Q.refl x, rfl⟩
theorem yKq_2 {a0 : Act} {w : World} {V1 V3 V5 V6 g1 g3 g5 g6 : Nat} (E : EnvKq a0 w V1 V3 V5 V6 g1 g3 g5 g6) {R : Exit → Act → World → Prop} {a : Act} {x : World} (q : Q w x) (oth : ∀ j, j ∉ sKq → a.tmps[j]? = a0.tmps[j]?) (dep : ∀ ed ∈ oKq_2.after, Region.binds .any ed = true → ∀ t', sKq[ed.on]? = some t' → ∃ v, a.tmps[t']? = some v ∧ specAt (spKq V1 V3 V5 V6 g1 g3 g5 g6) ed.on v x) : Yld Try.prog R oKq_2 a x 29 (specAt (spKq V1 V3 V5 V6 g1 g3 g5 g6) 2) := by
  have hs := (oth 4 (by decide)).trans E.e4
  exact yld_run (x' := x) rfl (by simp [oKq_2, execOp, go_sem, hs]) (Q.refl x) rfl
theorem yKq_3 {a0 : Act} {w : World} {V1 V3 V5 V6 g1 g3 g5 g6 : Nat} (E : EnvKq a0 w V1 V3 V5 V6 g1 g3 g5 g6) {R : Exit → Act → World → Prop} {a : Act} {x : World} (q : Q w x) (oth : ∀ j, j ∉ sKq → a.tmps[j]? = a0.tmps[j]?) (dep : ∀ ed ∈ oKq_3.after, Region.binds .any ed = true → ∀ t', sKq[ed.on]? = some t' → ∃ v, a.tmps[t']? = some v ∧ specAt (spKq V1 V3 V5 V6 g1 g3 g5 g6) ed.on v x) : Yld Try.prog R oKq_3 a x 30 (specAt (spKq V1 V3 V5 V6 g1 g3 g5 g6) 3) := by
  obtain ⟨v2, t2, f2⟩ := dep ⟨2, .data⟩ (by simp [oKq_3]) rfl 29 rfl
  have f2 : v2 = (.int .i64 0) := f2
  subst f2
  refine yld_call (enters_of Try.func11 (by kernel_rfl) rfl) (vs := #[.int .i64 0]) (by simp [tmp_eval t2]) ((num14_any 0 x).mono ?_)
  rintro u x' ⟨rfl, hx⟩
  exact ⟨_, rfl, hx ▸ Q.refl x, rfl⟩
theorem yKq_4 {a0 : Act} {w : World} {V1 V3 V5 V6 g1 g3 g5 g6 : Nat} (E : EnvKq a0 w V1 V3 V5 V6 g1 g3 g5 g6) {R : Exit → Act → World → Prop} {a : Act} {x : World} (q : Q w x) (oth : ∀ j, j ∉ sKq → a.tmps[j]? = a0.tmps[j]?) (dep : ∀ ed ∈ oKq_4.after, Region.binds .any ed = true → ∀ t', sKq[ed.on]? = some t' → ∃ v, a.tmps[t']? = some v ∧ specAt (spKq V1 V3 V5 V6 g1 g3 g5 g6) ed.on v x) : Yld Try.prog R oKq_4 a x 31 (specAt (spKq V1 V3 V5 V6 g1 g3 g5 g6) 4) := by
  obtain ⟨v1, t1, f1⟩ := dep ⟨1, .data⟩ (by simp [oKq_4]) rfl 28 rfl
  have f1 : v1 = (.int .i64 0) := f1
  subst f1
  obtain ⟨v3, t3, f3⟩ := dep ⟨3, .data⟩ (by simp [oKq_4]) rfl 30 rfl
  have f3 : v3 = (.int .i64 0) := f3
  subst f3
  exact yld_run (x' := x) rfl (by simp [oKq_4, execOp, go_sem, t1, t3, show IntKind.i64.wrap 0 = 0 by decide]) (Q.refl x) rfl
theorem yKq_5 {a0 : Act} {w : World} {V1 V3 V5 V6 g1 g3 g5 g6 : Nat} (E : EnvKq a0 w V1 V3 V5 V6 g1 g3 g5 g6) {R : Exit → Act → World → Prop} {a : Act} {x : World} (q : Q w x) (oth : ∀ j, j ∉ sKq → a.tmps[j]? = a0.tmps[j]?) (dep : ∀ ed ∈ oKq_5.after, Region.binds .any ed = true → ∀ t', sKq[ed.on]? = some t' → ∃ v, a.tmps[t']? = some v ∧ specAt (spKq V1 V3 V5 V6 g1 g3 g5 g6) ed.on v x) : Yld Try.prog R oKq_5 a x 32 (specAt (spKq V1 V3 V5 V6 g1 g3 g5 g6) 5) := by
  have hs := (oth 7 (by decide)).trans E.e7
  exact yld_run (x' := x) rfl (by simp [oKq_5, execOp, go_sem, hs]) (Q.refl x) rfl
theorem yKq_6 {a0 : Act} {w : World} {V1 V3 V5 V6 g1 g3 g5 g6 : Nat} (E : EnvKq a0 w V1 V3 V5 V6 g1 g3 g5 g6) {R : Exit → Act → World → Prop} {a : Act} {x : World} (q : Q w x) (oth : ∀ j, j ∉ sKq → a.tmps[j]? = a0.tmps[j]?) (dep : ∀ ed ∈ oKq_6.after, Region.binds .any ed = true → ∀ t', sKq[ed.on]? = some t' → ∃ v, a.tmps[t']? = some v ∧ specAt (spKq V1 V3 V5 V6 g1 g3 g5 g6) ed.on v x) : Yld Try.prog R oKq_6 a x 33 (specAt (spKq V1 V3 V5 V6 g1 g3 g5 g6) 6) := by
  obtain ⟨v5, t5, f5⟩ := dep ⟨5, .data⟩ (by simp [oKq_6]) rfl 32 rfl
  have f5 : v5 = (.int .i64 0) := f5
  subst f5
  refine yld_call (enters_of Try.func11 (by kernel_rfl) rfl) (vs := #[.int .i64 0]) (by simp [tmp_eval t5]) ((num14_any 0 x).mono ?_)
  rintro u x' ⟨rfl, hx⟩
  exact ⟨_, rfl, hx ▸ Q.refl x, rfl⟩
theorem yKq_7 {a0 : Act} {w : World} {V1 V3 V5 V6 g1 g3 g5 g6 : Nat} (E : EnvKq a0 w V1 V3 V5 V6 g1 g3 g5 g6) {R : Exit → Act → World → Prop} {a : Act} {x : World} (q : Q w x) (oth : ∀ j, j ∉ sKq → a.tmps[j]? = a0.tmps[j]?) (dep : ∀ ed ∈ oKq_7.after, Region.binds .any ed = true → ∀ t', sKq[ed.on]? = some t' → ∃ v, a.tmps[t']? = some v ∧ specAt (spKq V1 V3 V5 V6 g1 g3 g5 g6) ed.on v x) : Yld Try.prog R oKq_7 a x 34 (specAt (spKq V1 V3 V5 V6 g1 g3 g5 g6) 7) := by
  obtain ⟨v4, t4, f4⟩ := dep ⟨4, .data⟩ (by simp [oKq_7]) rfl 31 rfl
  have f4 : v4 = (.int .i64 0) := f4
  subst f4
  obtain ⟨v6, t6, f6⟩ := dep ⟨6, .data⟩ (by simp [oKq_7]) rfl 33 rfl
  have f6 : v6 = (.int .i64 0) := f6
  subst f6
  exact yld_run (x' := x) rfl (by simp [oKq_7, execOp, go_sem, t4, t6, show IntKind.i64.wrap 0 = 0 by decide]) (Q.refl x) rfl
theorem yKq_8 {a0 : Act} {w : World} {V1 V3 V5 V6 g1 g3 g5 g6 : Nat} (E : EnvKq a0 w V1 V3 V5 V6 g1 g3 g5 g6) {R : Exit → Act → World → Prop} {a : Act} {x : World} (q : Q w x) (oth : ∀ j, j ∉ sKq → a.tmps[j]? = a0.tmps[j]?) (dep : ∀ ed ∈ oKq_8.after, Region.binds .any ed = true → ∀ t', sKq[ed.on]? = some t' → ∃ v, a.tmps[t']? = some v ∧ specAt (spKq V1 V3 V5 V6 g1 g3 g5 g6) ed.on v x) : Yld Try.prog R oKq_8 a x 35 (specAt (spKq V1 V3 V5 V6 g1 g3 g5 g6) 8) := by
  obtain ⟨v7, t7, f7⟩ := dep ⟨7, .data⟩ (by simp [oKq_8]) rfl 34 rfl
  have f7 : v7 = (.int .i64 0) := f7
  subst f7
  exact yld_run (x' := x) rfl (by simp [oKq_8, execOp, go_sem, t7]) (Q.refl x) rfl
theorem yKq_9 {a0 : Act} {w : World} {V1 V3 V5 V6 g1 g3 g5 g6 : Nat} (E : EnvKq a0 w V1 V3 V5 V6 g1 g3 g5 g6) {R : Exit → Act → World → Prop} {a : Act} {x : World} (q : Q w x) (oth : ∀ j, j ∉ sKq → a.tmps[j]? = a0.tmps[j]?) (dep : ∀ ed ∈ oKq_9.after, Region.binds .any ed = true → ∀ t', sKq[ed.on]? = some t' → ∃ v, a.tmps[t']? = some v ∧ specAt (spKq V1 V3 V5 V6 g1 g3 g5 g6) ed.on v x) : Yld Try.prog R oKq_9 a x 36 (specAt (spKq V1 V3 V5 V6 g1 g3 g5 g6) 9) := by
  obtain ⟨v8, t8, f8⟩ := dep ⟨8, .data⟩ (by simp [oKq_9]) rfl 35 rfl
  have f8 : v8 = (.bool true) := f8
  subst f8
  exact yld_move t8 rfl
theorem yKq_10 {a0 : Act} {w : World} {V1 V3 V5 V6 g1 g3 g5 g6 : Nat} (E : EnvKq a0 w V1 V3 V5 V6 g1 g3 g5 g6) {R : Exit → Act → World → Prop} {a : Act} {x : World} (q : Q w x) (oth : ∀ j, j ∉ sKq → a.tmps[j]? = a0.tmps[j]?) (dep : ∀ ed ∈ oKq_10.after, Region.binds .any ed = true → ∀ t', sKq[ed.on]? = some t' → ∃ v, a.tmps[t']? = some v ∧ specAt (spKq V1 V3 V5 V6 g1 g3 g5 g6) ed.on v x) : Yld Try.prog R oKq_10 a x 37 (specAt (spKq V1 V3 V5 V6 g1 g3 g5 g6) 10) := by
  have hs := (oth 1 (by decide)).trans E.h1
  have c0 := q.cell E.a1
  have c1 := q.cell E.b1
  have c2 := q.cell E.c1
  exact yld_run (x' := x) rfl (by simp [oKq_10, execOp, go_sem, hs, c0, c1, c2]) (Q.refl x) rfl
theorem yKq_11 {a0 : Act} {w : World} {V1 V3 V5 V6 g1 g3 g5 g6 : Nat} (E : EnvKq a0 w V1 V3 V5 V6 g1 g3 g5 g6) {R : Exit → Act → World → Prop} {a : Act} {x : World} (q : Q w x) (oth : ∀ j, j ∉ sKq → a.tmps[j]? = a0.tmps[j]?) (dep : ∀ ed ∈ oKq_11.after, Region.binds .any ed = true → ∀ t', sKq[ed.on]? = some t' → ∃ v, a.tmps[t']? = some v ∧ specAt (spKq V1 V3 V5 V6 g1 g3 g5 g6) ed.on v x) : Yld Try.prog R oKq_11 a x 38 (specAt (spKq V1 V3 V5 V6 g1 g3 g5 g6) 11) := by
  exact yld_run (x' := x.alloc (.cells (([1069023232, 1083310080] : List Nat).map fun y : Nat => Value.int .u32 (y : Nat)).toArray 30)) (v := .slice (some ⟨x.heap.size, 0, none⟩) 2 2) rfl (by simp [oKq_11, execOp, go_sem]) ((Q.refl x).cells _ _) ⟨x.heap.size, rfl, lit_uis rfl⟩
theorem yKq_12 {a0 : Act} {w : World} {V1 V3 V5 V6 g1 g3 g5 g6 : Nat} (E : EnvKq a0 w V1 V3 V5 V6 g1 g3 g5 g6) {R : Exit → Act → World → Prop} {a : Act} {x : World} (q : Q w x) (oth : ∀ j, j ∉ sKq → a.tmps[j]? = a0.tmps[j]?) (dep : ∀ ed ∈ oKq_12.after, Region.binds .any ed = true → ∀ t', sKq[ed.on]? = some t' → ∃ v, a.tmps[t']? = some v ∧ specAt (spKq V1 V3 V5 V6 g1 g3 g5 g6) ed.on v x) : Yld Try.prog R oKq_12 a x 39 (specAt (spKq V1 V3 V5 V6 g1 g3 g5 g6) 12) := by
  obtain ⟨v11, t11, f11⟩ := dep ⟨11, .data⟩ (by simp [oKq_12]) rfl 38 rfl
  have f11 : (litS 2 [1069023232, 1083310080]).p v11 x := f11
  obtain ⟨g, rfl, hu⟩ := f11
  refine yld_call (enters_of Try.func14 (by kernel_rfl) rfl) (vs := #[.slice (some ⟨g, 0, none⟩) 2 2]) (by simp [tmp_eval t11]) ((prow_any (some ⟨g, 0, none⟩) 2 2 x).mono ?_)
  rintro u x' ⟨rfl, q'⟩
  exact ⟨_, rfl, q', g, rfl, hu.next q'⟩
theorem yKq_13 {a0 : Act} {w : World} {V1 V3 V5 V6 g1 g3 g5 g6 : Nat} (E : EnvKq a0 w V1 V3 V5 V6 g1 g3 g5 g6) {R : Exit → Act → World → Prop} {a : Act} {x : World} (q : Q w x) (oth : ∀ j, j ∉ sKq → a.tmps[j]? = a0.tmps[j]?) (dep : ∀ ed ∈ oKq_13.after, Region.binds .any ed = true → ∀ t', sKq[ed.on]? = some t' → ∃ v, a.tmps[t']? = some v ∧ specAt (spKq V1 V3 V5 V6 g1 g3 g5 g6) ed.on v x) : Yld Try.prog R oKq_13 a x 40 (specAt (spKq V1 V3 V5 V6 g1 g3 g5 g6) 13) := by
  obtain ⟨v10, t10, f10⟩ := dep ⟨10, .data⟩ (by simp [oKq_13]) rfl 37 rfl
  have f10 : v10 = (.agg #[.int .i64 2, .int .i64 1, .slice (some ⟨g1, 0, none⟩) 2 2]) := f10
  subst f10
  obtain ⟨v12, t12, f12⟩ := dep ⟨12, .data⟩ (by simp [oKq_13]) rfl 39 rfl
  have f12 : (rowS 2 [1069023232, 1083310080]).p v12 x := f12
  obtain ⟨g, rfl, hu⟩ := f12
  refine yld_call (enters_of Try.func16 (by kernel_rfl) rfl) (vs := #[.agg #[.int .i64 2, .int .i64 1, .slice (some ⟨g1, 0, none⟩) 2 2], .agg #[.int .i64 2, .int .i64 1, .slice (some ⟨g, 0, none⟩) 2 2]]) (by simp [tmp_eval t10, tmp_eval t12]) ((hplanes_yes 2 1 (some ⟨g1, 0, none⟩) (some ⟨g, 0, none⟩) 2 2 2 [1069023232, 1083310080] x ((E.u1.next q).usl (cap := 2) (by decide)) (hu.usl (cap := 2) (by decide)) (by decide)).mono ?_)
  rintro u x' ⟨rfl, q'⟩
  exact ⟨_, rfl, q', rfl⟩
theorem yKq_14 {a0 : Act} {w : World} {V1 V3 V5 V6 g1 g3 g5 g6 : Nat} (E : EnvKq a0 w V1 V3 V5 V6 g1 g3 g5 g6) {R : Exit → Act → World → Prop} {a : Act} {x : World} (q : Q w x) (oth : ∀ j, j ∉ sKq → a.tmps[j]? = a0.tmps[j]?) (dep : ∀ ed ∈ oKq_14.after, Region.binds .any ed = true → ∀ t', sKq[ed.on]? = some t' → ∃ v, a.tmps[t']? = some v ∧ specAt (spKq V1 V3 V5 V6 g1 g3 g5 g6) ed.on v x) : Yld Try.prog R oKq_14 a x 41 (specAt (spKq V1 V3 V5 V6 g1 g3 g5 g6) 14) := by
  obtain ⟨v9, t9, f9⟩ := dep ⟨9, .data⟩ (by simp [oKq_14]) rfl 36 rfl
  have f9 : v9 = (.bool true) := f9
  subst f9
  obtain ⟨v13, t13, f13⟩ := dep ⟨13, .data⟩ (by simp [oKq_14]) rfl 40 rfl
  have f13 : v13 = (.bool true) := f13
  subst f13
  exact yld_run (x' := x) rfl (run_andq (tmp_eval t9) (tmp_eval t13)) (Q.refl x) rfl
theorem yKq_15 {a0 : Act} {w : World} {V1 V3 V5 V6 g1 g3 g5 g6 : Nat} (E : EnvKq a0 w V1 V3 V5 V6 g1 g3 g5 g6) {R : Exit → Act → World → Prop} {a : Act} {x : World} (q : Q w x) (oth : ∀ j, j ∉ sKq → a.tmps[j]? = a0.tmps[j]?) (dep : ∀ ed ∈ oKq_15.after, Region.binds .any ed = true → ∀ t', sKq[ed.on]? = some t' → ∃ v, a.tmps[t']? = some v ∧ specAt (spKq V1 V3 V5 V6 g1 g3 g5 g6) ed.on v x) : Yld Try.prog R oKq_15 a x 42 (specAt (spKq V1 V3 V5 V6 g1 g3 g5 g6) 15) := by
  obtain ⟨v14, t14, f14⟩ := dep ⟨14, .data⟩ (by simp [oKq_15]) rfl 41 rfl
  have f14 : v14 = (.bool true) := f14
  subst f14
  exact yld_move t14 rfl
theorem yKq_16 {a0 : Act} {w : World} {V1 V3 V5 V6 g1 g3 g5 g6 : Nat} (E : EnvKq a0 w V1 V3 V5 V6 g1 g3 g5 g6) {R : Exit → Act → World → Prop} {a : Act} {x : World} (q : Q w x) (oth : ∀ j, j ∉ sKq → a.tmps[j]? = a0.tmps[j]?) (dep : ∀ ed ∈ oKq_16.after, Region.binds .any ed = true → ∀ t', sKq[ed.on]? = some t' → ∃ v, a.tmps[t']? = some v ∧ specAt (spKq V1 V3 V5 V6 g1 g3 g5 g6) ed.on v x) : Yld Try.prog R oKq_16 a x 43 (specAt (spKq V1 V3 V5 V6 g1 g3 g5 g6) 16) := by
  have hs := (oth 3 (by decide)).trans E.h3
  have c0 := q.cell E.a3
  have c1 := q.cell E.b3
  have c2 := q.cell E.c3
  exact yld_run (x' := x) rfl (by simp [oKq_16, execOp, go_sem, hs, c0, c1, c2]) (Q.refl x) rfl
theorem yKq_17 {a0 : Act} {w : World} {V1 V3 V5 V6 g1 g3 g5 g6 : Nat} (E : EnvKq a0 w V1 V3 V5 V6 g1 g3 g5 g6) {R : Exit → Act → World → Prop} {a : Act} {x : World} (q : Q w x) (oth : ∀ j, j ∉ sKq → a.tmps[j]? = a0.tmps[j]?) (dep : ∀ ed ∈ oKq_17.after, Region.binds .any ed = true → ∀ t', sKq[ed.on]? = some t' → ∃ v, a.tmps[t']? = some v ∧ specAt (spKq V1 V3 V5 V6 g1 g3 g5 g6) ed.on v x) : Yld Try.prog R oKq_17 a x 44 (specAt (spKq V1 V3 V5 V6 g1 g3 g5 g6) 17) := by
  exact yld_run (x' := x.alloc (.cells (([1067450368, 1073741824, 1076887552, 1077936128] : List Nat).map fun y : Nat => Value.int .u32 (y : Nat)).toArray 30)) (v := .slice (some ⟨x.heap.size, 0, none⟩) 4 4) rfl (by simp [oKq_17, execOp, go_sem]) ((Q.refl x).cells _ _) ⟨x.heap.size, rfl, lit_uis rfl⟩
theorem yKq_18 {a0 : Act} {w : World} {V1 V3 V5 V6 g1 g3 g5 g6 : Nat} (E : EnvKq a0 w V1 V3 V5 V6 g1 g3 g5 g6) {R : Exit → Act → World → Prop} {a : Act} {x : World} (q : Q w x) (oth : ∀ j, j ∉ sKq → a.tmps[j]? = a0.tmps[j]?) (dep : ∀ ed ∈ oKq_18.after, Region.binds .any ed = true → ∀ t', sKq[ed.on]? = some t' → ∃ v, a.tmps[t']? = some v ∧ specAt (spKq V1 V3 V5 V6 g1 g3 g5 g6) ed.on v x) : Yld Try.prog R oKq_18 a x 45 (specAt (spKq V1 V3 V5 V6 g1 g3 g5 g6) 18) := by
  obtain ⟨v17, t17, f17⟩ := dep ⟨17, .data⟩ (by simp [oKq_18]) rfl 44 rfl
  have f17 : (litS 4 [1067450368, 1073741824, 1076887552, 1077936128]).p v17 x := f17
  obtain ⟨g, rfl, hu⟩ := f17
  refine yld_call (enters_of Try.func14 (by kernel_rfl) rfl) (vs := #[.slice (some ⟨g, 0, none⟩) 4 4]) (by simp [tmp_eval t17]) ((prow_any (some ⟨g, 0, none⟩) 4 4 x).mono ?_)
  rintro u x' ⟨rfl, q'⟩
  exact ⟨_, rfl, q', g, rfl, hu.next q'⟩
theorem yKq_19 {a0 : Act} {w : World} {V1 V3 V5 V6 g1 g3 g5 g6 : Nat} (E : EnvKq a0 w V1 V3 V5 V6 g1 g3 g5 g6) {R : Exit → Act → World → Prop} {a : Act} {x : World} (q : Q w x) (oth : ∀ j, j ∉ sKq → a.tmps[j]? = a0.tmps[j]?) (dep : ∀ ed ∈ oKq_19.after, Region.binds .any ed = true → ∀ t', sKq[ed.on]? = some t' → ∃ v, a.tmps[t']? = some v ∧ specAt (spKq V1 V3 V5 V6 g1 g3 g5 g6) ed.on v x) : Yld Try.prog R oKq_19 a x 46 (specAt (spKq V1 V3 V5 V6 g1 g3 g5 g6) 19) := by
  obtain ⟨v16, t16, f16⟩ := dep ⟨16, .data⟩ (by simp [oKq_19]) rfl 43 rfl
  have f16 : v16 = (.agg #[.int .i64 4, .int .i64 1, .slice (some ⟨g3, 0, none⟩) 4 4]) := f16
  subst f16
  obtain ⟨v18, t18, f18⟩ := dep ⟨18, .data⟩ (by simp [oKq_19]) rfl 45 rfl
  have f18 : (rowS 4 [1067450368, 1073741824, 1076887552, 1077936128]).p v18 x := f18
  obtain ⟨g, rfl, hu⟩ := f18
  refine yld_call (enters_of Try.func16 (by kernel_rfl) rfl) (vs := #[.agg #[.int .i64 4, .int .i64 1, .slice (some ⟨g3, 0, none⟩) 4 4], .agg #[.int .i64 4, .int .i64 1, .slice (some ⟨g, 0, none⟩) 4 4]]) (by simp [tmp_eval t16, tmp_eval t18]) ((hplanes_yes 4 1 (some ⟨g3, 0, none⟩) (some ⟨g, 0, none⟩) 4 4 4 [1067450368, 1073741824, 1076887552, 1077936128] x ((E.u3.next q).usl (cap := 4) (by decide)) (hu.usl (cap := 4) (by decide)) (by decide)).mono ?_)
  rintro u x' ⟨rfl, q'⟩
  exact ⟨_, rfl, q', rfl⟩
theorem yKq_20 {a0 : Act} {w : World} {V1 V3 V5 V6 g1 g3 g5 g6 : Nat} (E : EnvKq a0 w V1 V3 V5 V6 g1 g3 g5 g6) {R : Exit → Act → World → Prop} {a : Act} {x : World} (q : Q w x) (oth : ∀ j, j ∉ sKq → a.tmps[j]? = a0.tmps[j]?) (dep : ∀ ed ∈ oKq_20.after, Region.binds .any ed = true → ∀ t', sKq[ed.on]? = some t' → ∃ v, a.tmps[t']? = some v ∧ specAt (spKq V1 V3 V5 V6 g1 g3 g5 g6) ed.on v x) : Yld Try.prog R oKq_20 a x 47 (specAt (spKq V1 V3 V5 V6 g1 g3 g5 g6) 20) := by
  obtain ⟨v15, t15, f15⟩ := dep ⟨15, .data⟩ (by simp [oKq_20]) rfl 42 rfl
  have f15 : v15 = (.bool true) := f15
  subst f15
  obtain ⟨v19, t19, f19⟩ := dep ⟨19, .data⟩ (by simp [oKq_20]) rfl 46 rfl
  have f19 : v19 = (.bool true) := f19
  subst f19
  exact yld_run (x' := x) rfl (run_andq (tmp_eval t15) (tmp_eval t19)) (Q.refl x) rfl
theorem yKq_21 {a0 : Act} {w : World} {V1 V3 V5 V6 g1 g3 g5 g6 : Nat} (E : EnvKq a0 w V1 V3 V5 V6 g1 g3 g5 g6) {R : Exit → Act → World → Prop} {a : Act} {x : World} (q : Q w x) (oth : ∀ j, j ∉ sKq → a.tmps[j]? = a0.tmps[j]?) (dep : ∀ ed ∈ oKq_21.after, Region.binds .any ed = true → ∀ t', sKq[ed.on]? = some t' → ∃ v, a.tmps[t']? = some v ∧ specAt (spKq V1 V3 V5 V6 g1 g3 g5 g6) ed.on v x) : Yld Try.prog R oKq_21 a x 48 (specAt (spKq V1 V3 V5 V6 g1 g3 g5 g6) 21) := by
  obtain ⟨v20, t20, f20⟩ := dep ⟨20, .data⟩ (by simp [oKq_21]) rfl 47 rfl
  have f20 : v20 = (.bool true) := f20
  subst f20
  exact yld_move t20 rfl
theorem yKq_22 {a0 : Act} {w : World} {V1 V3 V5 V6 g1 g3 g5 g6 : Nat} (E : EnvKq a0 w V1 V3 V5 V6 g1 g3 g5 g6) {R : Exit → Act → World → Prop} {a : Act} {x : World} (q : Q w x) (oth : ∀ j, j ∉ sKq → a.tmps[j]? = a0.tmps[j]?) (dep : ∀ ed ∈ oKq_22.after, Region.binds .any ed = true → ∀ t', sKq[ed.on]? = some t' → ∃ v, a.tmps[t']? = some v ∧ specAt (spKq V1 V3 V5 V6 g1 g3 g5 g6) ed.on v x) : Yld Try.prog R oKq_22 a x 49 (specAt (spKq V1 V3 V5 V6 g1 g3 g5 g6) 22) := by
  have hs := (oth 5 (by decide)).trans E.h5
  have c0 := q.cell E.a5
  have c1 := q.cell E.b5
  have c2 := q.cell E.c5
  exact yld_run (x' := x) rfl (by simp [oKq_22, execOp, go_sem, hs, c0, c1, c2]) (Q.refl x) rfl
theorem yKq_23 {a0 : Act} {w : World} {V1 V3 V5 V6 g1 g3 g5 g6 : Nat} (E : EnvKq a0 w V1 V3 V5 V6 g1 g3 g5 g6) {R : Exit → Act → World → Prop} {a : Act} {x : World} (q : Q w x) (oth : ∀ j, j ∉ sKq → a.tmps[j]? = a0.tmps[j]?) (dep : ∀ ed ∈ oKq_23.after, Region.binds .any ed = true → ∀ t', sKq[ed.on]? = some t' → ∃ v, a.tmps[t']? = some v ∧ specAt (spKq V1 V3 V5 V6 g1 g3 g5 g6) ed.on v x) : Yld Try.prog R oKq_23 a x 50 (specAt (spKq V1 V3 V5 V6 g1 g3 g5 g6) 23) := by
  exact yld_run (x' := x.alloc (.cells (([2143289344] : List Nat).map fun y : Nat => Value.int .u32 (y : Nat)).toArray 30)) (v := .slice (some ⟨x.heap.size, 0, none⟩) 1 1) rfl (by simp [oKq_23, execOp, go_sem]) ((Q.refl x).cells _ _) ⟨x.heap.size, rfl, lit_uis rfl⟩
theorem yKq_24 {a0 : Act} {w : World} {V1 V3 V5 V6 g1 g3 g5 g6 : Nat} (E : EnvKq a0 w V1 V3 V5 V6 g1 g3 g5 g6) {R : Exit → Act → World → Prop} {a : Act} {x : World} (q : Q w x) (oth : ∀ j, j ∉ sKq → a.tmps[j]? = a0.tmps[j]?) (dep : ∀ ed ∈ oKq_24.after, Region.binds .any ed = true → ∀ t', sKq[ed.on]? = some t' → ∃ v, a.tmps[t']? = some v ∧ specAt (spKq V1 V3 V5 V6 g1 g3 g5 g6) ed.on v x) : Yld Try.prog R oKq_24 a x 51 (specAt (spKq V1 V3 V5 V6 g1 g3 g5 g6) 24) := by
  obtain ⟨v23, t23, f23⟩ := dep ⟨23, .data⟩ (by simp [oKq_24]) rfl 50 rfl
  have f23 : (litS 1 [2143289344]).p v23 x := f23
  obtain ⟨g, rfl, hu⟩ := f23
  refine yld_call (enters_of Try.func14 (by kernel_rfl) rfl) (vs := #[.slice (some ⟨g, 0, none⟩) 1 1]) (by simp [tmp_eval t23]) ((prow_any (some ⟨g, 0, none⟩) 1 1 x).mono ?_)
  rintro u x' ⟨rfl, q'⟩
  exact ⟨_, rfl, q', g, rfl, hu.next q'⟩
theorem yKq_25 {a0 : Act} {w : World} {V1 V3 V5 V6 g1 g3 g5 g6 : Nat} (E : EnvKq a0 w V1 V3 V5 V6 g1 g3 g5 g6) {R : Exit → Act → World → Prop} {a : Act} {x : World} (q : Q w x) (oth : ∀ j, j ∉ sKq → a.tmps[j]? = a0.tmps[j]?) (dep : ∀ ed ∈ oKq_25.after, Region.binds .any ed = true → ∀ t', sKq[ed.on]? = some t' → ∃ v, a.tmps[t']? = some v ∧ specAt (spKq V1 V3 V5 V6 g1 g3 g5 g6) ed.on v x) : Yld Try.prog R oKq_25 a x 52 (specAt (spKq V1 V3 V5 V6 g1 g3 g5 g6) 25) := by
  obtain ⟨v22, t22, f22⟩ := dep ⟨22, .data⟩ (by simp [oKq_25]) rfl 49 rfl
  have f22 : v22 = (.agg #[.int .i64 1, .int .i64 1, .slice (some ⟨g5, 0, none⟩) 1 1]) := f22
  subst f22
  obtain ⟨v24, t24, f24⟩ := dep ⟨24, .data⟩ (by simp [oKq_25]) rfl 51 rfl
  have f24 : (rowS 1 [2143289344]).p v24 x := f24
  obtain ⟨g, rfl, hu⟩ := f24
  refine yld_call (enters_of Try.func16 (by kernel_rfl) rfl) (vs := #[.agg #[.int .i64 1, .int .i64 1, .slice (some ⟨g5, 0, none⟩) 1 1], .agg #[.int .i64 1, .int .i64 1, .slice (some ⟨g, 0, none⟩) 1 1]]) (by simp [tmp_eval t22, tmp_eval t24]) ((hplanes_yes 1 1 (some ⟨g5, 0, none⟩) (some ⟨g, 0, none⟩) 1 1 1 [2143289344] x ((E.u5.next q).usl (cap := 1) (by decide)) (hu.usl (cap := 1) (by decide)) (by decide)).mono ?_)
  rintro u x' ⟨rfl, q'⟩
  exact ⟨_, rfl, q', rfl⟩
theorem yKq_26 {a0 : Act} {w : World} {V1 V3 V5 V6 g1 g3 g5 g6 : Nat} (E : EnvKq a0 w V1 V3 V5 V6 g1 g3 g5 g6) {R : Exit → Act → World → Prop} {a : Act} {x : World} (q : Q w x) (oth : ∀ j, j ∉ sKq → a.tmps[j]? = a0.tmps[j]?) (dep : ∀ ed ∈ oKq_26.after, Region.binds .any ed = true → ∀ t', sKq[ed.on]? = some t' → ∃ v, a.tmps[t']? = some v ∧ specAt (spKq V1 V3 V5 V6 g1 g3 g5 g6) ed.on v x) : Yld Try.prog R oKq_26 a x 53 (specAt (spKq V1 V3 V5 V6 g1 g3 g5 g6) 26) := by
  obtain ⟨v21, t21, f21⟩ := dep ⟨21, .data⟩ (by simp [oKq_26]) rfl 48 rfl
  have f21 : v21 = (.bool true) := f21
  subst f21
  obtain ⟨v25, t25, f25⟩ := dep ⟨25, .data⟩ (by simp [oKq_26]) rfl 52 rfl
  have f25 : v25 = (.bool true) := f25
  subst f25
  exact yld_run (x' := x) rfl (run_andq (tmp_eval t21) (tmp_eval t25)) (Q.refl x) rfl
theorem yKq_27 {a0 : Act} {w : World} {V1 V3 V5 V6 g1 g3 g5 g6 : Nat} (E : EnvKq a0 w V1 V3 V5 V6 g1 g3 g5 g6) {R : Exit → Act → World → Prop} {a : Act} {x : World} (q : Q w x) (oth : ∀ j, j ∉ sKq → a.tmps[j]? = a0.tmps[j]?) (dep : ∀ ed ∈ oKq_27.after, Region.binds .any ed = true → ∀ t', sKq[ed.on]? = some t' → ∃ v, a.tmps[t']? = some v ∧ specAt (spKq V1 V3 V5 V6 g1 g3 g5 g6) ed.on v x) : Yld Try.prog R oKq_27 a x 54 (specAt (spKq V1 V3 V5 V6 g1 g3 g5 g6) 27) := by
  obtain ⟨v26, t26, f26⟩ := dep ⟨26, .data⟩ (by simp [oKq_27]) rfl 53 rfl
  have f26 : v26 = (.bool true) := f26
  subst f26
  exact yld_move t26 rfl
theorem yKq_28 {a0 : Act} {w : World} {V1 V3 V5 V6 g1 g3 g5 g6 : Nat} (E : EnvKq a0 w V1 V3 V5 V6 g1 g3 g5 g6) {R : Exit → Act → World → Prop} {a : Act} {x : World} (q : Q w x) (oth : ∀ j, j ∉ sKq → a.tmps[j]? = a0.tmps[j]?) (dep : ∀ ed ∈ oKq_28.after, Region.binds .any ed = true → ∀ t', sKq[ed.on]? = some t' → ∃ v, a.tmps[t']? = some v ∧ specAt (spKq V1 V3 V5 V6 g1 g3 g5 g6) ed.on v x) : Yld Try.prog R oKq_28 a x 55 (specAt (spKq V1 V3 V5 V6 g1 g3 g5 g6) 28) := by
  have hs := (oth 6 (by decide)).trans E.h6
  have c0 := q.cell E.a6
  have c1 := q.cell E.b6
  have c2 := q.cell E.c6
  exact yld_run (x' := x) rfl (by simp [oKq_28, execOp, go_sem, hs, c0, c1, c2]) (Q.refl x) rfl
theorem yKq_29 {a0 : Act} {w : World} {V1 V3 V5 V6 g1 g3 g5 g6 : Nat} (E : EnvKq a0 w V1 V3 V5 V6 g1 g3 g5 g6) {R : Exit → Act → World → Prop} {a : Act} {x : World} (q : Q w x) (oth : ∀ j, j ∉ sKq → a.tmps[j]? = a0.tmps[j]?) (dep : ∀ ed ∈ oKq_29.after, Region.binds .any ed = true → ∀ t', sKq[ed.on]? = some t' → ∃ v, a.tmps[t']? = some v ∧ specAt (spKq V1 V3 V5 V6 g1 g3 g5 g6) ed.on v x) : Yld Try.prog R oKq_29 a x 56 (specAt (spKq V1 V3 V5 V6 g1 g3 g5 g6) 29) := by
  exact yld_run (x' := x.alloc (.cells (([4194304] : List Nat).map fun y : Nat => Value.int .u32 (y : Nat)).toArray 30)) (v := .slice (some ⟨x.heap.size, 0, none⟩) 1 1) rfl (by simp [oKq_29, execOp, go_sem]) ((Q.refl x).cells _ _) ⟨x.heap.size, rfl, lit_uis rfl⟩
theorem yKq_30 {a0 : Act} {w : World} {V1 V3 V5 V6 g1 g3 g5 g6 : Nat} (E : EnvKq a0 w V1 V3 V5 V6 g1 g3 g5 g6) {R : Exit → Act → World → Prop} {a : Act} {x : World} (q : Q w x) (oth : ∀ j, j ∉ sKq → a.tmps[j]? = a0.tmps[j]?) (dep : ∀ ed ∈ oKq_30.after, Region.binds .any ed = true → ∀ t', sKq[ed.on]? = some t' → ∃ v, a.tmps[t']? = some v ∧ specAt (spKq V1 V3 V5 V6 g1 g3 g5 g6) ed.on v x) : Yld Try.prog R oKq_30 a x 57 (specAt (spKq V1 V3 V5 V6 g1 g3 g5 g6) 30) := by
  obtain ⟨v29, t29, f29⟩ := dep ⟨29, .data⟩ (by simp [oKq_30]) rfl 56 rfl
  have f29 : (litS 1 [4194304]).p v29 x := f29
  obtain ⟨g, rfl, hu⟩ := f29
  refine yld_call (enters_of Try.func14 (by kernel_rfl) rfl) (vs := #[.slice (some ⟨g, 0, none⟩) 1 1]) (by simp [tmp_eval t29]) ((prow_any (some ⟨g, 0, none⟩) 1 1 x).mono ?_)
  rintro u x' ⟨rfl, q'⟩
  exact ⟨_, rfl, q', g, rfl, hu.next q'⟩
theorem yKq_31 {a0 : Act} {w : World} {V1 V3 V5 V6 g1 g3 g5 g6 : Nat} (E : EnvKq a0 w V1 V3 V5 V6 g1 g3 g5 g6) {R : Exit → Act → World → Prop} {a : Act} {x : World} (q : Q w x) (oth : ∀ j, j ∉ sKq → a.tmps[j]? = a0.tmps[j]?) (dep : ∀ ed ∈ oKq_31.after, Region.binds .any ed = true → ∀ t', sKq[ed.on]? = some t' → ∃ v, a.tmps[t']? = some v ∧ specAt (spKq V1 V3 V5 V6 g1 g3 g5 g6) ed.on v x) : Yld Try.prog R oKq_31 a x 58 (specAt (spKq V1 V3 V5 V6 g1 g3 g5 g6) 31) := by
  obtain ⟨v28, t28, f28⟩ := dep ⟨28, .data⟩ (by simp [oKq_31]) rfl 55 rfl
  have f28 : v28 = (.agg #[.int .i64 1, .int .i64 1, .slice (some ⟨g6, 0, none⟩) 1 1]) := f28
  subst f28
  obtain ⟨v30, t30, f30⟩ := dep ⟨30, .data⟩ (by simp [oKq_31]) rfl 57 rfl
  have f30 : (rowS 1 [4194304]).p v30 x := f30
  obtain ⟨g, rfl, hu⟩ := f30
  refine yld_call (enters_of Try.func16 (by kernel_rfl) rfl) (vs := #[.agg #[.int .i64 1, .int .i64 1, .slice (some ⟨g6, 0, none⟩) 1 1], .agg #[.int .i64 1, .int .i64 1, .slice (some ⟨g, 0, none⟩) 1 1]]) (by simp [tmp_eval t28, tmp_eval t30]) ((hplanes_yes 1 1 (some ⟨g6, 0, none⟩) (some ⟨g, 0, none⟩) 1 1 1 [4194304] x ((E.u6.next q).usl (cap := 1) (by decide)) (hu.usl (cap := 1) (by decide)) (by decide)).mono ?_)
  rintro u x' ⟨rfl, q'⟩
  exact ⟨_, rfl, q', rfl⟩
theorem yKq_32 {a0 : Act} {w : World} {V1 V3 V5 V6 g1 g3 g5 g6 : Nat} (E : EnvKq a0 w V1 V3 V5 V6 g1 g3 g5 g6) {R : Exit → Act → World → Prop} {a : Act} {x : World} (q : Q w x) (oth : ∀ j, j ∉ sKq → a.tmps[j]? = a0.tmps[j]?) (dep : ∀ ed ∈ oKq_32.after, Region.binds .any ed = true → ∀ t', sKq[ed.on]? = some t' → ∃ v, a.tmps[t']? = some v ∧ specAt (spKq V1 V3 V5 V6 g1 g3 g5 g6) ed.on v x) : Yld Try.prog R oKq_32 a x 59 (specAt (spKq V1 V3 V5 V6 g1 g3 g5 g6) 32) := by
  obtain ⟨v27, t27, f27⟩ := dep ⟨27, .data⟩ (by simp [oKq_32]) rfl 54 rfl
  have f27 : v27 = (.bool true) := f27
  subst f27
  obtain ⟨v31, t31, f31⟩ := dep ⟨31, .data⟩ (by simp [oKq_32]) rfl 58 rfl
  have f31 : v31 = (.bool true) := f31
  subst f31
  exact yld_run (x' := x) rfl (run_andq (tmp_eval t27) (tmp_eval t31)) (Q.refl x) rfl
theorem yKq_33 {a0 : Act} {w : World} {V1 V3 V5 V6 g1 g3 g5 g6 : Nat} (E : EnvKq a0 w V1 V3 V5 V6 g1 g3 g5 g6) {R : Exit → Act → World → Prop} {a : Act} {x : World} (q : Q w x) (oth : ∀ j, j ∉ sKq → a.tmps[j]? = a0.tmps[j]?) (dep : ∀ ed ∈ oKq_33.after, Region.binds .any ed = true → ∀ t', sKq[ed.on]? = some t' → ∃ v, a.tmps[t']? = some v ∧ specAt (spKq V1 V3 V5 V6 g1 g3 g5 g6) ed.on v x) : Yld Try.prog R oKq_33 a x 0 (specAt (spKq V1 V3 V5 V6 g1 g3 g5 g6) 33) := by
  obtain ⟨v32, t32, f32⟩ := dep ⟨32, .data⟩ (by simp [oKq_33]) rfl 59 rfl
  have f32 : v32 = (.bool true) := f32
  subst f32
  exact yld_run (x' := x) rfl (run_asgq (tmp_eval t32)) (Q.refl x) rfl
theorem hopKq {a0 : Act} {w : World} {V1 V3 V5 V6 g1 g3 g5 g6 : Nat} (E : EnvKq a0 w V1 V3 V5 V6 g1 g3 g5 g6) {R : Exit → Act → World → Prop} : ∀ (i t : Nat) (o : Oper) (a : Act) (x : World), skKq i = false → sKq[i]? = some t → opsKq[i]? = some o → Q w x → (∀ j, j ∉ sKq → a.tmps[j]? = a0.tmps[j]?) → (∀ ed ∈ o.after, Region.binds .any ed = true → ∀ t', sKq[ed.on]? = some t' → ∃ v, a.tmps[t']? = some v ∧ specAt (spKq V1 V3 V5 V6 g1 g3 g5 g6) ed.on v x) → Yld Try.prog R o a x t (specAt (spKq V1 V3 V5 V6 g1 g3 g5 g6) i)
  | 0, t, o, a, x, hi, ht, ho, q, oth, dep => by
    have e1 : oKq_0 = o := Option.some.inj ho
    have e2 : 27 = t := Option.some.inj ht
    subst e1 e2
    exact yKq_0 E q oth dep
  | 1, t, o, a, x, hi, ht, ho, q, oth, dep => by
    have e1 : oKq_1 = o := Option.some.inj ho
    have e2 : 28 = t := Option.some.inj ht
    subst e1 e2
    exact yKq_1 E q oth dep
  | 2, t, o, a, x, hi, ht, ho, q, oth, dep => by
    have e1 : oKq_2 = o := Option.some.inj ho
    have e2 : 29 = t := Option.some.inj ht
    subst e1 e2
    exact yKq_2 E q oth dep
  | 3, t, o, a, x, hi, ht, ho, q, oth, dep => by
    have e1 : oKq_3 = o := Option.some.inj ho
    have e2 : 30 = t := Option.some.inj ht
    subst e1 e2
    exact yKq_3 E q oth dep
  | 4, t, o, a, x, hi, ht, ho, q, oth, dep => by
    have e1 : oKq_4 = o := Option.some.inj ho
    have e2 : 31 = t := Option.some.inj ht
    subst e1 e2
    exact yKq_4 E q oth dep
  | 5, t, o, a, x, hi, ht, ho, q, oth, dep => by
    have e1 : oKq_5 = o := Option.some.inj ho
    have e2 : 32 = t := Option.some.inj ht
    subst e1 e2
    exact yKq_5 E q oth dep
  | 6, t, o, a, x, hi, ht, ho, q, oth, dep => by
    have e1 : oKq_6 = o := Option.some.inj ho
    have e2 : 33 = t := Option.some.inj ht
    subst e1 e2
    exact yKq_6 E q oth dep
  | 7, t, o, a, x, hi, ht, ho, q, oth, dep => by
    have e1 : oKq_7 = o := Option.some.inj ho
    have e2 : 34 = t := Option.some.inj ht
    subst e1 e2
    exact yKq_7 E q oth dep
  | 8, t, o, a, x, hi, ht, ho, q, oth, dep => by
    have e1 : oKq_8 = o := Option.some.inj ho
    have e2 : 35 = t := Option.some.inj ht
    subst e1 e2
    exact yKq_8 E q oth dep
  | 9, t, o, a, x, hi, ht, ho, q, oth, dep => by
    have e1 : oKq_9 = o := Option.some.inj ho
    have e2 : 36 = t := Option.some.inj ht
    subst e1 e2
    exact yKq_9 E q oth dep
  | 10, t, o, a, x, hi, ht, ho, q, oth, dep => by
    have e1 : oKq_10 = o := Option.some.inj ho
    have e2 : 37 = t := Option.some.inj ht
    subst e1 e2
    exact yKq_10 E q oth dep
  | 11, t, o, a, x, hi, ht, ho, q, oth, dep => by
    have e1 : oKq_11 = o := Option.some.inj ho
    have e2 : 38 = t := Option.some.inj ht
    subst e1 e2
    exact yKq_11 E q oth dep
  | 12, t, o, a, x, hi, ht, ho, q, oth, dep => by
    have e1 : oKq_12 = o := Option.some.inj ho
    have e2 : 39 = t := Option.some.inj ht
    subst e1 e2
    exact yKq_12 E q oth dep
  | 13, t, o, a, x, hi, ht, ho, q, oth, dep => by
    have e1 : oKq_13 = o := Option.some.inj ho
    have e2 : 40 = t := Option.some.inj ht
    subst e1 e2
    exact yKq_13 E q oth dep
  | 14, t, o, a, x, hi, ht, ho, q, oth, dep => by
    have e1 : oKq_14 = o := Option.some.inj ho
    have e2 : 41 = t := Option.some.inj ht
    subst e1 e2
    exact yKq_14 E q oth dep
  | 15, t, o, a, x, hi, ht, ho, q, oth, dep => by
    have e1 : oKq_15 = o := Option.some.inj ho
    have e2 : 42 = t := Option.some.inj ht
    subst e1 e2
    exact yKq_15 E q oth dep
  | 16, t, o, a, x, hi, ht, ho, q, oth, dep => by
    have e1 : oKq_16 = o := Option.some.inj ho
    have e2 : 43 = t := Option.some.inj ht
    subst e1 e2
    exact yKq_16 E q oth dep
  | 17, t, o, a, x, hi, ht, ho, q, oth, dep => by
    have e1 : oKq_17 = o := Option.some.inj ho
    have e2 : 44 = t := Option.some.inj ht
    subst e1 e2
    exact yKq_17 E q oth dep
  | 18, t, o, a, x, hi, ht, ho, q, oth, dep => by
    have e1 : oKq_18 = o := Option.some.inj ho
    have e2 : 45 = t := Option.some.inj ht
    subst e1 e2
    exact yKq_18 E q oth dep
  | 19, t, o, a, x, hi, ht, ho, q, oth, dep => by
    have e1 : oKq_19 = o := Option.some.inj ho
    have e2 : 46 = t := Option.some.inj ht
    subst e1 e2
    exact yKq_19 E q oth dep
  | 20, t, o, a, x, hi, ht, ho, q, oth, dep => by
    have e1 : oKq_20 = o := Option.some.inj ho
    have e2 : 47 = t := Option.some.inj ht
    subst e1 e2
    exact yKq_20 E q oth dep
  | 21, t, o, a, x, hi, ht, ho, q, oth, dep => by
    have e1 : oKq_21 = o := Option.some.inj ho
    have e2 : 48 = t := Option.some.inj ht
    subst e1 e2
    exact yKq_21 E q oth dep
  | 22, t, o, a, x, hi, ht, ho, q, oth, dep => by
    have e1 : oKq_22 = o := Option.some.inj ho
    have e2 : 49 = t := Option.some.inj ht
    subst e1 e2
    exact yKq_22 E q oth dep
  | 23, t, o, a, x, hi, ht, ho, q, oth, dep => by
    have e1 : oKq_23 = o := Option.some.inj ho
    have e2 : 50 = t := Option.some.inj ht
    subst e1 e2
    exact yKq_23 E q oth dep
  | 24, t, o, a, x, hi, ht, ho, q, oth, dep => by
    have e1 : oKq_24 = o := Option.some.inj ho
    have e2 : 51 = t := Option.some.inj ht
    subst e1 e2
    exact yKq_24 E q oth dep
  | 25, t, o, a, x, hi, ht, ho, q, oth, dep => by
    have e1 : oKq_25 = o := Option.some.inj ho
    have e2 : 52 = t := Option.some.inj ht
    subst e1 e2
    exact yKq_25 E q oth dep
  | 26, t, o, a, x, hi, ht, ho, q, oth, dep => by
    have e1 : oKq_26 = o := Option.some.inj ho
    have e2 : 53 = t := Option.some.inj ht
    subst e1 e2
    exact yKq_26 E q oth dep
  | 27, t, o, a, x, hi, ht, ho, q, oth, dep => by
    have e1 : oKq_27 = o := Option.some.inj ho
    have e2 : 54 = t := Option.some.inj ht
    subst e1 e2
    exact yKq_27 E q oth dep
  | 28, t, o, a, x, hi, ht, ho, q, oth, dep => by
    have e1 : oKq_28 = o := Option.some.inj ho
    have e2 : 55 = t := Option.some.inj ht
    subst e1 e2
    exact yKq_28 E q oth dep
  | 29, t, o, a, x, hi, ht, ho, q, oth, dep => by
    have e1 : oKq_29 = o := Option.some.inj ho
    have e2 : 56 = t := Option.some.inj ht
    subst e1 e2
    exact yKq_29 E q oth dep
  | 30, t, o, a, x, hi, ht, ho, q, oth, dep => by
    have e1 : oKq_30 = o := Option.some.inj ho
    have e2 : 57 = t := Option.some.inj ht
    subst e1 e2
    exact yKq_30 E q oth dep
  | 31, t, o, a, x, hi, ht, ho, q, oth, dep => by
    have e1 : oKq_31 = o := Option.some.inj ho
    have e2 : 58 = t := Option.some.inj ht
    subst e1 e2
    exact yKq_31 E q oth dep
  | 32, t, o, a, x, hi, ht, ho, q, oth, dep => by
    have e1 : oKq_32 = o := Option.some.inj ho
    have e2 : 59 = t := Option.some.inj ht
    subst e1 e2
    exact yKq_32 E q oth dep
  | 33, t, o, a, x, hi, ht, ho, q, oth, dep => by
    have e1 : oKq_33 = o := Option.some.inj ho
    have e2 : 0 = t := Option.some.inj ht
    subst e1 e2
    exact yKq_33 E q oth dep
  | i + 34, t, o, a, x, hi, ht, ho, q, oth, dep => by cases ho
theorem keyKq : ∀ i, i < 34 → ((opsKq[i]?).bind (fun o : Oper => o.guard) = none ∧ skKq i = false) ∨ ((opsKq[i]?).bind (fun o : Oper => o.guard) = some (9, true) ∧ skKq i = false) ∨ ((opsKq[i]?).bind (fun o : Oper => o.guard) = some (15, true) ∧ skKq i = false) ∨ ((opsKq[i]?).bind (fun o : Oper => o.guard) = some (21, true) ∧ skKq i = false) ∨ ((opsKq[i]?).bind (fun o : Oper => o.guard) = some (27, true) ∧ skKq i = false) := by decide +kernel
theorem hguKq {V1 V3 V5 V6 g1 g3 g5 g6 : Nat} : ∀ (i : Nat) (o : Oper) (g : Nat) (b : Bool), opsKq[i]? = some o → o.guard = some (g, b) → ∀ v x, specAt (spKq V1 V3 V5 V6 g1 g3 g5 g6) g v x → (v = .bool b ↔ skKq i = false) := by
  intro i o g b ho hg v x hf
  have h := keyKq i (List.getElem?_eq_some_iff.1 ho).1
  rw [ho] at h
  simp only [Option.bind_some] at h
  rw [hg] at h
  rcases h with ⟨h, _⟩ | ⟨h, hs⟩ | ⟨h, hs⟩ | ⟨h, hs⟩ | ⟨h, hs⟩
  · cases h
  · injection h with h
    injection h with h1 h2
    subst h1 h2
    have hv : v = .bool true := hf
    subst hv
    rw [hs]
    simp
  · injection h with h
    injection h with h1 h2
    subst h1 h2
    have hv : v = .bool true := hf
    subst hv
    rw [hs]
    simp
  · injection h with h
    injection h with h1 h2
    subst h1 h2
    have hv : v = .bool true := hf
    subst hv
    rw [hs]
    simp
  · injection h with h
    injection h with h1 h2
    subst h1 h2
    have hv : v = .bool true := hf
    subst hv
    rw [hs]
    simp
theorem hgnKq : ∀ (i : Nat) (o : Oper), opsKq[i]? = some o → o.guard = none → skKq i = false := by
  intro i o ho hg
  have h := keyKq i (List.getElem?_eq_some_iff.1 ho).1
  rw [ho] at h
  simp only [Option.bind_some] at h
  rw [hg] at h
  rcases h with ⟨_, h⟩ | ⟨h, _⟩ | ⟨h, _⟩ | ⟨h, _⟩ | ⟨h, _⟩
  · exact h
  · cases h
  · cases h
  · cases h
  · cases h
theorem hskKq {V1 V3 V5 V6 g1 g3 g5 g6 : Nat} : ∀ (i : Nat) (x : World), skKq i = true → specAt (spKq V1 V3 V5 V6 g1 g3 g5 g6) i undef x := by
  intro i x h
  cases h
set_option maxHeartbeats 1000000 in
theorem regionKq {id : Nat} {l : List Oper} {R : Exit → Act → World → Prop} {a0 : Act} {w : World} {V1 V3 V5 V6 g1 g3 g5 g6 : Nat} (hl : l = opsKq) (hsz : a0.tmps.size = 60) (E : EnvKq a0 w V1 V3 V5 V6 g1 g3 g5 g6)
    (hR : ∀ x v11 v12 v17 v18 v23 v24 v29 v30, Q w x → R .normal (putAll a0 [(27, (.int .i64 0)), (28, (.int .i64 0)), (29, (.int .i64 0)), (30, (.int .i64 0)), (31, (.int .i64 0)), (32, (.int .i64 0)), (33, (.int .i64 0)), (34, (.int .i64 0)), (35, (.bool true)), (36, (.bool true)), (37, (.agg #[.int .i64 2, .int .i64 1, .slice (some ⟨g1, 0, none⟩) 2 2])), (38, v11), (39, v12), (40, (.bool true)), (41, (.bool true)), (42, (.bool true)), (43, (.agg #[.int .i64 4, .int .i64 1, .slice (some ⟨g3, 0, none⟩) 4 4])), (44, v17), (45, v18), (46, (.bool true)), (47, (.bool true)), (48, (.bool true)), (49, (.agg #[.int .i64 1, .int .i64 1, .slice (some ⟨g5, 0, none⟩) 1 1])), (50, v23), (51, v24), (52, (.bool true)), (53, (.bool true)), (54, (.bool true)), (55, (.agg #[.int .i64 1, .int .i64 1, .slice (some ⟨g6, 0, none⟩) 1 1])), (56, v29), (57, v30), (58, (.bool true)), (59, (.bool true)), (0, (.bool true))]) x) :
    (Code.region id l.toArray true).wp Try.prog R a0 w := by
  subst hl
  refine wp_region_factsS sKq (specAt (spKq V1 V3 V5 V6 g1 g3 g5 g6)) skKq (by kernel_rfl) (by decide +kernel) (by decide) (fun t ht => ?_) specAt.next hguKq hgnKq hskKq (hopKq E) (fun a x q size defers other facts => ?_)
  · rw [hsz]
    revert t
    decide
  · obtain ⟨v0, t0, f0⟩ := facts 0 27 rfl
    have f0 : v0 = (.int .i64 0) := f0
    subst f0
    obtain ⟨v1, t1, f1⟩ := facts 1 28 rfl
    have f1 : v1 = (.int .i64 0) := f1
    subst f1
    obtain ⟨v2, t2, f2⟩ := facts 2 29 rfl
    have f2 : v2 = (.int .i64 0) := f2
    subst f2
    obtain ⟨v3, t3, f3⟩ := facts 3 30 rfl
    have f3 : v3 = (.int .i64 0) := f3
    subst f3
    obtain ⟨v4, t4, f4⟩ := facts 4 31 rfl
    have f4 : v4 = (.int .i64 0) := f4
    subst f4
    obtain ⟨v5, t5, f5⟩ := facts 5 32 rfl
    have f5 : v5 = (.int .i64 0) := f5
    subst f5
    obtain ⟨v6, t6, f6⟩ := facts 6 33 rfl
    have f6 : v6 = (.int .i64 0) := f6
    subst f6
    obtain ⟨v7, t7, f7⟩ := facts 7 34 rfl
    have f7 : v7 = (.int .i64 0) := f7
    subst f7
    obtain ⟨v8, t8, f8⟩ := facts 8 35 rfl
    have f8 : v8 = (.bool true) := f8
    subst f8
    obtain ⟨v9, t9, f9⟩ := facts 9 36 rfl
    have f9 : v9 = (.bool true) := f9
    subst f9
    obtain ⟨v10, t10, f10⟩ := facts 10 37 rfl
    have f10 : v10 = (.agg #[.int .i64 2, .int .i64 1, .slice (some ⟨g1, 0, none⟩) 2 2]) := f10
    subst f10
    obtain ⟨v11, t11, f11⟩ := facts 11 38 rfl
    obtain ⟨v12, t12, f12⟩ := facts 12 39 rfl
    obtain ⟨v13, t13, f13⟩ := facts 13 40 rfl
    have f13 : v13 = (.bool true) := f13
    subst f13
    obtain ⟨v14, t14, f14⟩ := facts 14 41 rfl
    have f14 : v14 = (.bool true) := f14
    subst f14
    obtain ⟨v15, t15, f15⟩ := facts 15 42 rfl
    have f15 : v15 = (.bool true) := f15
    subst f15
    obtain ⟨v16, t16, f16⟩ := facts 16 43 rfl
    have f16 : v16 = (.agg #[.int .i64 4, .int .i64 1, .slice (some ⟨g3, 0, none⟩) 4 4]) := f16
    subst f16
    obtain ⟨v17, t17, f17⟩ := facts 17 44 rfl
    obtain ⟨v18, t18, f18⟩ := facts 18 45 rfl
    obtain ⟨v19, t19, f19⟩ := facts 19 46 rfl
    have f19 : v19 = (.bool true) := f19
    subst f19
    obtain ⟨v20, t20, f20⟩ := facts 20 47 rfl
    have f20 : v20 = (.bool true) := f20
    subst f20
    obtain ⟨v21, t21, f21⟩ := facts 21 48 rfl
    have f21 : v21 = (.bool true) := f21
    subst f21
    obtain ⟨v22, t22, f22⟩ := facts 22 49 rfl
    have f22 : v22 = (.agg #[.int .i64 1, .int .i64 1, .slice (some ⟨g5, 0, none⟩) 1 1]) := f22
    subst f22
    obtain ⟨v23, t23, f23⟩ := facts 23 50 rfl
    obtain ⟨v24, t24, f24⟩ := facts 24 51 rfl
    obtain ⟨v25, t25, f25⟩ := facts 25 52 rfl
    have f25 : v25 = (.bool true) := f25
    subst f25
    obtain ⟨v26, t26, f26⟩ := facts 26 53 rfl
    have f26 : v26 = (.bool true) := f26
    subst f26
    obtain ⟨v27, t27, f27⟩ := facts 27 54 rfl
    have f27 : v27 = (.bool true) := f27
    subst f27
    obtain ⟨v28, t28, f28⟩ := facts 28 55 rfl
    have f28 : v28 = (.agg #[.int .i64 1, .int .i64 1, .slice (some ⟨g6, 0, none⟩) 1 1]) := f28
    subst f28
    obtain ⟨v29, t29, f29⟩ := facts 29 56 rfl
    obtain ⟨v30, t30, f30⟩ := facts 30 57 rfl
    obtain ⟨v31, t31, f31⟩ := facts 31 58 rfl
    have f31 : v31 = (.bool true) := f31
    subst f31
    obtain ⟨v32, t32, f32⟩ := facts 32 59 rfl
    have f32 : v32 = (.bool true) := f32
    subst f32
    obtain ⟨v33, t33, f33⟩ := facts 33 0 rfl
    have f33 : v33 = (.bool true) := f33
    subst f33
    have hA := act_puts (a := a) (a0 := a0) [(27, (.int .i64 0)), (28, (.int .i64 0)), (29, (.int .i64 0)), (30, (.int .i64 0)), (31, (.int .i64 0)), (32, (.int .i64 0)), (33, (.int .i64 0)), (34, (.int .i64 0)), (35, (.bool true)), (36, (.bool true)), (37, (.agg #[.int .i64 2, .int .i64 1, .slice (some ⟨g1, 0, none⟩) 2 2])), (38, v11), (39, v12), (40, (.bool true)), (41, (.bool true)), (42, (.bool true)), (43, (.agg #[.int .i64 4, .int .i64 1, .slice (some ⟨g3, 0, none⟩) 4 4])), (44, v17), (45, v18), (46, (.bool true)), (47, (.bool true)), (48, (.bool true)), (49, (.agg #[.int .i64 1, .int .i64 1, .slice (some ⟨g5, 0, none⟩) 1 1])), (50, v23), (51, v24), (52, (.bool true)), (53, (.bool true)), (54, (.bool true)), (55, (.agg #[.int .i64 1, .int .i64 1, .slice (some ⟨g6, 0, none⟩) 1 1])), (56, v29), (57, v30), (58, (.bool true)), (59, (.bool true)), (0, (.bool true))] (by show [27, 28, 29, 30, 31, 32, 33, 34, 35, 36, 37, 38, 39, 40, 41, 42, 43, 44, 45, 46, 47, 48, 49, 50, 51, 52, 53, 54, 55, 56, 57, 58, 59, 0].Nodup; decide) size defers (fun j hj => other j (fun hk => hj hk)) (fun r hr => by
      simp only [List.mem_cons, List.not_mem_nil, or_false] at hr
      rcases hr with rfl | rfl | rfl | rfl | rfl | rfl | rfl | rfl | rfl | rfl | rfl | rfl | rfl | rfl | rfl | rfl | rfl | rfl | rfl | rfl | rfl | rfl | rfl | rfl | rfl | rfl | rfl | rfl | rfl | rfl | rfl | rfl | rfl | rfl
      · exact t0
      · exact t1
      · exact t2
      · exact t3
      · exact t4
      · exact t5
      · exact t6
      · exact t7
      · exact t8
      · exact t9
      · exact t10
      · exact t11
      · exact t12
      · exact t13
      · exact t14
      · exact t15
      · exact t16
      · exact t17
      · exact t18
      · exact t19
      · exact t20
      · exact t21
      · exact t22
      · exact t23
      · exact t24
      · exact t25
      · exact t26
      · exact t27
      · exact t28
      · exact t29
      · exact t30
      · exact t31
      · exact t32
      · exact t33)
    rw [hA]
    exact ⟨hR x v11 v12 v17 v18 v23 v24 v29 v30 q⟩
end Go.Proofs.Ytgaolakfgjmeiab
