/- ArithNear's regions that draw their order. -/
import Derived.Test.YtgpgjbgobaaohaaGf5c66d5a
namespace Go.Proofs.Ytgpgjbgobaaohaa
open Go.RowKit
set_option linter.unusedVariables false
set_option linter.unusedSimpArgs false

/-- A finite sample as a number. -/
def sampR (a : Nat) : RNum := .fin (sgn32 a) (mag32 (rung32 a)) (-149 + (plc32 (rung32 a) : Int)) false
def oN6_0 : Oper := { dst := some 46, op := .load 26 (.tmp 7), type := 26, pos := "outright.go:82", after := #[], guard := none }
def oN6_1 : Oper := { dst := some 47, op := .move (.tmp 0), type := 22, pos := "outright.go:82", after := #[], guard := none }
def oN6_2 : Oper := { dst := some 48, op := .convert 22 33 (.tmp 47), type := 33, pos := "outright.go:82", after := #[⟨1, .data⟩], guard := none }
def oN6_3 : Oper := { dst := some 49, op := .call { callee := .value (.func 9), args := #[.tmp 46, .tmp 48], argTypes := #[26, 33] }, type := 31, pos := "outright.go:82", after := #[⟨0, .data⟩, ⟨2, .data⟩], guard := none }
def oN6_4 : Oper := { dst := some 50, op := .load 26 (.tmp 7), type := 26, pos := "outright.go:82", after := #[], guard := none }
def oN6_5 : Oper := { dst := some 51, op := .move (.tmp 1), type := 22, pos := "outright.go:82", after := #[], guard := none }
def oN6_6 : Oper := { dst := some 52, op := .convert 22 33 (.tmp 51), type := 33, pos := "outright.go:82", after := #[⟨5, .data⟩], guard := none }
def oN6_7 : Oper := { dst := some 53, op := .call { callee := .value (.func 9), args := #[.tmp 50, .tmp 52], argTypes := #[26, 33] }, type := 31, pos := "outright.go:82", after := #[⟨4, .data⟩, ⟨6, .data⟩, ⟨3, .chain⟩], guard := none }
def oN6_8 : Oper := { dst := some 54, op := .load 26 (.tmp 7), type := 26, pos := "outright.go:82", after := #[], guard := none }
def oN6_9 : Oper := { dst := some 55, op := .move (.tmp 2), type := 22, pos := "outright.go:82", after := #[], guard := none }
def oN6_10 : Oper := { dst := some 56, op := .convert 22 33 (.tmp 55), type := 33, pos := "outright.go:82", after := #[⟨9, .data⟩], guard := none }
def oN6_11 : Oper := { dst := some 57, op := .call { callee := .value (.func 9), args := #[.tmp 54, .tmp 56], argTypes := #[26, 33] }, type := 31, pos := "outright.go:82", after := #[⟨8, .data⟩, ⟨10, .data⟩, ⟨7, .chain⟩], guard := none }
def oN6_12 : Oper := { dst := some 8, op := .alloc 31, type := 0, pos := "outright.go:82", after := #[], guard := none }
def oN6_13 : Oper := { dst := some 9, op := .alloc 31, type := 0, pos := "outright.go:82", after := #[], guard := none }
def oN6_14 : Oper := { dst := some 10, op := .alloc 31, type := 0, pos := "outright.go:82", after := #[], guard := none }
def oN6_15 : Oper := { dst := none, op := .store 31 (.tmp 8) (.tmp 49), type := 0, pos := "outright.go:82", after := #[⟨12, .data⟩, ⟨3, .data⟩, ⟨11, .chain⟩, ⟨0, .phase⟩, ⟨1, .phase⟩, ⟨2, .phase⟩, ⟨3, .phase⟩, ⟨4, .textOnly .lateStores⟩, ⟨5, .textOnly .lateStores⟩, ⟨6, .textOnly .lateStores⟩, ⟨7, .textOnly .lateStoresUnsure⟩, ⟨8, .textOnly .lateStores⟩, ⟨9, .textOnly .lateStores⟩, ⟨10, .textOnly .lateStores⟩, ⟨11, .textOnly .lateStoresUnsure⟩, ⟨12, .phase⟩, ⟨13, .phase⟩, ⟨14, .phase⟩], guard := none }
def oN6_16 : Oper := { dst := none, op := .store 31 (.tmp 9) (.tmp 53), type := 0, pos := "outright.go:82", after := #[⟨13, .data⟩, ⟨7, .data⟩, ⟨15, .chain⟩, ⟨0, .phase⟩, ⟨1, .phase⟩, ⟨2, .phase⟩, ⟨3, .phase⟩, ⟨4, .phase⟩, ⟨5, .phase⟩, ⟨6, .phase⟩, ⟨7, .phase⟩, ⟨8, .textOnly .lateStores⟩, ⟨9, .textOnly .lateStores⟩, ⟨10, .textOnly .lateStores⟩, ⟨11, .textOnly .lateStoresUnsure⟩, ⟨12, .phase⟩, ⟨13, .phase⟩, ⟨14, .phase⟩, ⟨15, .phase⟩], guard := none }
def oN6_17 : Oper := { dst := none, op := .store 31 (.tmp 10) (.tmp 57), type := 0, pos := "outright.go:82", after := #[⟨14, .data⟩, ⟨11, .data⟩, ⟨16, .chain⟩, ⟨0, .phase⟩, ⟨1, .phase⟩, ⟨2, .phase⟩, ⟨3, .phase⟩, ⟨4, .phase⟩, ⟨5, .phase⟩, ⟨6, .phase⟩, ⟨7, .phase⟩, ⟨8, .phase⟩, ⟨9, .phase⟩, ⟨10, .phase⟩, ⟨11, .phase⟩, ⟨12, .phase⟩, ⟨13, .phase⟩, ⟨14, .phase⟩, ⟨15, .phase⟩, ⟨16, .phase⟩], guard := none }
def opsN6 : List Oper := [oN6_0, oN6_1, oN6_2, oN6_3, oN6_4, oN6_5, oN6_6, oN6_7, oN6_8, oN6_9, oN6_10, oN6_11, oN6_12, oN6_13, oN6_14, oN6_15, oN6_16, oN6_17]
def sN6 : List Nat := [46, 47, 48, 49, 50, 51, 52, 53, 54, 55, 56, 57, 8, 9, 10]
def spN6 (A B C Vf lo : Nat) : List Spec := [spV (.agg #[.int .i64 23, .int .i64 8]), spV (.int .u32 (A : Nat)), spV (.int .u64 (A : Nat)), numS (sampR A), spV (.agg #[.int .i64 23, .int .i64 8]), spV (.int .u32 (B : Nat)), spV (.int .u64 (B : Nat)), numS (sampR B), spV (.agg #[.int .i64 23, .int .i64 8]), spV (.int .u32 (C : Nat)), spV (.int .u64 (C : Nat)), numS (sampR C), zboxS lo, zboxS lo, zboxS lo]
structure EnvN6 (a0 : Act) (w : World) (A B C Vf lo : Nat) : Prop where
  h0 : a0.tmps[0]? = some (.int .u32 (A : Nat))
  h1 : a0.tmps[1]? = some (.int .u32 (B : Nat))
  h2 : a0.tmps[2]? = some (.int .u32 (C : Nat))
  h7 : a0.tmps[7]? = some (ptrV Vf)
  f0 : w.cell? ⟨Vf, 0, none⟩ = some (.int .i64 23)
  f1 : w.cell? ⟨Vf, 1, none⟩ = some (.int .i64 8)
  lA : A < 4294967296
  lB : B < 4294967296
  lC : C < 4294967296
  rA : rung32 A < 2139095040
  rB : rung32 B < 2139095040
  rC : rung32 C < 2139095040
  hlo : lo ≤ w.heap.size
theorem yN6_0 {a0 : Act} {w : World} {A B C Vf lo : Nat} (E : EnvN6 a0 w A B C Vf lo) {R : Exit → Act → World → Prop} {a : Act} {x : World} (q : Q w x) (oth : ∀ j, j ∉ sN6 → a.tmps[j]? = a0.tmps[j]?) (dep : ∀ ed ∈ oN6_0.after, Region.binds .any ed = true → ∀ t', sN6[ed.on]? = some t' → ∃ v, a.tmps[t']? = some v ∧ specAt (spN6 A B C Vf lo) ed.on v x) : Yld Try.prog R oN6_0 a x 46 (fun v x' => specAt (spN6 A B C Vf lo) 0 v x' ∧ (0 ∈ ([12, 13, 14] : List Nat) → v = ptrV x.heap.size)) := by
  exact yld_run (x' := x) rfl (run_form32 (tmp_eval ((oth 7 (by decide)).trans E.h7)) (q.cell E.f0) (q.cell E.f1)) (Q.refl x) ⟨rfl, fun h => absurd h (by decide)⟩
theorem yN6_1 {a0 : Act} {w : World} {A B C Vf lo : Nat} (E : EnvN6 a0 w A B C Vf lo) {R : Exit → Act → World → Prop} {a : Act} {x : World} (q : Q w x) (oth : ∀ j, j ∉ sN6 → a.tmps[j]? = a0.tmps[j]?) (dep : ∀ ed ∈ oN6_1.after, Region.binds .any ed = true → ∀ t', sN6[ed.on]? = some t' → ∃ v, a.tmps[t']? = some v ∧ specAt (spN6 A B C Vf lo) ed.on v x) : Yld Try.prog R oN6_1 a x 47 (fun v x' => specAt (spN6 A B C Vf lo) 1 v x' ∧ (1 ∈ ([12, 13, 14] : List Nat) → v = ptrV x.heap.size)) := by
  exact yld_move ((oth 0 (by decide)).trans E.h0) ⟨rfl, fun h => absurd h (by decide)⟩
theorem yN6_2 {a0 : Act} {w : World} {A B C Vf lo : Nat} (E : EnvN6 a0 w A B C Vf lo) {R : Exit → Act → World → Prop} {a : Act} {x : World} (q : Q w x) (oth : ∀ j, j ∉ sN6 → a.tmps[j]? = a0.tmps[j]?) (dep : ∀ ed ∈ oN6_2.after, Region.binds .any ed = true → ∀ t', sN6[ed.on]? = some t' → ∃ v, a.tmps[t']? = some v ∧ specAt (spN6 A B C Vf lo) ed.on v x) : Yld Try.prog R oN6_2 a x 48 (fun v x' => specAt (spN6 A B C Vf lo) 2 v x' ∧ (2 ∈ ([12, 13, 14] : List Nat) → v = ptrV x.heap.size)) := by
  obtain ⟨v1, t1, f1⟩ := dep ⟨1, .data⟩ (by simp [oN6_2]) rfl 47 rfl
  have f1 : v1 = (.int .u32 (A : Nat)) := f1
  subst f1
  exact yld_run (x' := x) rfl (run_conv (tmp_eval t1) E.lA) (Q.refl x) ⟨rfl, fun h => absurd h (by decide)⟩
theorem yN6_3 {a0 : Act} {w : World} {A B C Vf lo : Nat} (E : EnvN6 a0 w A B C Vf lo) {R : Exit → Act → World → Prop} {a : Act} {x : World} (q : Q w x) (oth : ∀ j, j ∉ sN6 → a.tmps[j]? = a0.tmps[j]?) (dep : ∀ ed ∈ oN6_3.after, Region.binds .any ed = true → ∀ t', sN6[ed.on]? = some t' → ∃ v, a.tmps[t']? = some v ∧ specAt (spN6 A B C Vf lo) ed.on v x) : Yld Try.prog R oN6_3 a x 49 (fun v x' => specAt (spN6 A B C Vf lo) 3 v x' ∧ (3 ∈ ([12, 13, 14] : List Nat) → v = ptrV x.heap.size)) := by
  obtain ⟨v0, t0, f0⟩ := dep ⟨0, .data⟩ (by simp [oN6_3]) rfl 46 rfl
  have f0 : v0 = (.agg #[.int .i64 23, .int .i64 8]) := f0
  subst f0
  obtain ⟨v2, t2, f2⟩ := dep ⟨2, .data⟩ (by simp [oN6_3]) rfl 48 rfl
  have f2 : v2 = (.int .u64 (A : Nat)) := f2
  subst f2
  refine yld_call (enters_of Try.func9 (by kernel_rfl) rfl) (args2 t0 t2) ((of_fin E.lA E.rA x).mono ?_)
  rintro y x' ⟨pa, La, Ca, rfl, hn, q'⟩
  exact ⟨_, rfl, q', ⟨at_fin hn, fun h => absurd h (by decide)⟩⟩
theorem yN6_4 {a0 : Act} {w : World} {A B C Vf lo : Nat} (E : EnvN6 a0 w A B C Vf lo) {R : Exit → Act → World → Prop} {a : Act} {x : World} (q : Q w x) (oth : ∀ j, j ∉ sN6 → a.tmps[j]? = a0.tmps[j]?) (dep : ∀ ed ∈ oN6_4.after, Region.binds .any ed = true → ∀ t', sN6[ed.on]? = some t' → ∃ v, a.tmps[t']? = some v ∧ specAt (spN6 A B C Vf lo) ed.on v x) : Yld Try.prog R oN6_4 a x 50 (fun v x' => specAt (spN6 A B C Vf lo) 4 v x' ∧ (4 ∈ ([12, 13, 14] : List Nat) → v = ptrV x.heap.size)) := by
  exact yld_run (x' := x) rfl (run_form32 (tmp_eval ((oth 7 (by decide)).trans E.h7)) (q.cell E.f0) (q.cell E.f1)) (Q.refl x) ⟨rfl, fun h => absurd h (by decide)⟩
theorem yN6_5 {a0 : Act} {w : World} {A B C Vf lo : Nat} (E : EnvN6 a0 w A B C Vf lo) {R : Exit → Act → World → Prop} {a : Act} {x : World} (q : Q w x) (oth : ∀ j, j ∉ sN6 → a.tmps[j]? = a0.tmps[j]?) (dep : ∀ ed ∈ oN6_5.after, Region.binds .any ed = true → ∀ t', sN6[ed.on]? = some t' → ∃ v, a.tmps[t']? = some v ∧ specAt (spN6 A B C Vf lo) ed.on v x) : Yld Try.prog R oN6_5 a x 51 (fun v x' => specAt (spN6 A B C Vf lo) 5 v x' ∧ (5 ∈ ([12, 13, 14] : List Nat) → v = ptrV x.heap.size)) := by
  exact yld_move ((oth 1 (by decide)).trans E.h1) ⟨rfl, fun h => absurd h (by decide)⟩
theorem yN6_6 {a0 : Act} {w : World} {A B C Vf lo : Nat} (E : EnvN6 a0 w A B C Vf lo) {R : Exit → Act → World → Prop} {a : Act} {x : World} (q : Q w x) (oth : ∀ j, j ∉ sN6 → a.tmps[j]? = a0.tmps[j]?) (dep : ∀ ed ∈ oN6_6.after, Region.binds .any ed = true → ∀ t', sN6[ed.on]? = some t' → ∃ v, a.tmps[t']? = some v ∧ specAt (spN6 A B C Vf lo) ed.on v x) : Yld Try.prog R oN6_6 a x 52 (fun v x' => specAt (spN6 A B C Vf lo) 6 v x' ∧ (6 ∈ ([12, 13, 14] : List Nat) → v = ptrV x.heap.size)) := by
  obtain ⟨v5, t5, f5⟩ := dep ⟨5, .data⟩ (by simp [oN6_6]) rfl 51 rfl
  have f5 : v5 = (.int .u32 (B : Nat)) := f5
  subst f5
  exact yld_run (x' := x) rfl (run_conv (tmp_eval t5) E.lB) (Q.refl x) ⟨rfl, fun h => absurd h (by decide)⟩
theorem yN6_7 {a0 : Act} {w : World} {A B C Vf lo : Nat} (E : EnvN6 a0 w A B C Vf lo) {R : Exit → Act → World → Prop} {a : Act} {x : World} (q : Q w x) (oth : ∀ j, j ∉ sN6 → a.tmps[j]? = a0.tmps[j]?) (dep : ∀ ed ∈ oN6_7.after, Region.binds .any ed = true → ∀ t', sN6[ed.on]? = some t' → ∃ v, a.tmps[t']? = some v ∧ specAt (spN6 A B C Vf lo) ed.on v x) : Yld Try.prog R oN6_7 a x 53 (fun v x' => specAt (spN6 A B C Vf lo) 7 v x' ∧ (7 ∈ ([12, 13, 14] : List Nat) → v = ptrV x.heap.size)) := by
  obtain ⟨v4, t4, f4⟩ := dep ⟨4, .data⟩ (by simp [oN6_7]) rfl 50 rfl
  have f4 : v4 = (.agg #[.int .i64 23, .int .i64 8]) := f4
  subst f4
  obtain ⟨v6, t6, f6⟩ := dep ⟨6, .data⟩ (by simp [oN6_7]) rfl 52 rfl
  have f6 : v6 = (.int .u64 (B : Nat)) := f6
  subst f6
  refine yld_call (enters_of Try.func9 (by kernel_rfl) rfl) (args2 t4 t6) ((of_fin E.lB E.rB x).mono ?_)
  rintro y x' ⟨pa, La, Ca, rfl, hn, q'⟩
  exact ⟨_, rfl, q', ⟨at_fin hn, fun h => absurd h (by decide)⟩⟩
theorem yN6_8 {a0 : Act} {w : World} {A B C Vf lo : Nat} (E : EnvN6 a0 w A B C Vf lo) {R : Exit → Act → World → Prop} {a : Act} {x : World} (q : Q w x) (oth : ∀ j, j ∉ sN6 → a.tmps[j]? = a0.tmps[j]?) (dep : ∀ ed ∈ oN6_8.after, Region.binds .any ed = true → ∀ t', sN6[ed.on]? = some t' → ∃ v, a.tmps[t']? = some v ∧ specAt (spN6 A B C Vf lo) ed.on v x) : Yld Try.prog R oN6_8 a x 54 (fun v x' => specAt (spN6 A B C Vf lo) 8 v x' ∧ (8 ∈ ([12, 13, 14] : List Nat) → v = ptrV x.heap.size)) := by
  exact yld_run (x' := x) rfl (run_form32 (tmp_eval ((oth 7 (by decide)).trans E.h7)) (q.cell E.f0) (q.cell E.f1)) (Q.refl x) ⟨rfl, fun h => absurd h (by decide)⟩
theorem yN6_9 {a0 : Act} {w : World} {A B C Vf lo : Nat} (E : EnvN6 a0 w A B C Vf lo) {R : Exit → Act → World → Prop} {a : Act} {x : World} (q : Q w x) (oth : ∀ j, j ∉ sN6 → a.tmps[j]? = a0.tmps[j]?) (dep : ∀ ed ∈ oN6_9.after, Region.binds .any ed = true → ∀ t', sN6[ed.on]? = some t' → ∃ v, a.tmps[t']? = some v ∧ specAt (spN6 A B C Vf lo) ed.on v x) : Yld Try.prog R oN6_9 a x 55 (fun v x' => specAt (spN6 A B C Vf lo) 9 v x' ∧ (9 ∈ ([12, 13, 14] : List Nat) → v = ptrV x.heap.size)) := by
  exact yld_move ((oth 2 (by decide)).trans E.h2) ⟨rfl, fun h => absurd h (by decide)⟩
theorem yN6_10 {a0 : Act} {w : World} {A B C Vf lo : Nat} (E : EnvN6 a0 w A B C Vf lo) {R : Exit → Act → World → Prop} {a : Act} {x : World} (q : Q w x) (oth : ∀ j, j ∉ sN6 → a.tmps[j]? = a0.tmps[j]?) (dep : ∀ ed ∈ oN6_10.after, Region.binds .any ed = true → ∀ t', sN6[ed.on]? = some t' → ∃ v, a.tmps[t']? = some v ∧ specAt (spN6 A B C Vf lo) ed.on v x) : Yld Try.prog R oN6_10 a x 56 (fun v x' => specAt (spN6 A B C Vf lo) 10 v x' ∧ (10 ∈ ([12, 13, 14] : List Nat) → v = ptrV x.heap.size)) := by
  obtain ⟨v9, t9, f9⟩ := dep ⟨9, .data⟩ (by simp [oN6_10]) rfl 55 rfl
  have f9 : v9 = (.int .u32 (C : Nat)) := f9
  subst f9
  exact yld_run (x' := x) rfl (run_conv (tmp_eval t9) E.lC) (Q.refl x) ⟨rfl, fun h => absurd h (by decide)⟩
theorem yN6_11 {a0 : Act} {w : World} {A B C Vf lo : Nat} (E : EnvN6 a0 w A B C Vf lo) {R : Exit → Act → World → Prop} {a : Act} {x : World} (q : Q w x) (oth : ∀ j, j ∉ sN6 → a.tmps[j]? = a0.tmps[j]?) (dep : ∀ ed ∈ oN6_11.after, Region.binds .any ed = true → ∀ t', sN6[ed.on]? = some t' → ∃ v, a.tmps[t']? = some v ∧ specAt (spN6 A B C Vf lo) ed.on v x) : Yld Try.prog R oN6_11 a x 57 (fun v x' => specAt (spN6 A B C Vf lo) 11 v x' ∧ (11 ∈ ([12, 13, 14] : List Nat) → v = ptrV x.heap.size)) := by
  obtain ⟨v8, t8, f8⟩ := dep ⟨8, .data⟩ (by simp [oN6_11]) rfl 54 rfl
  have f8 : v8 = (.agg #[.int .i64 23, .int .i64 8]) := f8
  subst f8
  obtain ⟨v10, t10, f10⟩ := dep ⟨10, .data⟩ (by simp [oN6_11]) rfl 56 rfl
  have f10 : v10 = (.int .u64 (C : Nat)) := f10
  subst f10
  refine yld_call (enters_of Try.func9 (by kernel_rfl) rfl) (args2 t8 t10) ((of_fin E.lC E.rC x).mono ?_)
  rintro y x' ⟨pa, La, Ca, rfl, hn, q'⟩
  exact ⟨_, rfl, q', ⟨at_fin hn, fun h => absurd h (by decide)⟩⟩
theorem yN6_12 {a0 : Act} {w : World} {A B C Vf lo : Nat} (E : EnvN6 a0 w A B C Vf lo) {R : Exit → Act → World → Prop} {a : Act} {x : World} (q : Q w x) (oth : ∀ j, j ∉ sN6 → a.tmps[j]? = a0.tmps[j]?) (dep : ∀ ed ∈ oN6_12.after, Region.binds .any ed = true → ∀ t', sN6[ed.on]? = some t' → ∃ v, a.tmps[t']? = some v ∧ specAt (spN6 A B C Vf lo) ed.on v x) : Yld Try.prog R oN6_12 a x 8 (fun v x' => specAt (spN6 A B C Vf lo) 12 v x' ∧ (12 ∈ ([12, 13, 14] : List Nat) → v = ptrV x.heap.size)) := by
  exact yld_run rfl run_newnum ((Q.refl x).cells _ _) ⟨new_zbox x (Nat.le_trans E.hlo q.1.size), fun _ => rfl⟩
theorem yN6_13 {a0 : Act} {w : World} {A B C Vf lo : Nat} (E : EnvN6 a0 w A B C Vf lo) {R : Exit → Act → World → Prop} {a : Act} {x : World} (q : Q w x) (oth : ∀ j, j ∉ sN6 → a.tmps[j]? = a0.tmps[j]?) (dep : ∀ ed ∈ oN6_13.after, Region.binds .any ed = true → ∀ t', sN6[ed.on]? = some t' → ∃ v, a.tmps[t']? = some v ∧ specAt (spN6 A B C Vf lo) ed.on v x) : Yld Try.prog R oN6_13 a x 9 (fun v x' => specAt (spN6 A B C Vf lo) 13 v x' ∧ (13 ∈ ([12, 13, 14] : List Nat) → v = ptrV x.heap.size)) := by
  exact yld_run rfl run_newnum ((Q.refl x).cells _ _) ⟨new_zbox x (Nat.le_trans E.hlo q.1.size), fun _ => rfl⟩
theorem yN6_14 {a0 : Act} {w : World} {A B C Vf lo : Nat} (E : EnvN6 a0 w A B C Vf lo) {R : Exit → Act → World → Prop} {a : Act} {x : World} (q : Q w x) (oth : ∀ j, j ∉ sN6 → a.tmps[j]? = a0.tmps[j]?) (dep : ∀ ed ∈ oN6_14.after, Region.binds .any ed = true → ∀ t', sN6[ed.on]? = some t' → ∃ v, a.tmps[t']? = some v ∧ specAt (spN6 A B C Vf lo) ed.on v x) : Yld Try.prog R oN6_14 a x 10 (fun v x' => specAt (spN6 A B C Vf lo) 14 v x' ∧ (14 ∈ ([12, 13, 14] : List Nat) → v = ptrV x.heap.size)) := by
  exact yld_run rfl run_newnum ((Q.refl x).cells _ _) ⟨new_zbox x (Nat.le_trans E.hlo q.1.size), fun _ => rfl⟩
theorem hopN6 {a0 : Act} {w : World} {A B C Vf lo : Nat} (E : EnvN6 a0 w A B C Vf lo) {R : Exit → Act → World → Prop} : ∀ (i t : Nat) (o : Oper) (a : Act) (x : World), i < 15 → sN6[i]? = some t → opsN6[i]? = some o → Q w x → (∀ j, j ∉ sN6 → a.tmps[j]? = a0.tmps[j]?) → (∀ ed ∈ o.after, Region.binds .any ed = true → ∀ t', sN6[ed.on]? = some t' → ∃ v, a.tmps[t']? = some v ∧ specAt (spN6 A B C Vf lo) ed.on v x) → Yld Try.prog R o a x t (fun v x' => specAt (spN6 A B C Vf lo) i v x' ∧ (i ∈ ([12, 13, 14] : List Nat) → v = ptrV x.heap.size))
  | 0, t, o, a, x, hi, ht, ho, q, oth, dep => by
    have e1 : oN6_0 = o := Option.some.inj ho
    have e2 : 46 = t := Option.some.inj ht
    subst e1 e2
    exact yN6_0 E q oth dep
  | 1, t, o, a, x, hi, ht, ho, q, oth, dep => by
    have e1 : oN6_1 = o := Option.some.inj ho
    have e2 : 47 = t := Option.some.inj ht
    subst e1 e2
    exact yN6_1 E q oth dep
  | 2, t, o, a, x, hi, ht, ho, q, oth, dep => by
    have e1 : oN6_2 = o := Option.some.inj ho
    have e2 : 48 = t := Option.some.inj ht
    subst e1 e2
    exact yN6_2 E q oth dep
  | 3, t, o, a, x, hi, ht, ho, q, oth, dep => by
    have e1 : oN6_3 = o := Option.some.inj ho
    have e2 : 49 = t := Option.some.inj ht
    subst e1 e2
    exact yN6_3 E q oth dep
  | 4, t, o, a, x, hi, ht, ho, q, oth, dep => by
    have e1 : oN6_4 = o := Option.some.inj ho
    have e2 : 50 = t := Option.some.inj ht
    subst e1 e2
    exact yN6_4 E q oth dep
  | 5, t, o, a, x, hi, ht, ho, q, oth, dep => by
    have e1 : oN6_5 = o := Option.some.inj ho
    have e2 : 51 = t := Option.some.inj ht
    subst e1 e2
    exact yN6_5 E q oth dep
  | 6, t, o, a, x, hi, ht, ho, q, oth, dep => by
    have e1 : oN6_6 = o := Option.some.inj ho
    have e2 : 52 = t := Option.some.inj ht
    subst e1 e2
    exact yN6_6 E q oth dep
  | 7, t, o, a, x, hi, ht, ho, q, oth, dep => by
    have e1 : oN6_7 = o := Option.some.inj ho
    have e2 : 53 = t := Option.some.inj ht
    subst e1 e2
    exact yN6_7 E q oth dep
  | 8, t, o, a, x, hi, ht, ho, q, oth, dep => by
    have e1 : oN6_8 = o := Option.some.inj ho
    have e2 : 54 = t := Option.some.inj ht
    subst e1 e2
    exact yN6_8 E q oth dep
  | 9, t, o, a, x, hi, ht, ho, q, oth, dep => by
    have e1 : oN6_9 = o := Option.some.inj ho
    have e2 : 55 = t := Option.some.inj ht
    subst e1 e2
    exact yN6_9 E q oth dep
  | 10, t, o, a, x, hi, ht, ho, q, oth, dep => by
    have e1 : oN6_10 = o := Option.some.inj ho
    have e2 : 56 = t := Option.some.inj ht
    subst e1 e2
    exact yN6_10 E q oth dep
  | 11, t, o, a, x, hi, ht, ho, q, oth, dep => by
    have e1 : oN6_11 = o := Option.some.inj ho
    have e2 : 57 = t := Option.some.inj ht
    subst e1 e2
    exact yN6_11 E q oth dep
  | 12, t, o, a, x, hi, ht, ho, q, oth, dep => by
    have e1 : oN6_12 = o := Option.some.inj ho
    have e2 : 8 = t := Option.some.inj ht
    subst e1 e2
    exact yN6_12 E q oth dep
  | 13, t, o, a, x, hi, ht, ho, q, oth, dep => by
    have e1 : oN6_13 = o := Option.some.inj ho
    have e2 : 9 = t := Option.some.inj ht
    subst e1 e2
    exact yN6_13 E q oth dep
  | 14, t, o, a, x, hi, ht, ho, q, oth, dep => by
    have e1 : oN6_14 = o := Option.some.inj ho
    have e2 : 10 = t := Option.some.inj ht
    subst e1 e2
    exact yN6_14 E q oth dep
  | i + 15, t, o, a, x, hi, ht, ho, q, oth, dep => absurd hi (by omega)
theorem regionN6 {id : Nat} {l : List Oper} {R : Exit → Act → World → Prop} {a0 : Act} {w : World} {A B C Vf : Nat} (hl : l = opsN6) (hsz : a0.tmps.size = 157) (E : EnvN6 a0 w A B C Vf w.heap.size)
    (hR : ∀ x V8 V9 V10 v46 v47 v48 v49 v50 v51 v52 v53 v54 v55 v56 v57, Q w x → NBox x V8 (sampR A) → NBox x V9 (sampR B) → NBox x V10 (sampR C) → V8 ≠ V9 → V8 ≠ V10 → V9 ≠ V10 → w.heap.size ≤ V8 → w.heap.size ≤ V9 → w.heap.size ≤ V10 → V8 < x.heap.size → V9 < x.heap.size → V10 < x.heap.size → (∀ j, x.frozen? ⟨V9, j, none⟩ = false) → R .normal (putAll a0 [(46, v46), (47, v47), (48, v48), (49, v49), (50, v50), (51, v51), (52, v52), (53, v53), (54, v54), (55, v55), (56, v56), (57, v57), (8, ptrV V8), (9, ptrV V9), (10, ptrV V10)]) x) :
    (Code.region id l.toArray true).wp Try.prog R a0 w := by
  subst hl
  refine wp_region_facts 15 sN6 (specAt (spN6 A B C Vf w.heap.size)) [12, 13, 14] (by kernel_rfl) (by decide +kernel) (by decide) rfl (by decide) (fun t ht => ?_) specAt.next (fun i v x hi hf => ?_) (hopN6 E) (fun a x q size defers other facts apart => ?_)
  · rw [hsz]
    revert t
    decide
  · have hi : i = 12 ∨ i = 13 ∨ i = 14 := by simpa using hi
    rcases hi with rfl | rfl | rfl <;> (obtain ⟨V, h1, _, h3, _⟩ := hf; exact ⟨V, h1, h3⟩)
  · have F : ∀ i t, i < 15 → sN6[i]? = some t → ∃ v, a.tmps[t]? = some v := fun i t h1 h2 => by
      obtain ⟨v, h, _⟩ := facts i t h1 h2; exact ⟨v, h⟩
    obtain ⟨v46, t46⟩ := F 0 46 (by decide) rfl
    obtain ⟨v47, t47⟩ := F 1 47 (by decide) rfl
    obtain ⟨v48, t48⟩ := F 2 48 (by decide) rfl
    obtain ⟨v49, t49, f49⟩ := facts 3 49 (by decide) rfl
    obtain ⟨v50, t50⟩ := F 4 50 (by decide) rfl
    obtain ⟨v51, t51⟩ := F 5 51 (by decide) rfl
    obtain ⟨v52, t52⟩ := F 6 52 (by decide) rfl
    obtain ⟨v53, t53, f53⟩ := facts 7 53 (by decide) rfl
    obtain ⟨v54, t54⟩ := F 8 54 (by decide) rfl
    obtain ⟨v55, t55⟩ := F 9 55 (by decide) rfl
    obtain ⟨v56, t56⟩ := F 10 56 (by decide) rfl
    obtain ⟨v57, t57, f57⟩ := facts 11 57 (by decide) rfl
    obtain ⟨v8, t8, V8, rfl, l8, m8, b8, z8⟩ := facts 12 8 (by decide) rfl
    obtain ⟨v9, t9, V9, rfl, l9, m9, b9, z9⟩ := facts 13 9 (by decide) rfl
    obtain ⟨v10, t10, V10, rfl, l10, m10, b10, z10⟩ := facts 14 10 (by decide) rfl
    have n89 : V8 ≠ V9 := fun e => by
      subst e
      exact apart 12 13 8 9 _ (by decide) (by decide) (by decide) (by decide) (by decide) rfl rfl t8 t9
    have n810 : V8 ≠ V10 := fun e => by
      subst e
      exact apart 12 14 8 10 _ (by decide) (by decide) (by decide) (by decide) (by decide) rfl rfl t8 t10
    have n910 : V9 ≠ V10 := fun e => by
      subst e
      exact apart 13 14 9 10 _ (by decide) (by decide) (by decide) (by decide) (by decide) rfl rfl t9 t10
    have f49 : NumAt x v49 (sampR A) := f49
    have f53 : NumAt x v53 (sampR B) := f53
    have f57 : NumAt x v57 (sampR C) := f57
    refine ⟨?_⟩
    show Oper.wp Try.prog oN6_15 a x (fun a' x' => Oper.wp Try.prog oN6_16 a' x' (fun a'' x'' => Oper.wp Try.prog oN6_17 a'' x'' (fun a3 x3 => R .normal a3 x3) R) R) R
    refine lay_num t8 t49 f49 b8 z8 (fun x1 L1 N1 => ?_)
    refine lay_num t9 t53 (L1.num _ _ f53) (L1.box _ _ _ _ _ _ _ _ (fun e => n89 e.symm) b9) (fun j => (L1.frz _).trans (z9 j)) (fun x2 L2 N2 => ?_)
    refine lay_num t10 t57 (L2.num _ _ (L1.num _ _ f57)) (L2.box _ _ _ _ _ _ _ _ (fun e => n910 e.symm) (L1.box _ _ _ _ _ _ _ _ (fun e => n810 e.symm) b10)) (fun j => (L2.frz _).trans ((L1.frz _).trans (z10 j))) (fun x3 L3 N3 => ?_)
    have hA := act_puts (a := a) (a0 := a0) [(46, v46), (47, v47), (48, v48), (49, v49), (50, v50), (51, v51), (52, v52), (53, v53), (54, v54), (55, v55), (56, v56), (57, v57), (8, ptrV V8), (9, ptrV V9), (10, ptrV V10)] (by show sN6.Nodup; decide) size defers other (fun r hr => by
      simp only [List.mem_cons, List.not_mem_nil, or_false] at hr
      rcases hr with rfl | rfl | rfl | rfl | rfl | rfl | rfl | rfl | rfl | rfl | rfl | rfl | rfl | rfl | rfl <;> assumption)
    rw [hA]
    have sz : x3.heap.size = x.heap.size := by rw [L3.sz, L2.sz, L1.sz]
    exact hR x3 V8 V9 V10 _ _ _ _ _ _ _ _ _ _ _ _ (L3.q _ (L2.q _ (L1.q _ q l8) l9) l10) (L3.nbox n810 (L2.nbox n89 N1)) (L3.nbox n910 N2) N3 n89 n810 n910 l8 l9 l10 (by omega) (by omega) (by omega) (fun j => (L3.frz _).trans ((L2.frz _).trans ((L1.frz _).trans (z9 j))))
def oN7_0 : Oper := { dst := some 58, op := .load 31 (.tmp 8), type := 31, pos := "outright.go:83", after := #[], guard := none }
def oN7_1 : Oper := { dst := some 59, op := .load 31 (.tmp 9), type := 31, pos := "outright.go:83", after := #[], guard := none }
def oN7_2 : Oper := { dst := some 60, op := .call { callee := .value (.func 10), args := #[.tmp 58, .tmp 59], argTypes := #[31, 31] }, type := 31, pos := "outright.go:83", after := #[⟨0, .data⟩, ⟨1, .data⟩], guard := none }
def oN7_3 : Oper := { dst := some 61, op := .load 31 (.tmp 8), type := 31, pos := "outright.go:83", after := #[], guard := none }
def oN7_4 : Oper := { dst := some 62, op := .load 31 (.tmp 9), type := 31, pos := "outright.go:83", after := #[], guard := none }
def oN7_5 : Oper := { dst := some 63, op := .call { callee := .value (.func 11), args := #[.tmp 61, .tmp 62], argTypes := #[31, 31] }, type := 31, pos := "outright.go:83", after := #[⟨3, .data⟩, ⟨4, .data⟩, ⟨2, .chain⟩], guard := none }
def oN7_6 : Oper := { dst := some 11, op := .alloc 31, type := 0, pos := "outright.go:83", after := #[], guard := none }
def oN7_7 : Oper := { dst := some 12, op := .alloc 31, type := 0, pos := "outright.go:83", after := #[], guard := none }
def oN7_8 : Oper := { dst := none, op := .store 31 (.tmp 11) (.tmp 60), type := 0, pos := "outright.go:83", after := #[⟨6, .data⟩, ⟨2, .data⟩, ⟨5, .chain⟩, ⟨0, .phase⟩, ⟨1, .phase⟩, ⟨2, .phase⟩, ⟨3, .textOnly .lateStores⟩, ⟨4, .textOnly .lateStores⟩, ⟨5, .textOnly .lateStoresUnsure⟩, ⟨6, .phase⟩, ⟨7, .phase⟩], guard := none }
def oN7_9 : Oper := { dst := none, op := .store 31 (.tmp 12) (.tmp 63), type := 0, pos := "outright.go:83", after := #[⟨7, .data⟩, ⟨5, .data⟩, ⟨8, .chain⟩, ⟨0, .phase⟩, ⟨1, .phase⟩, ⟨2, .phase⟩, ⟨3, .phase⟩, ⟨4, .phase⟩, ⟨5, .phase⟩, ⟨6, .phase⟩, ⟨7, .phase⟩, ⟨8, .phase⟩], guard := none }
def opsN7 : List Oper := [oN7_0, oN7_1, oN7_2, oN7_3, oN7_4, oN7_5, oN7_6, oN7_7, oN7_8, oN7_9]
def sN7 : List Nat := [58, 59, 60, 61, 62, 63, 11, 12]
def spN7 (V8 V9 lo : Nat) (X Y P1 P2 : RNum) : List Spec := [numS X, numS Y, numS P1, numS X, numS Y, numS P2, zboxS lo, zboxS lo]
structure EnvN7 (a0 : Act) (w : World) (V8 V9 lo : Nat) (X Y P1 P2 : RNum) : Prop where
  h8 : a0.tmps[8]? = some (ptrV V8)
  h9 : a0.tmps[9]? = some (ptrV V9)
  b8 : NBox w V8 X
  b9 : NBox w V9 Y
  hlo : lo ≤ w.heap.size
  c1 : ∀ va vb x, NumAt x va X → NumAt x vb Y → Calls Try.prog 10 #[va, vb] x fun e x' => ∃ v, e = .returned v ∧ NumAt x' v P1 ∧ Q x x'
  c2 : ∀ va vb x, NumAt x va X → NumAt x vb Y → Calls Try.prog 11 #[va, vb] x fun e x' => ∃ v, e = .returned v ∧ NumAt x' v P2 ∧ Q x x'
theorem yN7_0 {a0 : Act} {w : World} {V8 V9 lo : Nat} {X Y P1 P2 : RNum} (E : EnvN7 a0 w V8 V9 lo X Y P1 P2) {R : Exit → Act → World → Prop} {a : Act} {x : World} (q : Q w x) (oth : ∀ j, j ∉ sN7 → a.tmps[j]? = a0.tmps[j]?) (dep : ∀ ed ∈ oN7_0.after, Region.binds .any ed = true → ∀ t', sN7[ed.on]? = some t' → ∃ v, a.tmps[t']? = some v ∧ specAt (spN7 V8 V9 lo X Y P1 P2) ed.on v x) : Yld Try.prog R oN7_0 a x 58 (fun v x' => specAt (spN7 V8 V9 lo X Y P1 P2) 0 v x' ∧ (0 ∈ ([6, 7] : List Nat) → v = ptrV x.heap.size)) := by
  obtain ⟨k, s', p, L, C, e', m, b1, b2⟩ := E.b8.next q
  exact yld_run (x' := x) rfl (run_num (tmp_eval ((oth 8 (by decide)).trans E.h8)) b1) (Q.refl x) ⟨b2, fun h => absurd h (by decide)⟩
theorem yN7_1 {a0 : Act} {w : World} {V8 V9 lo : Nat} {X Y P1 P2 : RNum} (E : EnvN7 a0 w V8 V9 lo X Y P1 P2) {R : Exit → Act → World → Prop} {a : Act} {x : World} (q : Q w x) (oth : ∀ j, j ∉ sN7 → a.tmps[j]? = a0.tmps[j]?) (dep : ∀ ed ∈ oN7_1.after, Region.binds .any ed = true → ∀ t', sN7[ed.on]? = some t' → ∃ v, a.tmps[t']? = some v ∧ specAt (spN7 V8 V9 lo X Y P1 P2) ed.on v x) : Yld Try.prog R oN7_1 a x 59 (fun v x' => specAt (spN7 V8 V9 lo X Y P1 P2) 1 v x' ∧ (1 ∈ ([6, 7] : List Nat) → v = ptrV x.heap.size)) := by
  obtain ⟨k, s', p, L, C, e', m, b1, b2⟩ := E.b9.next q
  exact yld_run (x' := x) rfl (run_num (tmp_eval ((oth 9 (by decide)).trans E.h9)) b1) (Q.refl x) ⟨b2, fun h => absurd h (by decide)⟩
theorem yN7_2 {a0 : Act} {w : World} {V8 V9 lo : Nat} {X Y P1 P2 : RNum} (E : EnvN7 a0 w V8 V9 lo X Y P1 P2) {R : Exit → Act → World → Prop} {a : Act} {x : World} (q : Q w x) (oth : ∀ j, j ∉ sN7 → a.tmps[j]? = a0.tmps[j]?) (dep : ∀ ed ∈ oN7_2.after, Region.binds .any ed = true → ∀ t', sN7[ed.on]? = some t' → ∃ v, a.tmps[t']? = some v ∧ specAt (spN7 V8 V9 lo X Y P1 P2) ed.on v x) : Yld Try.prog R oN7_2 a x 60 (fun v x' => specAt (spN7 V8 V9 lo X Y P1 P2) 2 v x' ∧ (2 ∈ ([6, 7] : List Nat) → v = ptrV x.heap.size)) := by
  obtain ⟨v0, t0, f0⟩ := dep ⟨0, .data⟩ (by simp [oN7_2]) rfl 58 rfl
  have f0 : (numS X).p v0 x := f0
  obtain ⟨v1, t1, f1⟩ := dep ⟨1, .data⟩ (by simp [oN7_2]) rfl 59 rfl
  have f1 : (numS Y).p v1 x := f1
  refine yld_call (enters_of Try.func10 (by kernel_rfl) rfl) (args2 t0 t1) ((E.c1 v0 v1 x f0 f1).mono ?_)
  rintro y x' ⟨v, rfl, h, q'⟩
  exact ⟨v, rfl, q', ⟨h, fun h => absurd h (by decide)⟩⟩
theorem yN7_3 {a0 : Act} {w : World} {V8 V9 lo : Nat} {X Y P1 P2 : RNum} (E : EnvN7 a0 w V8 V9 lo X Y P1 P2) {R : Exit → Act → World → Prop} {a : Act} {x : World} (q : Q w x) (oth : ∀ j, j ∉ sN7 → a.tmps[j]? = a0.tmps[j]?) (dep : ∀ ed ∈ oN7_3.after, Region.binds .any ed = true → ∀ t', sN7[ed.on]? = some t' → ∃ v, a.tmps[t']? = some v ∧ specAt (spN7 V8 V9 lo X Y P1 P2) ed.on v x) : Yld Try.prog R oN7_3 a x 61 (fun v x' => specAt (spN7 V8 V9 lo X Y P1 P2) 3 v x' ∧ (3 ∈ ([6, 7] : List Nat) → v = ptrV x.heap.size)) := by
  obtain ⟨k, s', p, L, C, e', m, b1, b2⟩ := E.b8.next q
  exact yld_run (x' := x) rfl (run_num (tmp_eval ((oth 8 (by decide)).trans E.h8)) b1) (Q.refl x) ⟨b2, fun h => absurd h (by decide)⟩
theorem yN7_4 {a0 : Act} {w : World} {V8 V9 lo : Nat} {X Y P1 P2 : RNum} (E : EnvN7 a0 w V8 V9 lo X Y P1 P2) {R : Exit → Act → World → Prop} {a : Act} {x : World} (q : Q w x) (oth : ∀ j, j ∉ sN7 → a.tmps[j]? = a0.tmps[j]?) (dep : ∀ ed ∈ oN7_4.after, Region.binds .any ed = true → ∀ t', sN7[ed.on]? = some t' → ∃ v, a.tmps[t']? = some v ∧ specAt (spN7 V8 V9 lo X Y P1 P2) ed.on v x) : Yld Try.prog R oN7_4 a x 62 (fun v x' => specAt (spN7 V8 V9 lo X Y P1 P2) 4 v x' ∧ (4 ∈ ([6, 7] : List Nat) → v = ptrV x.heap.size)) := by
  obtain ⟨k, s', p, L, C, e', m, b1, b2⟩ := E.b9.next q
  exact yld_run (x' := x) rfl (run_num (tmp_eval ((oth 9 (by decide)).trans E.h9)) b1) (Q.refl x) ⟨b2, fun h => absurd h (by decide)⟩
theorem yN7_5 {a0 : Act} {w : World} {V8 V9 lo : Nat} {X Y P1 P2 : RNum} (E : EnvN7 a0 w V8 V9 lo X Y P1 P2) {R : Exit → Act → World → Prop} {a : Act} {x : World} (q : Q w x) (oth : ∀ j, j ∉ sN7 → a.tmps[j]? = a0.tmps[j]?) (dep : ∀ ed ∈ oN7_5.after, Region.binds .any ed = true → ∀ t', sN7[ed.on]? = some t' → ∃ v, a.tmps[t']? = some v ∧ specAt (spN7 V8 V9 lo X Y P1 P2) ed.on v x) : Yld Try.prog R oN7_5 a x 63 (fun v x' => specAt (spN7 V8 V9 lo X Y P1 P2) 5 v x' ∧ (5 ∈ ([6, 7] : List Nat) → v = ptrV x.heap.size)) := by
  obtain ⟨v3, t3, f3⟩ := dep ⟨3, .data⟩ (by simp [oN7_5]) rfl 61 rfl
  have f3 : (numS X).p v3 x := f3
  obtain ⟨v4, t4, f4⟩ := dep ⟨4, .data⟩ (by simp [oN7_5]) rfl 62 rfl
  have f4 : (numS Y).p v4 x := f4
  refine yld_call (enters_of Try.func11 (by kernel_rfl) rfl) (args2 t3 t4) ((E.c2 v3 v4 x f3 f4).mono ?_)
  rintro y x' ⟨v, rfl, h, q'⟩
  exact ⟨v, rfl, q', ⟨h, fun h => absurd h (by decide)⟩⟩
theorem yN7_6 {a0 : Act} {w : World} {V8 V9 lo : Nat} {X Y P1 P2 : RNum} (E : EnvN7 a0 w V8 V9 lo X Y P1 P2) {R : Exit → Act → World → Prop} {a : Act} {x : World} (q : Q w x) (oth : ∀ j, j ∉ sN7 → a.tmps[j]? = a0.tmps[j]?) (dep : ∀ ed ∈ oN7_6.after, Region.binds .any ed = true → ∀ t', sN7[ed.on]? = some t' → ∃ v, a.tmps[t']? = some v ∧ specAt (spN7 V8 V9 lo X Y P1 P2) ed.on v x) : Yld Try.prog R oN7_6 a x 11 (fun v x' => specAt (spN7 V8 V9 lo X Y P1 P2) 6 v x' ∧ (6 ∈ ([6, 7] : List Nat) → v = ptrV x.heap.size)) := by
  exact yld_run rfl run_newnum ((Q.refl x).cells _ _) ⟨new_zbox x (Nat.le_trans E.hlo q.1.size), fun _ => rfl⟩
theorem yN7_7 {a0 : Act} {w : World} {V8 V9 lo : Nat} {X Y P1 P2 : RNum} (E : EnvN7 a0 w V8 V9 lo X Y P1 P2) {R : Exit → Act → World → Prop} {a : Act} {x : World} (q : Q w x) (oth : ∀ j, j ∉ sN7 → a.tmps[j]? = a0.tmps[j]?) (dep : ∀ ed ∈ oN7_7.after, Region.binds .any ed = true → ∀ t', sN7[ed.on]? = some t' → ∃ v, a.tmps[t']? = some v ∧ specAt (spN7 V8 V9 lo X Y P1 P2) ed.on v x) : Yld Try.prog R oN7_7 a x 12 (fun v x' => specAt (spN7 V8 V9 lo X Y P1 P2) 7 v x' ∧ (7 ∈ ([6, 7] : List Nat) → v = ptrV x.heap.size)) := by
  exact yld_run rfl run_newnum ((Q.refl x).cells _ _) ⟨new_zbox x (Nat.le_trans E.hlo q.1.size), fun _ => rfl⟩
theorem hopN7 {a0 : Act} {w : World} {V8 V9 lo : Nat} {X Y P1 P2 : RNum} (E : EnvN7 a0 w V8 V9 lo X Y P1 P2) {R : Exit → Act → World → Prop} : ∀ (i t : Nat) (o : Oper) (a : Act) (x : World), i < 8 → sN7[i]? = some t → opsN7[i]? = some o → Q w x → (∀ j, j ∉ sN7 → a.tmps[j]? = a0.tmps[j]?) → (∀ ed ∈ o.after, Region.binds .any ed = true → ∀ t', sN7[ed.on]? = some t' → ∃ v, a.tmps[t']? = some v ∧ specAt (spN7 V8 V9 lo X Y P1 P2) ed.on v x) → Yld Try.prog R o a x t (fun v x' => specAt (spN7 V8 V9 lo X Y P1 P2) i v x' ∧ (i ∈ ([6, 7] : List Nat) → v = ptrV x.heap.size))
  | 0, t, o, a, x, hi, ht, ho, q, oth, dep => by
    have e1 : oN7_0 = o := Option.some.inj ho
    have e2 : 58 = t := Option.some.inj ht
    subst e1 e2
    exact yN7_0 E q oth dep
  | 1, t, o, a, x, hi, ht, ho, q, oth, dep => by
    have e1 : oN7_1 = o := Option.some.inj ho
    have e2 : 59 = t := Option.some.inj ht
    subst e1 e2
    exact yN7_1 E q oth dep
  | 2, t, o, a, x, hi, ht, ho, q, oth, dep => by
    have e1 : oN7_2 = o := Option.some.inj ho
    have e2 : 60 = t := Option.some.inj ht
    subst e1 e2
    exact yN7_2 E q oth dep
  | 3, t, o, a, x, hi, ht, ho, q, oth, dep => by
    have e1 : oN7_3 = o := Option.some.inj ho
    have e2 : 61 = t := Option.some.inj ht
    subst e1 e2
    exact yN7_3 E q oth dep
  | 4, t, o, a, x, hi, ht, ho, q, oth, dep => by
    have e1 : oN7_4 = o := Option.some.inj ho
    have e2 : 62 = t := Option.some.inj ht
    subst e1 e2
    exact yN7_4 E q oth dep
  | 5, t, o, a, x, hi, ht, ho, q, oth, dep => by
    have e1 : oN7_5 = o := Option.some.inj ho
    have e2 : 63 = t := Option.some.inj ht
    subst e1 e2
    exact yN7_5 E q oth dep
  | 6, t, o, a, x, hi, ht, ho, q, oth, dep => by
    have e1 : oN7_6 = o := Option.some.inj ho
    have e2 : 11 = t := Option.some.inj ht
    subst e1 e2
    exact yN7_6 E q oth dep
  | 7, t, o, a, x, hi, ht, ho, q, oth, dep => by
    have e1 : oN7_7 = o := Option.some.inj ho
    have e2 : 12 = t := Option.some.inj ht
    subst e1 e2
    exact yN7_7 E q oth dep
  | i + 8, t, o, a, x, hi, ht, ho, q, oth, dep => absurd hi (by omega)
theorem regionN7 {id : Nat} {l : List Oper} {R : Exit → Act → World → Prop} {a0 : Act} {w : World} {V8 V9 : Nat} {X Y P1 P2 : RNum} (hl : l = opsN7) (hsz : a0.tmps.size = 157) (E : EnvN7 a0 w V8 V9 w.heap.size X Y P1 P2)
    (hR : ∀ x V11 V12 v58 v59 v60 v61 v62 v63, Q w x → NBox x V11 P1 → NBox x V12 P2 → V11 ≠ V12 → w.heap.size ≤ V11 → w.heap.size ≤ V12 → V11 < x.heap.size → V12 < x.heap.size → R .normal (putAll a0 [(58, v58), (59, v59), (60, v60), (61, v61), (62, v62), (63, v63), (11, ptrV V11), (12, ptrV V12)]) x) :
    (Code.region id l.toArray true).wp Try.prog R a0 w := by
  subst hl
  refine wp_region_facts 8 sN7 (specAt (spN7 V8 V9 w.heap.size X Y P1 P2)) [6, 7] (by kernel_rfl) (by decide +kernel) (by decide) rfl (by decide) (fun t ht => ?_) specAt.next (fun i v x hi hf => ?_) (hopN7 E) (fun a x q size defers other facts apart => ?_)
  · rw [hsz]
    revert t
    decide
  · have hi : i = 6 ∨ i = 7 := by simpa using hi
    rcases hi with rfl | rfl <;> (obtain ⟨V, h1, _, h3, _⟩ := hf; exact ⟨V, h1, h3⟩)
  · have F : ∀ i t, i < 8 → sN7[i]? = some t → ∃ v, a.tmps[t]? = some v := fun i t h1 h2 => by
      obtain ⟨v, h, _⟩ := facts i t h1 h2; exact ⟨v, h⟩
    obtain ⟨v58, t58⟩ := F 0 58 (by decide) rfl
    obtain ⟨v59, t59⟩ := F 1 59 (by decide) rfl
    obtain ⟨v60, t60, f60⟩ := facts 2 60 (by decide) rfl
    obtain ⟨v61, t61⟩ := F 3 61 (by decide) rfl
    obtain ⟨v62, t62⟩ := F 4 62 (by decide) rfl
    obtain ⟨v63, t63, f63⟩ := facts 5 63 (by decide) rfl
    obtain ⟨v11, t11, V11, rfl, l11, m11, b11, z11⟩ := facts 6 11 (by decide) rfl
    obtain ⟨v12, t12, V12, rfl, l12, m12, b12, z12⟩ := facts 7 12 (by decide) rfl
    have n : V11 ≠ V12 := fun e => by
      subst e
      exact apart 6 7 11 12 _ (by decide) (by decide) (by decide) (by decide) (by decide) rfl rfl t11 t12
    have f60 : NumAt x v60 P1 := f60
    have f63 : NumAt x v63 P2 := f63
    refine ⟨?_⟩
    show Oper.wp Try.prog oN7_8 a x (fun a' x' => Oper.wp Try.prog oN7_9 a' x' (fun a'' x'' => R .normal a'' x'') R) R
    refine lay_num t11 t60 f60 b11 z11 (fun x1 L1 N1 => ?_)
    refine lay_num t12 t63 (L1.num _ _ f63) (L1.box _ _ _ _ _ _ _ _ (fun e => n e.symm) b12) (fun j => (L1.frz _).trans (z12 j)) (fun x2 L2 N2 => ?_)
    have hA := act_puts (a := a) (a0 := a0) [(58, v58), (59, v59), (60, v60), (61, v61), (62, v62), (63, v63), (11, ptrV V11), (12, ptrV V12)] (by show sN7.Nodup; decide) size defers other (fun r hr => by
      simp only [List.mem_cons, List.not_mem_nil, or_false] at hr
      rcases hr with rfl | rfl | rfl | rfl | rfl | rfl | rfl | rfl <;> assumption)
    rw [hA]
    have sz : x2.heap.size = x.heap.size := by rw [L2.sz, L1.sz]
    exact hR x2 V11 V12 _ _ _ _ _ _ (L2.q _ (L1.q _ q l11) l12) (L2.nbox n N1) N2 n l11 l12 (by omega) (by omega)
def oM_0 : Oper := { dst := some 107, op := .move (.tmp 16), type := 28, pos := "outright.go:94", after := #[], guard := none }
def oM_1 : Oper := { dst := some 108, op := .move (.tmp 18), type := 3, pos := "outright.go:94", after := #[], guard := none }
def oM_2 : Oper := { dst := some 109, op := .indexAddr 28 (.tmp 107) (.tmp 108), type := 0, pos := "outright.go:94", after := #[⟨0, .data⟩, ⟨1, .data⟩], guard := none }
def oM_3 : Oper := { dst := some 110, op := .load 22 (.tmp 109), type := 22, pos := "outright.go:94", after := #[⟨2, .data⟩], guard := none }
def oM_4 : Oper := { dst := some 111, op := .call { callee := .value (.func 6), args := #[.tmp 110], argTypes := #[22] }, type := 4, pos := "outright.go:94", after := #[⟨3, .data⟩], guard := none }
def oM_5 : Oper := { dst := some 112, op := .move (.tmp 111), type := 4, pos := "outright.go:94", after := #[⟨4, .data⟩, ⟨4, .chain⟩], guard := none }
def oM_6 : Oper := { dst := some 113, op := .move (.tmp 16), type := 28, pos := "outright.go:94", after := #[⟨5, .guard⟩], guard := some (5, false) }
def oM_7 : Oper := { dst := some 114, op := .move (.tmp 18), type := 3, pos := "outright.go:94", after := #[⟨5, .guard⟩], guard := some (5, false) }
def oM_8 : Oper := { dst := some 115, op := .indexAddr 28 (.tmp 113) (.tmp 114), type := 0, pos := "outright.go:94", after := #[⟨6, .data⟩, ⟨7, .data⟩, ⟨5, .guard⟩], guard := some (5, false) }
def oM_9 : Oper := { dst := some 116, op := .load 22 (.tmp 115), type := 22, pos := "outright.go:94", after := #[⟨8, .data⟩, ⟨5, .guard⟩], guard := some (5, false) }
def oM_10 : Oper := { dst := some 117, op := .call { callee := .value (.func 7), args := #[.tmp 116], argTypes := #[22] }, type := 4, pos := "outright.go:94", after := #[⟨9, .data⟩, ⟨5, .chain⟩, ⟨5, .guard⟩], guard := some (5, false) }
def oM_11 : Oper := { dst := some 118, op := .move (.tmp 20), type := 4, pos := "outright.go:94", after := #[⟨5, .guard⟩], guard := some (5, false) }
def oM_12 : Oper := { dst := some 119, op := .binOp .neq 4 (.tmp 117) (.tmp 118) 4, type := 4, pos := "outright.go:94", after := #[⟨10, .data⟩, ⟨11, .data⟩, ⟨5, .guard⟩], guard := some (5, false) }
def oM_13 : Oper := { dst := some 120, op := .pick (.tmp 112) (.const (.bool true)) (.tmp 119), type := 4, pos := "outright.go:94", after := #[⟨5, .data⟩, ⟨12, .data⟩], guard := none }
def oM_14 : Oper := { dst := some 121, op := .move (.tmp 120), type := 4, pos := "outright.go:94", after := #[⟨13, .data⟩, ⟨10, .chain⟩], guard := none }
def oM_15 : Oper := { dst := some 122, op := .move (.tmp 20), type := 4, pos := "outright.go:94", after := #[⟨14, .guard⟩], guard := some (14, false) }
def oM_16 : Oper := { dst := some 123, op := .unOp .not 4 (.tmp 122), type := 4, pos := "outright.go:94", after := #[⟨15, .data⟩, ⟨14, .guard⟩], guard := some (14, false) }
def oM_17 : Oper := { dst := some 124, op := .move (.tmp 123), type := 4, pos := "outright.go:94", after := #[⟨16, .data⟩, ⟨14, .chain⟩, ⟨14, .guard⟩], guard := some (14, false) }
def oM_18 : Oper := { dst := some 125, op := .move (.tmp 15), type := 35, pos := "outright.go:94", after := #[⟨17, .guard⟩], guard := some (17, true) }
def oM_19 : Oper := { dst := some 126, op := .move (.tmp 18), type := 3, pos := "outright.go:94", after := #[⟨17, .guard⟩], guard := some (17, true) }
def oM_20 : Oper := { dst := some 127, op := .indexAddr 35 (.tmp 125) (.tmp 126), type := 0, pos := "outright.go:94", after := #[⟨18, .data⟩, ⟨19, .data⟩, ⟨17, .guard⟩], guard := some (17, true) }
def oM_21 : Oper := { dst := some 128, op := .load 31 (.tmp 127), type := 31, pos := "outright.go:94", after := #[⟨20, .data⟩, ⟨17, .guard⟩], guard := some (17, true) }
def oM_22 : Oper := { dst := some 129, op := .move (.tmp 16), type := 28, pos := "outright.go:94", after := #[⟨17, .guard⟩], guard := some (17, true) }
def oM_23 : Oper := { dst := some 130, op := .move (.tmp 18), type := 3, pos := "outright.go:94", after := #[⟨17, .guard⟩], guard := some (17, true) }
def oM_24 : Oper := { dst := some 131, op := .indexAddr 28 (.tmp 129) (.tmp 130), type := 0, pos := "outright.go:94", after := #[⟨22, .data⟩, ⟨23, .data⟩, ⟨17, .guard⟩], guard := some (17, true) }
def oM_25 : Oper := { dst := some 132, op := .load 22 (.tmp 131), type := 22, pos := "outright.go:94", after := #[⟨24, .data⟩, ⟨17, .guard⟩], guard := some (17, true) }
def oM_26 : Oper := { dst := some 133, op := .call { callee := .value (.func 18), args := #[.tmp 128, .tmp 132], argTypes := #[31, 22] }, type := 4, pos := "outright.go:94", after := #[⟨21, .data⟩, ⟨25, .data⟩, ⟨17, .chain⟩, ⟨17, .guard⟩], guard := some (17, true) }
def oM_27 : Oper := { dst := some 134, op := .unOp .not 4 (.tmp 133), type := 4, pos := "outright.go:94", after := #[⟨26, .data⟩, ⟨17, .guard⟩], guard := some (17, true) }
def oM_28 : Oper := { dst := some 135, op := .pick (.tmp 124) (.tmp 134) (.const (.bool false)), type := 4, pos := "outright.go:94", after := #[⟨17, .data⟩, ⟨27, .data⟩, ⟨14, .guard⟩], guard := some (14, false) }
def oM_29 : Oper := { dst := some 136, op := .pick (.tmp 121) (.const (.bool true)) (.tmp 135), type := 4, pos := "outright.go:94", after := #[⟨14, .data⟩, ⟨28, .data⟩], guard := none }
def opsM : List Oper := [oM_0, oM_1, oM_2, oM_3, oM_4, oM_5, oM_6, oM_7, oM_8, oM_9, oM_10, oM_11, oM_12, oM_13, oM_14, oM_15, oM_16, oM_17, oM_18, oM_19, oM_20, oM_21, oM_22, oM_23, oM_24, oM_25, oM_26, oM_27, oM_28, oM_29]
def sM : List Nat := [107, 108, 109, 110, 111, 112, 113, 114, 115, 116, 117, 118, 119, 120, 121, 122, 123, 124, 125, 126, 127, 128, 129, 130, 131, 132, 133, 134, 135, 136]
def spM (BE BT ix T : Nat) (D : RNum) : List Spec := [spV (.slice (some ⟨BT, 0, none⟩) 4 4), spV (.int .i64 (ix : Nat)), spV (.pointer (some ⟨BT, ix, none⟩)), spV (.int .u32 (T : Nat)), spV (.bool false), spV (.bool false), spV (.slice (some ⟨BT, 0, none⟩) 4 4), spV (.int .i64 (ix : Nat)), spV (.pointer (some ⟨BT, ix, none⟩)), spV (.int .u32 (T : Nat)), spV (.bool true), spV (.bool true), spV (.bool false), spV (.bool false), spV (.bool false), spV (.bool true), spV (.bool false), spV (.bool false), spV undef, spV undef, spV undef, spV undef, spV undef, spV undef, spV undef, spV undef, spV undef, spV undef, spV (.bool false), spV (.bool false)]
structure EnvM (a0 : Act) (w : World) (BE BT ix T : Nat) (D : RNum) : Prop where
  h15 : a0.tmps[15]? = some (.slice (some ⟨BE, 0, none⟩) 4 4)
  h16 : a0.tmps[16]? = some (.slice (some ⟨BT, 0, none⟩) 4 4)
  h18 : a0.tmps[18]? = some (.int .i64 (ix : Nat))
  h20 : a0.tmps[20]? = some (.bool true)
  hi : ix < 4
  ct : w.cell? ⟨BT, ix, none⟩ = some (.int .u32 (T : Nat))
  ex : ∃ k s p L C e m, w.cell? ⟨BE, ix * 5, none⟩ = some (.int .i64 k) ∧ w.cell? ⟨BE, ix * 5 + 1, none⟩ = some (.bool s) ∧ w.cell? ⟨BE, ix * 5 + 2, none⟩ = some (.slice p L C) ∧ w.cell? ⟨BE, ix * 5 + 3, none⟩ = some (.int .i64 e) ∧ w.cell? ⟨BE, ix * 5 + 4, none⟩ = some (.bool m) ∧ NumAt w (num5 k s p L C e m) D
  cn : ∀ x, Calls Try.prog 6 #[.int .u32 (T : Nat)] x fun e x' => e = .returned (.bool false) ∧ x' = x
  ci : ∀ x, Calls Try.prog 7 #[.int .u32 (T : Nat)] x fun e x' => e = .returned (.bool true) ∧ x' = x
def skM (i : Nat) : Bool := [18, 19, 20, 21, 22, 23, 24, 25, 26, 27].contains i
theorem yM_0 {a0 : Act} {w : World} {BE BT ix T : Nat} {D : RNum} (E : EnvM a0 w BE BT ix T D) {R : Exit → Act → World → Prop} {a : Act} {x : World} (q : Q w x) (oth : ∀ j, j ∉ sM → a.tmps[j]? = a0.tmps[j]?) (dep : ∀ ed ∈ oM_0.after, Region.binds .any ed = true → ∀ t', sM[ed.on]? = some t' → ∃ v, a.tmps[t']? = some v ∧ specAt (spM BE BT ix T D) ed.on v x) : Yld Try.prog R oM_0 a x 107 (specAt (spM BE BT ix T D) 0) := by
  exact yld_move ((oth 16 (by decide)).trans E.h16) rfl
theorem yM_1 {a0 : Act} {w : World} {BE BT ix T : Nat} {D : RNum} (E : EnvM a0 w BE BT ix T D) {R : Exit → Act → World → Prop} {a : Act} {x : World} (q : Q w x) (oth : ∀ j, j ∉ sM → a.tmps[j]? = a0.tmps[j]?) (dep : ∀ ed ∈ oM_1.after, Region.binds .any ed = true → ∀ t', sM[ed.on]? = some t' → ∃ v, a.tmps[t']? = some v ∧ specAt (spM BE BT ix T D) ed.on v x) : Yld Try.prog R oM_1 a x 108 (specAt (spM BE BT ix T D) 1) := by
  exact yld_move ((oth 18 (by decide)).trans E.h18) rfl
theorem yM_2 {a0 : Act} {w : World} {BE BT ix T : Nat} {D : RNum} (E : EnvM a0 w BE BT ix T D) {R : Exit → Act → World → Prop} {a : Act} {x : World} (q : Q w x) (oth : ∀ j, j ∉ sM → a.tmps[j]? = a0.tmps[j]?) (dep : ∀ ed ∈ oM_2.after, Region.binds .any ed = true → ∀ t', sM[ed.on]? = some t' → ∃ v, a.tmps[t']? = some v ∧ specAt (spM BE BT ix T D) ed.on v x) : Yld Try.prog R oM_2 a x 109 (specAt (spM BE BT ix T D) 2) := by
  obtain ⟨v0, t0, f0⟩ := dep ⟨0, .data⟩ (by simp [oM_2]) rfl 107 rfl
  have f0 : v0 = (.slice (some ⟨BT, 0, none⟩) 4 4) := f0
  subst f0
  obtain ⟨v1, t1, f1⟩ := dep ⟨1, .data⟩ (by simp [oM_2]) rfl 108 rfl
  have f1 : v1 = (.int .i64 (ix : Nat)) := f1
  subst f1
  exact yld_run (x' := x) rfl (run_idx (tmp_eval t0) (tmp_eval t1) E.hi) (Q.refl x) rfl
theorem yM_3 {a0 : Act} {w : World} {BE BT ix T : Nat} {D : RNum} (E : EnvM a0 w BE BT ix T D) {R : Exit → Act → World → Prop} {a : Act} {x : World} (q : Q w x) (oth : ∀ j, j ∉ sM → a.tmps[j]? = a0.tmps[j]?) (dep : ∀ ed ∈ oM_3.after, Region.binds .any ed = true → ∀ t', sM[ed.on]? = some t' → ∃ v, a.tmps[t']? = some v ∧ specAt (spM BE BT ix T D) ed.on v x) : Yld Try.prog R oM_3 a x 110 (specAt (spM BE BT ix T D) 3) := by
  obtain ⟨v2, t2, f2⟩ := dep ⟨2, .data⟩ (by simp [oM_3]) rfl 109 rfl
  have f2 : v2 = (.pointer (some ⟨BT, ix, none⟩)) := f2
  subst f2
  exact yld_run (x' := x) rfl (run_u32 (tmp_eval t2) (q.cell E.ct)) (Q.refl x) rfl
theorem yM_4 {a0 : Act} {w : World} {BE BT ix T : Nat} {D : RNum} (E : EnvM a0 w BE BT ix T D) {R : Exit → Act → World → Prop} {a : Act} {x : World} (q : Q w x) (oth : ∀ j, j ∉ sM → a.tmps[j]? = a0.tmps[j]?) (dep : ∀ ed ∈ oM_4.after, Region.binds .any ed = true → ∀ t', sM[ed.on]? = some t' → ∃ v, a.tmps[t']? = some v ∧ specAt (spM BE BT ix T D) ed.on v x) : Yld Try.prog R oM_4 a x 111 (specAt (spM BE BT ix T D) 4) := by
  obtain ⟨v3, t3, f3⟩ := dep ⟨3, .data⟩ (by simp [oM_4]) rfl 110 rfl
  have f3 : v3 = (.int .u32 (T : Nat)) := f3
  subst f3
  refine yld_call (enters_of Try.func6 (by kernel_rfl) rfl) (args1 t3) ((E.cn x).mono ?_)
  rintro y x' ⟨rfl, rfl⟩
  exact ⟨_, rfl, Q.refl _, rfl⟩
theorem yM_5 {a0 : Act} {w : World} {BE BT ix T : Nat} {D : RNum} (E : EnvM a0 w BE BT ix T D) {R : Exit → Act → World → Prop} {a : Act} {x : World} (q : Q w x) (oth : ∀ j, j ∉ sM → a.tmps[j]? = a0.tmps[j]?) (dep : ∀ ed ∈ oM_5.after, Region.binds .any ed = true → ∀ t', sM[ed.on]? = some t' → ∃ v, a.tmps[t']? = some v ∧ specAt (spM BE BT ix T D) ed.on v x) : Yld Try.prog R oM_5 a x 112 (specAt (spM BE BT ix T D) 5) := by
  obtain ⟨v4, t4, f4⟩ := dep ⟨4, .data⟩ (by simp [oM_5]) rfl 111 rfl
  have f4 : v4 = (.bool false) := f4
  subst f4
  exact yld_move t4 rfl
theorem yM_6 {a0 : Act} {w : World} {BE BT ix T : Nat} {D : RNum} (E : EnvM a0 w BE BT ix T D) {R : Exit → Act → World → Prop} {a : Act} {x : World} (q : Q w x) (oth : ∀ j, j ∉ sM → a.tmps[j]? = a0.tmps[j]?) (dep : ∀ ed ∈ oM_6.after, Region.binds .any ed = true → ∀ t', sM[ed.on]? = some t' → ∃ v, a.tmps[t']? = some v ∧ specAt (spM BE BT ix T D) ed.on v x) : Yld Try.prog R oM_6 a x 113 (specAt (spM BE BT ix T D) 6) := by
  exact yld_move ((oth 16 (by decide)).trans E.h16) rfl
theorem yM_7 {a0 : Act} {w : World} {BE BT ix T : Nat} {D : RNum} (E : EnvM a0 w BE BT ix T D) {R : Exit → Act → World → Prop} {a : Act} {x : World} (q : Q w x) (oth : ∀ j, j ∉ sM → a.tmps[j]? = a0.tmps[j]?) (dep : ∀ ed ∈ oM_7.after, Region.binds .any ed = true → ∀ t', sM[ed.on]? = some t' → ∃ v, a.tmps[t']? = some v ∧ specAt (spM BE BT ix T D) ed.on v x) : Yld Try.prog R oM_7 a x 114 (specAt (spM BE BT ix T D) 7) := by
  exact yld_move ((oth 18 (by decide)).trans E.h18) rfl
theorem yM_8 {a0 : Act} {w : World} {BE BT ix T : Nat} {D : RNum} (E : EnvM a0 w BE BT ix T D) {R : Exit → Act → World → Prop} {a : Act} {x : World} (q : Q w x) (oth : ∀ j, j ∉ sM → a.tmps[j]? = a0.tmps[j]?) (dep : ∀ ed ∈ oM_8.after, Region.binds .any ed = true → ∀ t', sM[ed.on]? = some t' → ∃ v, a.tmps[t']? = some v ∧ specAt (spM BE BT ix T D) ed.on v x) : Yld Try.prog R oM_8 a x 115 (specAt (spM BE BT ix T D) 8) := by
  obtain ⟨v6, t6, f6⟩ := dep ⟨6, .data⟩ (by simp [oM_8]) rfl 113 rfl
  have f6 : v6 = (.slice (some ⟨BT, 0, none⟩) 4 4) := f6
  subst f6
  obtain ⟨v7, t7, f7⟩ := dep ⟨7, .data⟩ (by simp [oM_8]) rfl 114 rfl
  have f7 : v7 = (.int .i64 (ix : Nat)) := f7
  subst f7
  exact yld_run (x' := x) rfl (run_idx (tmp_eval t6) (tmp_eval t7) E.hi) (Q.refl x) rfl
theorem yM_9 {a0 : Act} {w : World} {BE BT ix T : Nat} {D : RNum} (E : EnvM a0 w BE BT ix T D) {R : Exit → Act → World → Prop} {a : Act} {x : World} (q : Q w x) (oth : ∀ j, j ∉ sM → a.tmps[j]? = a0.tmps[j]?) (dep : ∀ ed ∈ oM_9.after, Region.binds .any ed = true → ∀ t', sM[ed.on]? = some t' → ∃ v, a.tmps[t']? = some v ∧ specAt (spM BE BT ix T D) ed.on v x) : Yld Try.prog R oM_9 a x 116 (specAt (spM BE BT ix T D) 9) := by
  obtain ⟨v8, t8, f8⟩ := dep ⟨8, .data⟩ (by simp [oM_9]) rfl 115 rfl
  have f8 : v8 = (.pointer (some ⟨BT, ix, none⟩)) := f8
  subst f8
  exact yld_run (x' := x) rfl (run_u32 (tmp_eval t8) (q.cell E.ct)) (Q.refl x) rfl
theorem yM_10 {a0 : Act} {w : World} {BE BT ix T : Nat} {D : RNum} (E : EnvM a0 w BE BT ix T D) {R : Exit → Act → World → Prop} {a : Act} {x : World} (q : Q w x) (oth : ∀ j, j ∉ sM → a.tmps[j]? = a0.tmps[j]?) (dep : ∀ ed ∈ oM_10.after, Region.binds .any ed = true → ∀ t', sM[ed.on]? = some t' → ∃ v, a.tmps[t']? = some v ∧ specAt (spM BE BT ix T D) ed.on v x) : Yld Try.prog R oM_10 a x 117 (specAt (spM BE BT ix T D) 10) := by
  obtain ⟨v9, t9, f9⟩ := dep ⟨9, .data⟩ (by simp [oM_10]) rfl 116 rfl
  have f9 : v9 = (.int .u32 (T : Nat)) := f9
  subst f9
  refine yld_call (enters_of Try.func7 (by kernel_rfl) rfl) (args1 t9) ((E.ci x).mono ?_)
  rintro y x' ⟨rfl, rfl⟩
  exact ⟨_, rfl, Q.refl _, rfl⟩
theorem yM_11 {a0 : Act} {w : World} {BE BT ix T : Nat} {D : RNum} (E : EnvM a0 w BE BT ix T D) {R : Exit → Act → World → Prop} {a : Act} {x : World} (q : Q w x) (oth : ∀ j, j ∉ sM → a.tmps[j]? = a0.tmps[j]?) (dep : ∀ ed ∈ oM_11.after, Region.binds .any ed = true → ∀ t', sM[ed.on]? = some t' → ∃ v, a.tmps[t']? = some v ∧ specAt (spM BE BT ix T D) ed.on v x) : Yld Try.prog R oM_11 a x 118 (specAt (spM BE BT ix T D) 11) := by
  exact yld_move ((oth 20 (by decide)).trans E.h20) rfl
theorem yM_12 {a0 : Act} {w : World} {BE BT ix T : Nat} {D : RNum} (E : EnvM a0 w BE BT ix T D) {R : Exit → Act → World → Prop} {a : Act} {x : World} (q : Q w x) (oth : ∀ j, j ∉ sM → a.tmps[j]? = a0.tmps[j]?) (dep : ∀ ed ∈ oM_12.after, Region.binds .any ed = true → ∀ t', sM[ed.on]? = some t' → ∃ v, a.tmps[t']? = some v ∧ specAt (spM BE BT ix T D) ed.on v x) : Yld Try.prog R oM_12 a x 119 (specAt (spM BE BT ix T D) 12) := by
  obtain ⟨v10, t10, f10⟩ := dep ⟨10, .data⟩ (by simp [oM_12]) rfl 117 rfl
  have f10 : v10 = (.bool true) := f10
  subst f10
  obtain ⟨v11, t11, f11⟩ := dep ⟨11, .data⟩ (by simp [oM_12]) rfl 118 rfl
  have f11 : v11 = (.bool true) := f11
  subst f11
  exact yld_run (x' := x) rfl (run_neqb (tmp_eval t10) (tmp_eval t11)) (Q.refl x) rfl
theorem yM_13 {a0 : Act} {w : World} {BE BT ix T : Nat} {D : RNum} (E : EnvM a0 w BE BT ix T D) {R : Exit → Act → World → Prop} {a : Act} {x : World} (q : Q w x) (oth : ∀ j, j ∉ sM → a.tmps[j]? = a0.tmps[j]?) (dep : ∀ ed ∈ oM_13.after, Region.binds .any ed = true → ∀ t', sM[ed.on]? = some t' → ∃ v, a.tmps[t']? = some v ∧ specAt (spM BE BT ix T D) ed.on v x) : Yld Try.prog R oM_13 a x 120 (specAt (spM BE BT ix T D) 13) := by
  obtain ⟨v5, t5, f5⟩ := dep ⟨5, .data⟩ (by simp [oM_13]) rfl 112 rfl
  have f5 : v5 = (.bool false) := f5
  subst f5
  obtain ⟨v12, t12, f12⟩ := dep ⟨12, .data⟩ (by simp [oM_13]) rfl 119 rfl
  have f12 : v12 = (.bool false) := f12
  subst f12
  exact yld_run (x' := x) rfl (run_or (tmp_eval t5) (tmp_eval t12)) (Q.refl x) rfl
theorem yM_14 {a0 : Act} {w : World} {BE BT ix T : Nat} {D : RNum} (E : EnvM a0 w BE BT ix T D) {R : Exit → Act → World → Prop} {a : Act} {x : World} (q : Q w x) (oth : ∀ j, j ∉ sM → a.tmps[j]? = a0.tmps[j]?) (dep : ∀ ed ∈ oM_14.after, Region.binds .any ed = true → ∀ t', sM[ed.on]? = some t' → ∃ v, a.tmps[t']? = some v ∧ specAt (spM BE BT ix T D) ed.on v x) : Yld Try.prog R oM_14 a x 121 (specAt (spM BE BT ix T D) 14) := by
  obtain ⟨v13, t13, f13⟩ := dep ⟨13, .data⟩ (by simp [oM_14]) rfl 120 rfl
  have f13 : v13 = (.bool false) := f13
  subst f13
  exact yld_move t13 rfl
theorem yM_15 {a0 : Act} {w : World} {BE BT ix T : Nat} {D : RNum} (E : EnvM a0 w BE BT ix T D) {R : Exit → Act → World → Prop} {a : Act} {x : World} (q : Q w x) (oth : ∀ j, j ∉ sM → a.tmps[j]? = a0.tmps[j]?) (dep : ∀ ed ∈ oM_15.after, Region.binds .any ed = true → ∀ t', sM[ed.on]? = some t' → ∃ v, a.tmps[t']? = some v ∧ specAt (spM BE BT ix T D) ed.on v x) : Yld Try.prog R oM_15 a x 122 (specAt (spM BE BT ix T D) 15) := by
  exact yld_move ((oth 20 (by decide)).trans E.h20) rfl
theorem yM_16 {a0 : Act} {w : World} {BE BT ix T : Nat} {D : RNum} (E : EnvM a0 w BE BT ix T D) {R : Exit → Act → World → Prop} {a : Act} {x : World} (q : Q w x) (oth : ∀ j, j ∉ sM → a.tmps[j]? = a0.tmps[j]?) (dep : ∀ ed ∈ oM_16.after, Region.binds .any ed = true → ∀ t', sM[ed.on]? = some t' → ∃ v, a.tmps[t']? = some v ∧ specAt (spM BE BT ix T D) ed.on v x) : Yld Try.prog R oM_16 a x 123 (specAt (spM BE BT ix T D) 16) := by
  obtain ⟨v15, t15, f15⟩ := dep ⟨15, .data⟩ (by simp [oM_16]) rfl 122 rfl
  have f15 : v15 = (.bool true) := f15
  subst f15
  exact yld_run (x' := x) rfl (run_not (tmp_eval t15)) (Q.refl x) rfl
theorem yM_17 {a0 : Act} {w : World} {BE BT ix T : Nat} {D : RNum} (E : EnvM a0 w BE BT ix T D) {R : Exit → Act → World → Prop} {a : Act} {x : World} (q : Q w x) (oth : ∀ j, j ∉ sM → a.tmps[j]? = a0.tmps[j]?) (dep : ∀ ed ∈ oM_17.after, Region.binds .any ed = true → ∀ t', sM[ed.on]? = some t' → ∃ v, a.tmps[t']? = some v ∧ specAt (spM BE BT ix T D) ed.on v x) : Yld Try.prog R oM_17 a x 124 (specAt (spM BE BT ix T D) 17) := by
  obtain ⟨v16, t16, f16⟩ := dep ⟨16, .data⟩ (by simp [oM_17]) rfl 123 rfl
  have f16 : v16 = (.bool false) := f16
  subst f16
  exact yld_move t16 rfl
theorem yM_28 {a0 : Act} {w : World} {BE BT ix T : Nat} {D : RNum} (E : EnvM a0 w BE BT ix T D) {R : Exit → Act → World → Prop} {a : Act} {x : World} (q : Q w x) (oth : ∀ j, j ∉ sM → a.tmps[j]? = a0.tmps[j]?) (dep : ∀ ed ∈ oM_28.after, Region.binds .any ed = true → ∀ t', sM[ed.on]? = some t' → ∃ v, a.tmps[t']? = some v ∧ specAt (spM BE BT ix T D) ed.on v x) : Yld Try.prog R oM_28 a x 135 (specAt (spM BE BT ix T D) 28) := by
  obtain ⟨v17, t17, f17⟩ := dep ⟨17, .data⟩ (by simp [oM_28]) rfl 124 rfl
  have f17 : v17 = (.bool false) := f17
  subst f17
  exact yld_run (x' := x) rfl (run_and (tmp_eval t17) rfl) (Q.refl x) rfl
theorem yM_29 {a0 : Act} {w : World} {BE BT ix T : Nat} {D : RNum} (E : EnvM a0 w BE BT ix T D) {R : Exit → Act → World → Prop} {a : Act} {x : World} (q : Q w x) (oth : ∀ j, j ∉ sM → a.tmps[j]? = a0.tmps[j]?) (dep : ∀ ed ∈ oM_29.after, Region.binds .any ed = true → ∀ t', sM[ed.on]? = some t' → ∃ v, a.tmps[t']? = some v ∧ specAt (spM BE BT ix T D) ed.on v x) : Yld Try.prog R oM_29 a x 136 (specAt (spM BE BT ix T D) 29) := by
  obtain ⟨v14, t14, f14⟩ := dep ⟨14, .data⟩ (by simp [oM_29]) rfl 121 rfl
  have f14 : v14 = (.bool false) := f14
  subst f14
  obtain ⟨v28, t28, f28⟩ := dep ⟨28, .data⟩ (by simp [oM_29]) rfl 135 rfl
  have f28 : v28 = (.bool false) := f28
  subst f28
  exact yld_run (x' := x) rfl (run_or (tmp_eval t14) (tmp_eval t28)) (Q.refl x) rfl
theorem hopM {a0 : Act} {w : World} {BE BT ix T : Nat} {D : RNum} (E : EnvM a0 w BE BT ix T D) {R : Exit → Act → World → Prop} : ∀ (i t : Nat) (o : Oper) (a : Act) (x : World), skM i = false → sM[i]? = some t → opsM[i]? = some o → Q w x → (∀ j, j ∉ sM → a.tmps[j]? = a0.tmps[j]?) → (∀ ed ∈ o.after, Region.binds .any ed = true → ∀ t', sM[ed.on]? = some t' → ∃ v, a.tmps[t']? = some v ∧ specAt (spM BE BT ix T D) ed.on v x) → Yld Try.prog R o a x t (specAt (spM BE BT ix T D) i)
  | 0, t, o, a, x, hi, ht, ho, q, oth, dep => by
    have e1 : oM_0 = o := Option.some.inj ho
    have e2 : 107 = t := Option.some.inj ht
    subst e1 e2
    exact yM_0 E q oth dep
  | 1, t, o, a, x, hi, ht, ho, q, oth, dep => by
    have e1 : oM_1 = o := Option.some.inj ho
    have e2 : 108 = t := Option.some.inj ht
    subst e1 e2
    exact yM_1 E q oth dep
  | 2, t, o, a, x, hi, ht, ho, q, oth, dep => by
    have e1 : oM_2 = o := Option.some.inj ho
    have e2 : 109 = t := Option.some.inj ht
    subst e1 e2
    exact yM_2 E q oth dep
  | 3, t, o, a, x, hi, ht, ho, q, oth, dep => by
    have e1 : oM_3 = o := Option.some.inj ho
    have e2 : 110 = t := Option.some.inj ht
    subst e1 e2
    exact yM_3 E q oth dep
  | 4, t, o, a, x, hi, ht, ho, q, oth, dep => by
    have e1 : oM_4 = o := Option.some.inj ho
    have e2 : 111 = t := Option.some.inj ht
    subst e1 e2
    exact yM_4 E q oth dep
  | 5, t, o, a, x, hi, ht, ho, q, oth, dep => by
    have e1 : oM_5 = o := Option.some.inj ho
    have e2 : 112 = t := Option.some.inj ht
    subst e1 e2
    exact yM_5 E q oth dep
  | 6, t, o, a, x, hi, ht, ho, q, oth, dep => by
    have e1 : oM_6 = o := Option.some.inj ho
    have e2 : 113 = t := Option.some.inj ht
    subst e1 e2
    exact yM_6 E q oth dep
  | 7, t, o, a, x, hi, ht, ho, q, oth, dep => by
    have e1 : oM_7 = o := Option.some.inj ho
    have e2 : 114 = t := Option.some.inj ht
    subst e1 e2
    exact yM_7 E q oth dep
  | 8, t, o, a, x, hi, ht, ho, q, oth, dep => by
    have e1 : oM_8 = o := Option.some.inj ho
    have e2 : 115 = t := Option.some.inj ht
    subst e1 e2
    exact yM_8 E q oth dep
  | 9, t, o, a, x, hi, ht, ho, q, oth, dep => by
    have e1 : oM_9 = o := Option.some.inj ho
    have e2 : 116 = t := Option.some.inj ht
    subst e1 e2
    exact yM_9 E q oth dep
  | 10, t, o, a, x, hi, ht, ho, q, oth, dep => by
    have e1 : oM_10 = o := Option.some.inj ho
    have e2 : 117 = t := Option.some.inj ht
    subst e1 e2
    exact yM_10 E q oth dep
  | 11, t, o, a, x, hi, ht, ho, q, oth, dep => by
    have e1 : oM_11 = o := Option.some.inj ho
    have e2 : 118 = t := Option.some.inj ht
    subst e1 e2
    exact yM_11 E q oth dep
  | 12, t, o, a, x, hi, ht, ho, q, oth, dep => by
    have e1 : oM_12 = o := Option.some.inj ho
    have e2 : 119 = t := Option.some.inj ht
    subst e1 e2
    exact yM_12 E q oth dep
  | 13, t, o, a, x, hi, ht, ho, q, oth, dep => by
    have e1 : oM_13 = o := Option.some.inj ho
    have e2 : 120 = t := Option.some.inj ht
    subst e1 e2
    exact yM_13 E q oth dep
  | 14, t, o, a, x, hi, ht, ho, q, oth, dep => by
    have e1 : oM_14 = o := Option.some.inj ho
    have e2 : 121 = t := Option.some.inj ht
    subst e1 e2
    exact yM_14 E q oth dep
  | 15, t, o, a, x, hi, ht, ho, q, oth, dep => by
    have e1 : oM_15 = o := Option.some.inj ho
    have e2 : 122 = t := Option.some.inj ht
    subst e1 e2
    exact yM_15 E q oth dep
  | 16, t, o, a, x, hi, ht, ho, q, oth, dep => by
    have e1 : oM_16 = o := Option.some.inj ho
    have e2 : 123 = t := Option.some.inj ht
    subst e1 e2
    exact yM_16 E q oth dep
  | 17, t, o, a, x, hi, ht, ho, q, oth, dep => by
    have e1 : oM_17 = o := Option.some.inj ho
    have e2 : 124 = t := Option.some.inj ht
    subst e1 e2
    exact yM_17 E q oth dep
  | 18, t, o, a, x, hi, ht, ho, q, oth, dep => absurd hi (by decide)
  | 19, t, o, a, x, hi, ht, ho, q, oth, dep => absurd hi (by decide)
  | 20, t, o, a, x, hi, ht, ho, q, oth, dep => absurd hi (by decide)
  | 21, t, o, a, x, hi, ht, ho, q, oth, dep => absurd hi (by decide)
  | 22, t, o, a, x, hi, ht, ho, q, oth, dep => absurd hi (by decide)
  | 23, t, o, a, x, hi, ht, ho, q, oth, dep => absurd hi (by decide)
  | 24, t, o, a, x, hi, ht, ho, q, oth, dep => absurd hi (by decide)
  | 25, t, o, a, x, hi, ht, ho, q, oth, dep => absurd hi (by decide)
  | 26, t, o, a, x, hi, ht, ho, q, oth, dep => absurd hi (by decide)
  | 27, t, o, a, x, hi, ht, ho, q, oth, dep => absurd hi (by decide)
  | 28, t, o, a, x, hi, ht, ho, q, oth, dep => by
    have e1 : oM_28 = o := Option.some.inj ho
    have e2 : 135 = t := Option.some.inj ht
    subst e1 e2
    exact yM_28 E q oth dep
  | 29, t, o, a, x, hi, ht, ho, q, oth, dep => by
    have e1 : oM_29 = o := Option.some.inj ho
    have e2 : 136 = t := Option.some.inj ht
    subst e1 e2
    exact yM_29 E q oth dep
  | i + 30, t, o, a, x, hi, ht, ho, q, oth, dep => by cases ho
theorem keyM : ∀ i, i < 30 → ((opsM[i]?).bind (fun o : Oper => o.guard) = none ∧ skM i = false) ∨ ((opsM[i]?).bind (fun o : Oper => o.guard) = some (5, false) ∧ skM i = false) ∨ ((opsM[i]?).bind (fun o : Oper => o.guard) = some (14, false) ∧ skM i = false) ∨ ((opsM[i]?).bind (fun o : Oper => o.guard) = some (17, true) ∧ skM i = true) := by decide +kernel
theorem hguM {BE BT ix T : Nat} {D : RNum} : ∀ (i : Nat) (o : Oper) (g : Nat) (b : Bool), opsM[i]? = some o → o.guard = some (g, b) → ∀ v x, specAt (spM BE BT ix T D) g v x → (v = .bool b ↔ skM i = false) := by
  intro i o g b ho hg v x hf
  have h := keyM i (List.getElem?_eq_some_iff.1 ho).1
  rw [ho] at h
  simp only [Option.bind_some] at h
  rw [hg] at h
  rcases h with ⟨h, _⟩ | ⟨h, hs⟩ | ⟨h, hs⟩ | ⟨h, hs⟩
  · cases h
  · injection h with h
    injection h with h1 h2
    subst h1 h2
    have hv : v = .bool false := hf
    subst hv
    rw [hs]
    simp
  · injection h with h
    injection h with h1 h2
    subst h1 h2
    have hv : v = .bool false := hf
    subst hv
    rw [hs]
    simp
  · injection h with h
    injection h with h1 h2
    subst h1 h2
    have hv : v = .bool false := hf
    subst hv
    rw [hs]
    simp
theorem hgnM : ∀ (i : Nat) (o : Oper), opsM[i]? = some o → o.guard = none → skM i = false := by
  intro i o ho hg
  have h := keyM i (List.getElem?_eq_some_iff.1 ho).1
  rw [ho] at h
  simp only [Option.bind_some] at h
  rw [hg] at h
  rcases h with ⟨_, h⟩ | ⟨h, _⟩ | ⟨h, _⟩ | ⟨h, _⟩
  · exact h
  · cases h
  · cases h
  · cases h
theorem hskM {BE BT ix T : Nat} {D : RNum} : ∀ (i : Nat) (x : World), skM i = true → specAt (spM BE BT ix T D) i undef x := by
  intro i x h
  have h : i ∈ [18, 19, 20, 21, 22, 23, 24, 25, 26, 27] := by simpa [skM] using h
  simp only [List.mem_cons, List.not_mem_nil, or_false] at h
  rcases h with rfl | rfl | rfl | rfl | rfl | rfl | rfl | rfl | rfl | rfl <;> rfl
def spMB (BE BT ix T : Nat) (D : RNum) : List Spec := [spV (.slice (some ⟨BT, 0, none⟩) 4 4), spV (.int .i64 (ix : Nat)), spV (.pointer (some ⟨BT, ix, none⟩)), spV (.int .u32 (T : Nat)), spV (.bool false), spV (.bool false), spV (.slice (some ⟨BT, 0, none⟩) 4 4), spV (.int .i64 (ix : Nat)), spV (.pointer (some ⟨BT, ix, none⟩)), spV (.int .u32 (T : Nat)), spV (.bool false), spV (.bool false), spV (.bool false), spV (.bool false), spV (.bool false), spV (.bool false), spV (.bool true), spV (.bool true), spV (.slice (some ⟨BE, 0, none⟩) 4 4), spV (.int .i64 (ix : Nat)), spV (.pointer (some ⟨BE, ix * 5, none⟩)), numS D, spV (.slice (some ⟨BT, 0, none⟩) 4 4), spV (.int .i64 (ix : Nat)), spV (.pointer (some ⟨BT, ix, none⟩)), spV (.int .u32 (T : Nat)), spV (.bool true), spV (.bool false), spV (.bool false), spV (.bool false)]
structure EnvMB (a0 : Act) (w : World) (BE BT ix T : Nat) (D : RNum) : Prop where
  h15 : a0.tmps[15]? = some (.slice (some ⟨BE, 0, none⟩) 4 4)
  h16 : a0.tmps[16]? = some (.slice (some ⟨BT, 0, none⟩) 4 4)
  h18 : a0.tmps[18]? = some (.int .i64 (ix : Nat))
  h20 : a0.tmps[20]? = some (.bool false)
  hi : ix < 4
  ct : w.cell? ⟨BT, ix, none⟩ = some (.int .u32 (T : Nat))
  ex : ∃ k s p L C e m, w.cell? ⟨BE, ix * 5, none⟩ = some (.int .i64 k) ∧ w.cell? ⟨BE, ix * 5 + 1, none⟩ = some (.bool s) ∧ w.cell? ⟨BE, ix * 5 + 2, none⟩ = some (.slice p L C) ∧ w.cell? ⟨BE, ix * 5 + 3, none⟩ = some (.int .i64 e) ∧ w.cell? ⟨BE, ix * 5 + 4, none⟩ = some (.bool m) ∧ NumAt w (num5 k s p L C e m) D
  cn : ∀ x, Calls Try.prog 6 #[.int .u32 (T : Nat)] x fun e x' => e = .returned (.bool false) ∧ x' = x
  ci : ∀ x, Calls Try.prog 7 #[.int .u32 (T : Nat)] x fun e x' => e = .returned (.bool false) ∧ x' = x
  cs : ∀ v x, NumAt x v D → Calls Try.prog 18 #[v, .int .u32 (T : Nat)] x fun e x' => e = .returned (.bool true) ∧ Q x x'
def skMB (i : Nat) : Bool := [].contains i
theorem yMB_0 {a0 : Act} {w : World} {BE BT ix T : Nat} {D : RNum} (E : EnvMB a0 w BE BT ix T D) {R : Exit → Act → World → Prop} {a : Act} {x : World} (q : Q w x) (oth : ∀ j, j ∉ sM → a.tmps[j]? = a0.tmps[j]?) (dep : ∀ ed ∈ oM_0.after, Region.binds .any ed = true → ∀ t', sM[ed.on]? = some t' → ∃ v, a.tmps[t']? = some v ∧ specAt (spMB BE BT ix T D) ed.on v x) : Yld Try.prog R oM_0 a x 107 (specAt (spMB BE BT ix T D) 0) := by
  exact yld_move ((oth 16 (by decide)).trans E.h16) rfl
theorem yMB_1 {a0 : Act} {w : World} {BE BT ix T : Nat} {D : RNum} (E : EnvMB a0 w BE BT ix T D) {R : Exit → Act → World → Prop} {a : Act} {x : World} (q : Q w x) (oth : ∀ j, j ∉ sM → a.tmps[j]? = a0.tmps[j]?) (dep : ∀ ed ∈ oM_1.after, Region.binds .any ed = true → ∀ t', sM[ed.on]? = some t' → ∃ v, a.tmps[t']? = some v ∧ specAt (spMB BE BT ix T D) ed.on v x) : Yld Try.prog R oM_1 a x 108 (specAt (spMB BE BT ix T D) 1) := by
  exact yld_move ((oth 18 (by decide)).trans E.h18) rfl
theorem yMB_2 {a0 : Act} {w : World} {BE BT ix T : Nat} {D : RNum} (E : EnvMB a0 w BE BT ix T D) {R : Exit → Act → World → Prop} {a : Act} {x : World} (q : Q w x) (oth : ∀ j, j ∉ sM → a.tmps[j]? = a0.tmps[j]?) (dep : ∀ ed ∈ oM_2.after, Region.binds .any ed = true → ∀ t', sM[ed.on]? = some t' → ∃ v, a.tmps[t']? = some v ∧ specAt (spMB BE BT ix T D) ed.on v x) : Yld Try.prog R oM_2 a x 109 (specAt (spMB BE BT ix T D) 2) := by
  obtain ⟨v0, t0, f0⟩ := dep ⟨0, .data⟩ (by simp [oM_2]) rfl 107 rfl
  have f0 : v0 = (.slice (some ⟨BT, 0, none⟩) 4 4) := f0
  subst f0
  obtain ⟨v1, t1, f1⟩ := dep ⟨1, .data⟩ (by simp [oM_2]) rfl 108 rfl
  have f1 : v1 = (.int .i64 (ix : Nat)) := f1
  subst f1
  exact yld_run (x' := x) rfl (run_idx (tmp_eval t0) (tmp_eval t1) E.hi) (Q.refl x) rfl
theorem yMB_3 {a0 : Act} {w : World} {BE BT ix T : Nat} {D : RNum} (E : EnvMB a0 w BE BT ix T D) {R : Exit → Act → World → Prop} {a : Act} {x : World} (q : Q w x) (oth : ∀ j, j ∉ sM → a.tmps[j]? = a0.tmps[j]?) (dep : ∀ ed ∈ oM_3.after, Region.binds .any ed = true → ∀ t', sM[ed.on]? = some t' → ∃ v, a.tmps[t']? = some v ∧ specAt (spMB BE BT ix T D) ed.on v x) : Yld Try.prog R oM_3 a x 110 (specAt (spMB BE BT ix T D) 3) := by
  obtain ⟨v2, t2, f2⟩ := dep ⟨2, .data⟩ (by simp [oM_3]) rfl 109 rfl
  have f2 : v2 = (.pointer (some ⟨BT, ix, none⟩)) := f2
  subst f2
  exact yld_run (x' := x) rfl (run_u32 (tmp_eval t2) (q.cell E.ct)) (Q.refl x) rfl
theorem yMB_4 {a0 : Act} {w : World} {BE BT ix T : Nat} {D : RNum} (E : EnvMB a0 w BE BT ix T D) {R : Exit → Act → World → Prop} {a : Act} {x : World} (q : Q w x) (oth : ∀ j, j ∉ sM → a.tmps[j]? = a0.tmps[j]?) (dep : ∀ ed ∈ oM_4.after, Region.binds .any ed = true → ∀ t', sM[ed.on]? = some t' → ∃ v, a.tmps[t']? = some v ∧ specAt (spMB BE BT ix T D) ed.on v x) : Yld Try.prog R oM_4 a x 111 (specAt (spMB BE BT ix T D) 4) := by
  obtain ⟨v3, t3, f3⟩ := dep ⟨3, .data⟩ (by simp [oM_4]) rfl 110 rfl
  have f3 : v3 = (.int .u32 (T : Nat)) := f3
  subst f3
  refine yld_call (enters_of Try.func6 (by kernel_rfl) rfl) (args1 t3) ((E.cn x).mono ?_)
  rintro y x' ⟨rfl, rfl⟩
  exact ⟨_, rfl, Q.refl _, rfl⟩
theorem yMB_5 {a0 : Act} {w : World} {BE BT ix T : Nat} {D : RNum} (E : EnvMB a0 w BE BT ix T D) {R : Exit → Act → World → Prop} {a : Act} {x : World} (q : Q w x) (oth : ∀ j, j ∉ sM → a.tmps[j]? = a0.tmps[j]?) (dep : ∀ ed ∈ oM_5.after, Region.binds .any ed = true → ∀ t', sM[ed.on]? = some t' → ∃ v, a.tmps[t']? = some v ∧ specAt (spMB BE BT ix T D) ed.on v x) : Yld Try.prog R oM_5 a x 112 (specAt (spMB BE BT ix T D) 5) := by
  obtain ⟨v4, t4, f4⟩ := dep ⟨4, .data⟩ (by simp [oM_5]) rfl 111 rfl
  have f4 : v4 = (.bool false) := f4
  subst f4
  exact yld_move t4 rfl
theorem yMB_6 {a0 : Act} {w : World} {BE BT ix T : Nat} {D : RNum} (E : EnvMB a0 w BE BT ix T D) {R : Exit → Act → World → Prop} {a : Act} {x : World} (q : Q w x) (oth : ∀ j, j ∉ sM → a.tmps[j]? = a0.tmps[j]?) (dep : ∀ ed ∈ oM_6.after, Region.binds .any ed = true → ∀ t', sM[ed.on]? = some t' → ∃ v, a.tmps[t']? = some v ∧ specAt (spMB BE BT ix T D) ed.on v x) : Yld Try.prog R oM_6 a x 113 (specAt (spMB BE BT ix T D) 6) := by
  exact yld_move ((oth 16 (by decide)).trans E.h16) rfl
theorem yMB_7 {a0 : Act} {w : World} {BE BT ix T : Nat} {D : RNum} (E : EnvMB a0 w BE BT ix T D) {R : Exit → Act → World → Prop} {a : Act} {x : World} (q : Q w x) (oth : ∀ j, j ∉ sM → a.tmps[j]? = a0.tmps[j]?) (dep : ∀ ed ∈ oM_7.after, Region.binds .any ed = true → ∀ t', sM[ed.on]? = some t' → ∃ v, a.tmps[t']? = some v ∧ specAt (spMB BE BT ix T D) ed.on v x) : Yld Try.prog R oM_7 a x 114 (specAt (spMB BE BT ix T D) 7) := by
  exact yld_move ((oth 18 (by decide)).trans E.h18) rfl
theorem yMB_8 {a0 : Act} {w : World} {BE BT ix T : Nat} {D : RNum} (E : EnvMB a0 w BE BT ix T D) {R : Exit → Act → World → Prop} {a : Act} {x : World} (q : Q w x) (oth : ∀ j, j ∉ sM → a.tmps[j]? = a0.tmps[j]?) (dep : ∀ ed ∈ oM_8.after, Region.binds .any ed = true → ∀ t', sM[ed.on]? = some t' → ∃ v, a.tmps[t']? = some v ∧ specAt (spMB BE BT ix T D) ed.on v x) : Yld Try.prog R oM_8 a x 115 (specAt (spMB BE BT ix T D) 8) := by
  obtain ⟨v6, t6, f6⟩ := dep ⟨6, .data⟩ (by simp [oM_8]) rfl 113 rfl
  have f6 : v6 = (.slice (some ⟨BT, 0, none⟩) 4 4) := f6
  subst f6
  obtain ⟨v7, t7, f7⟩ := dep ⟨7, .data⟩ (by simp [oM_8]) rfl 114 rfl
  have f7 : v7 = (.int .i64 (ix : Nat)) := f7
  subst f7
  exact yld_run (x' := x) rfl (run_idx (tmp_eval t6) (tmp_eval t7) E.hi) (Q.refl x) rfl
theorem yMB_9 {a0 : Act} {w : World} {BE BT ix T : Nat} {D : RNum} (E : EnvMB a0 w BE BT ix T D) {R : Exit → Act → World → Prop} {a : Act} {x : World} (q : Q w x) (oth : ∀ j, j ∉ sM → a.tmps[j]? = a0.tmps[j]?) (dep : ∀ ed ∈ oM_9.after, Region.binds .any ed = true → ∀ t', sM[ed.on]? = some t' → ∃ v, a.tmps[t']? = some v ∧ specAt (spMB BE BT ix T D) ed.on v x) : Yld Try.prog R oM_9 a x 116 (specAt (spMB BE BT ix T D) 9) := by
  obtain ⟨v8, t8, f8⟩ := dep ⟨8, .data⟩ (by simp [oM_9]) rfl 115 rfl
  have f8 : v8 = (.pointer (some ⟨BT, ix, none⟩)) := f8
  subst f8
  exact yld_run (x' := x) rfl (run_u32 (tmp_eval t8) (q.cell E.ct)) (Q.refl x) rfl
theorem yMB_10 {a0 : Act} {w : World} {BE BT ix T : Nat} {D : RNum} (E : EnvMB a0 w BE BT ix T D) {R : Exit → Act → World → Prop} {a : Act} {x : World} (q : Q w x) (oth : ∀ j, j ∉ sM → a.tmps[j]? = a0.tmps[j]?) (dep : ∀ ed ∈ oM_10.after, Region.binds .any ed = true → ∀ t', sM[ed.on]? = some t' → ∃ v, a.tmps[t']? = some v ∧ specAt (spMB BE BT ix T D) ed.on v x) : Yld Try.prog R oM_10 a x 117 (specAt (spMB BE BT ix T D) 10) := by
  obtain ⟨v9, t9, f9⟩ := dep ⟨9, .data⟩ (by simp [oM_10]) rfl 116 rfl
  have f9 : v9 = (.int .u32 (T : Nat)) := f9
  subst f9
  refine yld_call (enters_of Try.func7 (by kernel_rfl) rfl) (args1 t9) ((E.ci x).mono ?_)
  rintro y x' ⟨rfl, rfl⟩
  exact ⟨_, rfl, Q.refl _, rfl⟩
theorem yMB_11 {a0 : Act} {w : World} {BE BT ix T : Nat} {D : RNum} (E : EnvMB a0 w BE BT ix T D) {R : Exit → Act → World → Prop} {a : Act} {x : World} (q : Q w x) (oth : ∀ j, j ∉ sM → a.tmps[j]? = a0.tmps[j]?) (dep : ∀ ed ∈ oM_11.after, Region.binds .any ed = true → ∀ t', sM[ed.on]? = some t' → ∃ v, a.tmps[t']? = some v ∧ specAt (spMB BE BT ix T D) ed.on v x) : Yld Try.prog R oM_11 a x 118 (specAt (spMB BE BT ix T D) 11) := by
  exact yld_move ((oth 20 (by decide)).trans E.h20) rfl
theorem yMB_12 {a0 : Act} {w : World} {BE BT ix T : Nat} {D : RNum} (E : EnvMB a0 w BE BT ix T D) {R : Exit → Act → World → Prop} {a : Act} {x : World} (q : Q w x) (oth : ∀ j, j ∉ sM → a.tmps[j]? = a0.tmps[j]?) (dep : ∀ ed ∈ oM_12.after, Region.binds .any ed = true → ∀ t', sM[ed.on]? = some t' → ∃ v, a.tmps[t']? = some v ∧ specAt (spMB BE BT ix T D) ed.on v x) : Yld Try.prog R oM_12 a x 119 (specAt (spMB BE BT ix T D) 12) := by
  obtain ⟨v10, t10, f10⟩ := dep ⟨10, .data⟩ (by simp [oM_12]) rfl 117 rfl
  have f10 : v10 = (.bool false) := f10
  subst f10
  obtain ⟨v11, t11, f11⟩ := dep ⟨11, .data⟩ (by simp [oM_12]) rfl 118 rfl
  have f11 : v11 = (.bool false) := f11
  subst f11
  exact yld_run (x' := x) rfl (run_neqb (tmp_eval t10) (tmp_eval t11)) (Q.refl x) rfl
theorem yMB_13 {a0 : Act} {w : World} {BE BT ix T : Nat} {D : RNum} (E : EnvMB a0 w BE BT ix T D) {R : Exit → Act → World → Prop} {a : Act} {x : World} (q : Q w x) (oth : ∀ j, j ∉ sM → a.tmps[j]? = a0.tmps[j]?) (dep : ∀ ed ∈ oM_13.after, Region.binds .any ed = true → ∀ t', sM[ed.on]? = some t' → ∃ v, a.tmps[t']? = some v ∧ specAt (spMB BE BT ix T D) ed.on v x) : Yld Try.prog R oM_13 a x 120 (specAt (spMB BE BT ix T D) 13) := by
  obtain ⟨v5, t5, f5⟩ := dep ⟨5, .data⟩ (by simp [oM_13]) rfl 112 rfl
  have f5 : v5 = (.bool false) := f5
  subst f5
  obtain ⟨v12, t12, f12⟩ := dep ⟨12, .data⟩ (by simp [oM_13]) rfl 119 rfl
  have f12 : v12 = (.bool false) := f12
  subst f12
  exact yld_run (x' := x) rfl (run_or (tmp_eval t5) (tmp_eval t12)) (Q.refl x) rfl
theorem yMB_14 {a0 : Act} {w : World} {BE BT ix T : Nat} {D : RNum} (E : EnvMB a0 w BE BT ix T D) {R : Exit → Act → World → Prop} {a : Act} {x : World} (q : Q w x) (oth : ∀ j, j ∉ sM → a.tmps[j]? = a0.tmps[j]?) (dep : ∀ ed ∈ oM_14.after, Region.binds .any ed = true → ∀ t', sM[ed.on]? = some t' → ∃ v, a.tmps[t']? = some v ∧ specAt (spMB BE BT ix T D) ed.on v x) : Yld Try.prog R oM_14 a x 121 (specAt (spMB BE BT ix T D) 14) := by
  obtain ⟨v13, t13, f13⟩ := dep ⟨13, .data⟩ (by simp [oM_14]) rfl 120 rfl
  have f13 : v13 = (.bool false) := f13
  subst f13
  exact yld_move t13 rfl
theorem yMB_15 {a0 : Act} {w : World} {BE BT ix T : Nat} {D : RNum} (E : EnvMB a0 w BE BT ix T D) {R : Exit → Act → World → Prop} {a : Act} {x : World} (q : Q w x) (oth : ∀ j, j ∉ sM → a.tmps[j]? = a0.tmps[j]?) (dep : ∀ ed ∈ oM_15.after, Region.binds .any ed = true → ∀ t', sM[ed.on]? = some t' → ∃ v, a.tmps[t']? = some v ∧ specAt (spMB BE BT ix T D) ed.on v x) : Yld Try.prog R oM_15 a x 122 (specAt (spMB BE BT ix T D) 15) := by
  exact yld_move ((oth 20 (by decide)).trans E.h20) rfl
theorem yMB_16 {a0 : Act} {w : World} {BE BT ix T : Nat} {D : RNum} (E : EnvMB a0 w BE BT ix T D) {R : Exit → Act → World → Prop} {a : Act} {x : World} (q : Q w x) (oth : ∀ j, j ∉ sM → a.tmps[j]? = a0.tmps[j]?) (dep : ∀ ed ∈ oM_16.after, Region.binds .any ed = true → ∀ t', sM[ed.on]? = some t' → ∃ v, a.tmps[t']? = some v ∧ specAt (spMB BE BT ix T D) ed.on v x) : Yld Try.prog R oM_16 a x 123 (specAt (spMB BE BT ix T D) 16) := by
  obtain ⟨v15, t15, f15⟩ := dep ⟨15, .data⟩ (by simp [oM_16]) rfl 122 rfl
  have f15 : v15 = (.bool false) := f15
  subst f15
  exact yld_run (x' := x) rfl (run_not (tmp_eval t15)) (Q.refl x) rfl
theorem yMB_17 {a0 : Act} {w : World} {BE BT ix T : Nat} {D : RNum} (E : EnvMB a0 w BE BT ix T D) {R : Exit → Act → World → Prop} {a : Act} {x : World} (q : Q w x) (oth : ∀ j, j ∉ sM → a.tmps[j]? = a0.tmps[j]?) (dep : ∀ ed ∈ oM_17.after, Region.binds .any ed = true → ∀ t', sM[ed.on]? = some t' → ∃ v, a.tmps[t']? = some v ∧ specAt (spMB BE BT ix T D) ed.on v x) : Yld Try.prog R oM_17 a x 124 (specAt (spMB BE BT ix T D) 17) := by
  obtain ⟨v16, t16, f16⟩ := dep ⟨16, .data⟩ (by simp [oM_17]) rfl 123 rfl
  have f16 : v16 = (.bool true) := f16
  subst f16
  exact yld_move t16 rfl
theorem yMB_18 {a0 : Act} {w : World} {BE BT ix T : Nat} {D : RNum} (E : EnvMB a0 w BE BT ix T D) {R : Exit → Act → World → Prop} {a : Act} {x : World} (q : Q w x) (oth : ∀ j, j ∉ sM → a.tmps[j]? = a0.tmps[j]?) (dep : ∀ ed ∈ oM_18.after, Region.binds .any ed = true → ∀ t', sM[ed.on]? = some t' → ∃ v, a.tmps[t']? = some v ∧ specAt (spMB BE BT ix T D) ed.on v x) : Yld Try.prog R oM_18 a x 125 (specAt (spMB BE BT ix T D) 18) := by
  exact yld_move ((oth 15 (by decide)).trans E.h15) rfl
theorem yMB_19 {a0 : Act} {w : World} {BE BT ix T : Nat} {D : RNum} (E : EnvMB a0 w BE BT ix T D) {R : Exit → Act → World → Prop} {a : Act} {x : World} (q : Q w x) (oth : ∀ j, j ∉ sM → a.tmps[j]? = a0.tmps[j]?) (dep : ∀ ed ∈ oM_19.after, Region.binds .any ed = true → ∀ t', sM[ed.on]? = some t' → ∃ v, a.tmps[t']? = some v ∧ specAt (spMB BE BT ix T D) ed.on v x) : Yld Try.prog R oM_19 a x 126 (specAt (spMB BE BT ix T D) 19) := by
  exact yld_move ((oth 18 (by decide)).trans E.h18) rfl
theorem yMB_20 {a0 : Act} {w : World} {BE BT ix T : Nat} {D : RNum} (E : EnvMB a0 w BE BT ix T D) {R : Exit → Act → World → Prop} {a : Act} {x : World} (q : Q w x) (oth : ∀ j, j ∉ sM → a.tmps[j]? = a0.tmps[j]?) (dep : ∀ ed ∈ oM_20.after, Region.binds .any ed = true → ∀ t', sM[ed.on]? = some t' → ∃ v, a.tmps[t']? = some v ∧ specAt (spMB BE BT ix T D) ed.on v x) : Yld Try.prog R oM_20 a x 127 (specAt (spMB BE BT ix T D) 20) := by
  obtain ⟨v18, t18, f18⟩ := dep ⟨18, .data⟩ (by simp [oM_20]) rfl 125 rfl
  have f18 : v18 = (.slice (some ⟨BE, 0, none⟩) 4 4) := f18
  subst f18
  obtain ⟨v19, t19, f19⟩ := dep ⟨19, .data⟩ (by simp [oM_20]) rfl 126 rfl
  have f19 : v19 = (.int .i64 (ix : Nat)) := f19
  subst f19
  exact yld_run (x' := x) rfl (run_idxn (tmp_eval t18) (tmp_eval t19) E.hi) (Q.refl x) rfl
theorem yMB_21 {a0 : Act} {w : World} {BE BT ix T : Nat} {D : RNum} (E : EnvMB a0 w BE BT ix T D) {R : Exit → Act → World → Prop} {a : Act} {x : World} (q : Q w x) (oth : ∀ j, j ∉ sM → a.tmps[j]? = a0.tmps[j]?) (dep : ∀ ed ∈ oM_21.after, Region.binds .any ed = true → ∀ t', sM[ed.on]? = some t' → ∃ v, a.tmps[t']? = some v ∧ specAt (spMB BE BT ix T D) ed.on v x) : Yld Try.prog R oM_21 a x 128 (specAt (spMB BE BT ix T D) 21) := by
  obtain ⟨v20, t20, f20⟩ := dep ⟨20, .data⟩ (by simp [oM_21]) rfl 127 rfl
  have f20 : v20 = (.pointer (some ⟨BE, ix * 5, none⟩)) := f20
  subst f20
  obtain ⟨k, s, p, L, C, e, m, c0, c1, c2, c3, c4, hn⟩ := E.ex
  exact yld_run (x' := x) rfl (run_numo (tmp_eval t20) (q.cell c0) (q.cell c1) (q.cell c2) (q.cell c3) (q.cell c4)) (Q.refl x) (q.num hn)
theorem yMB_22 {a0 : Act} {w : World} {BE BT ix T : Nat} {D : RNum} (E : EnvMB a0 w BE BT ix T D) {R : Exit → Act → World → Prop} {a : Act} {x : World} (q : Q w x) (oth : ∀ j, j ∉ sM → a.tmps[j]? = a0.tmps[j]?) (dep : ∀ ed ∈ oM_22.after, Region.binds .any ed = true → ∀ t', sM[ed.on]? = some t' → ∃ v, a.tmps[t']? = some v ∧ specAt (spMB BE BT ix T D) ed.on v x) : Yld Try.prog R oM_22 a x 129 (specAt (spMB BE BT ix T D) 22) := by
  exact yld_move ((oth 16 (by decide)).trans E.h16) rfl
theorem yMB_23 {a0 : Act} {w : World} {BE BT ix T : Nat} {D : RNum} (E : EnvMB a0 w BE BT ix T D) {R : Exit → Act → World → Prop} {a : Act} {x : World} (q : Q w x) (oth : ∀ j, j ∉ sM → a.tmps[j]? = a0.tmps[j]?) (dep : ∀ ed ∈ oM_23.after, Region.binds .any ed = true → ∀ t', sM[ed.on]? = some t' → ∃ v, a.tmps[t']? = some v ∧ specAt (spMB BE BT ix T D) ed.on v x) : Yld Try.prog R oM_23 a x 130 (specAt (spMB BE BT ix T D) 23) := by
  exact yld_move ((oth 18 (by decide)).trans E.h18) rfl
theorem yMB_24 {a0 : Act} {w : World} {BE BT ix T : Nat} {D : RNum} (E : EnvMB a0 w BE BT ix T D) {R : Exit → Act → World → Prop} {a : Act} {x : World} (q : Q w x) (oth : ∀ j, j ∉ sM → a.tmps[j]? = a0.tmps[j]?) (dep : ∀ ed ∈ oM_24.after, Region.binds .any ed = true → ∀ t', sM[ed.on]? = some t' → ∃ v, a.tmps[t']? = some v ∧ specAt (spMB BE BT ix T D) ed.on v x) : Yld Try.prog R oM_24 a x 131 (specAt (spMB BE BT ix T D) 24) := by
  obtain ⟨v22, t22, f22⟩ := dep ⟨22, .data⟩ (by simp [oM_24]) rfl 129 rfl
  have f22 : v22 = (.slice (some ⟨BT, 0, none⟩) 4 4) := f22
  subst f22
  obtain ⟨v23, t23, f23⟩ := dep ⟨23, .data⟩ (by simp [oM_24]) rfl 130 rfl
  have f23 : v23 = (.int .i64 (ix : Nat)) := f23
  subst f23
  exact yld_run (x' := x) rfl (run_idx (tmp_eval t22) (tmp_eval t23) E.hi) (Q.refl x) rfl
theorem yMB_25 {a0 : Act} {w : World} {BE BT ix T : Nat} {D : RNum} (E : EnvMB a0 w BE BT ix T D) {R : Exit → Act → World → Prop} {a : Act} {x : World} (q : Q w x) (oth : ∀ j, j ∉ sM → a.tmps[j]? = a0.tmps[j]?) (dep : ∀ ed ∈ oM_25.after, Region.binds .any ed = true → ∀ t', sM[ed.on]? = some t' → ∃ v, a.tmps[t']? = some v ∧ specAt (spMB BE BT ix T D) ed.on v x) : Yld Try.prog R oM_25 a x 132 (specAt (spMB BE BT ix T D) 25) := by
  obtain ⟨v24, t24, f24⟩ := dep ⟨24, .data⟩ (by simp [oM_25]) rfl 131 rfl
  have f24 : v24 = (.pointer (some ⟨BT, ix, none⟩)) := f24
  subst f24
  exact yld_run (x' := x) rfl (run_u32 (tmp_eval t24) (q.cell E.ct)) (Q.refl x) rfl
theorem yMB_26 {a0 : Act} {w : World} {BE BT ix T : Nat} {D : RNum} (E : EnvMB a0 w BE BT ix T D) {R : Exit → Act → World → Prop} {a : Act} {x : World} (q : Q w x) (oth : ∀ j, j ∉ sM → a.tmps[j]? = a0.tmps[j]?) (dep : ∀ ed ∈ oM_26.after, Region.binds .any ed = true → ∀ t', sM[ed.on]? = some t' → ∃ v, a.tmps[t']? = some v ∧ specAt (spMB BE BT ix T D) ed.on v x) : Yld Try.prog R oM_26 a x 133 (specAt (spMB BE BT ix T D) 26) := by
  obtain ⟨v21, t21, f21⟩ := dep ⟨21, .data⟩ (by simp [oM_26]) rfl 128 rfl
  have f21 : (numS D).p v21 x := f21
  obtain ⟨v25, t25, f25⟩ := dep ⟨25, .data⟩ (by simp [oM_26]) rfl 132 rfl
  have f25 : v25 = (.int .u32 (T : Nat)) := f25
  subst f25
  refine yld_call (enters_of Try.func18 (by kernel_rfl) rfl) (args2 t21 t25) ((E.cs v21 x f21).mono ?_)
  rintro y x' ⟨rfl, q'⟩
  exact ⟨_, rfl, q', rfl⟩
theorem yMB_27 {a0 : Act} {w : World} {BE BT ix T : Nat} {D : RNum} (E : EnvMB a0 w BE BT ix T D) {R : Exit → Act → World → Prop} {a : Act} {x : World} (q : Q w x) (oth : ∀ j, j ∉ sM → a.tmps[j]? = a0.tmps[j]?) (dep : ∀ ed ∈ oM_27.after, Region.binds .any ed = true → ∀ t', sM[ed.on]? = some t' → ∃ v, a.tmps[t']? = some v ∧ specAt (spMB BE BT ix T D) ed.on v x) : Yld Try.prog R oM_27 a x 134 (specAt (spMB BE BT ix T D) 27) := by
  obtain ⟨v26, t26, f26⟩ := dep ⟨26, .data⟩ (by simp [oM_27]) rfl 133 rfl
  have f26 : v26 = (.bool true) := f26
  subst f26
  exact yld_run (x' := x) rfl (run_not (tmp_eval t26)) (Q.refl x) rfl
theorem yMB_28 {a0 : Act} {w : World} {BE BT ix T : Nat} {D : RNum} (E : EnvMB a0 w BE BT ix T D) {R : Exit → Act → World → Prop} {a : Act} {x : World} (q : Q w x) (oth : ∀ j, j ∉ sM → a.tmps[j]? = a0.tmps[j]?) (dep : ∀ ed ∈ oM_28.after, Region.binds .any ed = true → ∀ t', sM[ed.on]? = some t' → ∃ v, a.tmps[t']? = some v ∧ specAt (spMB BE BT ix T D) ed.on v x) : Yld Try.prog R oM_28 a x 135 (specAt (spMB BE BT ix T D) 28) := by
  obtain ⟨v17, t17, f17⟩ := dep ⟨17, .data⟩ (by simp [oM_28]) rfl 124 rfl
  have f17 : v17 = (.bool true) := f17
  subst f17
  obtain ⟨v27, t27, f27⟩ := dep ⟨27, .data⟩ (by simp [oM_28]) rfl 134 rfl
  have f27 : v27 = (.bool false) := f27
  subst f27
  exact yld_pick t17 t27 rfl
theorem yMB_29 {a0 : Act} {w : World} {BE BT ix T : Nat} {D : RNum} (E : EnvMB a0 w BE BT ix T D) {R : Exit → Act → World → Prop} {a : Act} {x : World} (q : Q w x) (oth : ∀ j, j ∉ sM → a.tmps[j]? = a0.tmps[j]?) (dep : ∀ ed ∈ oM_29.after, Region.binds .any ed = true → ∀ t', sM[ed.on]? = some t' → ∃ v, a.tmps[t']? = some v ∧ specAt (spMB BE BT ix T D) ed.on v x) : Yld Try.prog R oM_29 a x 136 (specAt (spMB BE BT ix T D) 29) := by
  obtain ⟨v14, t14, f14⟩ := dep ⟨14, .data⟩ (by simp [oM_29]) rfl 121 rfl
  have f14 : v14 = (.bool false) := f14
  subst f14
  obtain ⟨v28, t28, f28⟩ := dep ⟨28, .data⟩ (by simp [oM_29]) rfl 135 rfl
  have f28 : v28 = (.bool false) := f28
  subst f28
  exact yld_run (x' := x) rfl (run_or (tmp_eval t14) (tmp_eval t28)) (Q.refl x) rfl
theorem hopMB {a0 : Act} {w : World} {BE BT ix T : Nat} {D : RNum} (E : EnvMB a0 w BE BT ix T D) {R : Exit → Act → World → Prop} : ∀ (i t : Nat) (o : Oper) (a : Act) (x : World), skMB i = false → sM[i]? = some t → opsM[i]? = some o → Q w x → (∀ j, j ∉ sM → a.tmps[j]? = a0.tmps[j]?) → (∀ ed ∈ o.after, Region.binds .any ed = true → ∀ t', sM[ed.on]? = some t' → ∃ v, a.tmps[t']? = some v ∧ specAt (spMB BE BT ix T D) ed.on v x) → Yld Try.prog R o a x t (specAt (spMB BE BT ix T D) i)
  | 0, t, o, a, x, hi, ht, ho, q, oth, dep => by
    have e1 : oM_0 = o := Option.some.inj ho
    have e2 : 107 = t := Option.some.inj ht
    subst e1 e2
    exact yMB_0 E q oth dep
  | 1, t, o, a, x, hi, ht, ho, q, oth, dep => by
    have e1 : oM_1 = o := Option.some.inj ho
    have e2 : 108 = t := Option.some.inj ht
    subst e1 e2
    exact yMB_1 E q oth dep
  | 2, t, o, a, x, hi, ht, ho, q, oth, dep => by
    have e1 : oM_2 = o := Option.some.inj ho
    have e2 : 109 = t := Option.some.inj ht
    subst e1 e2
    exact yMB_2 E q oth dep
  | 3, t, o, a, x, hi, ht, ho, q, oth, dep => by
    have e1 : oM_3 = o := Option.some.inj ho
    have e2 : 110 = t := Option.some.inj ht
    subst e1 e2
    exact yMB_3 E q oth dep
  | 4, t, o, a, x, hi, ht, ho, q, oth, dep => by
    have e1 : oM_4 = o := Option.some.inj ho
    have e2 : 111 = t := Option.some.inj ht
    subst e1 e2
    exact yMB_4 E q oth dep
  | 5, t, o, a, x, hi, ht, ho, q, oth, dep => by
    have e1 : oM_5 = o := Option.some.inj ho
    have e2 : 112 = t := Option.some.inj ht
    subst e1 e2
    exact yMB_5 E q oth dep
  | 6, t, o, a, x, hi, ht, ho, q, oth, dep => by
    have e1 : oM_6 = o := Option.some.inj ho
    have e2 : 113 = t := Option.some.inj ht
    subst e1 e2
    exact yMB_6 E q oth dep
  | 7, t, o, a, x, hi, ht, ho, q, oth, dep => by
    have e1 : oM_7 = o := Option.some.inj ho
    have e2 : 114 = t := Option.some.inj ht
    subst e1 e2
    exact yMB_7 E q oth dep
  | 8, t, o, a, x, hi, ht, ho, q, oth, dep => by
    have e1 : oM_8 = o := Option.some.inj ho
    have e2 : 115 = t := Option.some.inj ht
    subst e1 e2
    exact yMB_8 E q oth dep
  | 9, t, o, a, x, hi, ht, ho, q, oth, dep => by
    have e1 : oM_9 = o := Option.some.inj ho
    have e2 : 116 = t := Option.some.inj ht
    subst e1 e2
    exact yMB_9 E q oth dep
  | 10, t, o, a, x, hi, ht, ho, q, oth, dep => by
    have e1 : oM_10 = o := Option.some.inj ho
    have e2 : 117 = t := Option.some.inj ht
    subst e1 e2
    exact yMB_10 E q oth dep
  | 11, t, o, a, x, hi, ht, ho, q, oth, dep => by
    have e1 : oM_11 = o := Option.some.inj ho
    have e2 : 118 = t := Option.some.inj ht
    subst e1 e2
    exact yMB_11 E q oth dep
  | 12, t, o, a, x, hi, ht, ho, q, oth, dep => by
    have e1 : oM_12 = o := Option.some.inj ho
    have e2 : 119 = t := Option.some.inj ht
    subst e1 e2
    exact yMB_12 E q oth dep
  | 13, t, o, a, x, hi, ht, ho, q, oth, dep => by
    have e1 : oM_13 = o := Option.some.inj ho
    have e2 : 120 = t := Option.some.inj ht
    subst e1 e2
    exact yMB_13 E q oth dep
  | 14, t, o, a, x, hi, ht, ho, q, oth, dep => by
    have e1 : oM_14 = o := Option.some.inj ho
    have e2 : 121 = t := Option.some.inj ht
    subst e1 e2
    exact yMB_14 E q oth dep
  | 15, t, o, a, x, hi, ht, ho, q, oth, dep => by
    have e1 : oM_15 = o := Option.some.inj ho
    have e2 : 122 = t := Option.some.inj ht
    subst e1 e2
    exact yMB_15 E q oth dep
  | 16, t, o, a, x, hi, ht, ho, q, oth, dep => by
    have e1 : oM_16 = o := Option.some.inj ho
    have e2 : 123 = t := Option.some.inj ht
    subst e1 e2
    exact yMB_16 E q oth dep
  | 17, t, o, a, x, hi, ht, ho, q, oth, dep => by
    have e1 : oM_17 = o := Option.some.inj ho
    have e2 : 124 = t := Option.some.inj ht
    subst e1 e2
    exact yMB_17 E q oth dep
  | 18, t, o, a, x, hi, ht, ho, q, oth, dep => by
    have e1 : oM_18 = o := Option.some.inj ho
    have e2 : 125 = t := Option.some.inj ht
    subst e1 e2
    exact yMB_18 E q oth dep
  | 19, t, o, a, x, hi, ht, ho, q, oth, dep => by
    have e1 : oM_19 = o := Option.some.inj ho
    have e2 : 126 = t := Option.some.inj ht
    subst e1 e2
    exact yMB_19 E q oth dep
  | 20, t, o, a, x, hi, ht, ho, q, oth, dep => by
    have e1 : oM_20 = o := Option.some.inj ho
    have e2 : 127 = t := Option.some.inj ht
    subst e1 e2
    exact yMB_20 E q oth dep
  | 21, t, o, a, x, hi, ht, ho, q, oth, dep => by
    have e1 : oM_21 = o := Option.some.inj ho
    have e2 : 128 = t := Option.some.inj ht
    subst e1 e2
    exact yMB_21 E q oth dep
  | 22, t, o, a, x, hi, ht, ho, q, oth, dep => by
    have e1 : oM_22 = o := Option.some.inj ho
    have e2 : 129 = t := Option.some.inj ht
    subst e1 e2
    exact yMB_22 E q oth dep
  | 23, t, o, a, x, hi, ht, ho, q, oth, dep => by
    have e1 : oM_23 = o := Option.some.inj ho
    have e2 : 130 = t := Option.some.inj ht
    subst e1 e2
    exact yMB_23 E q oth dep
  | 24, t, o, a, x, hi, ht, ho, q, oth, dep => by
    have e1 : oM_24 = o := Option.some.inj ho
    have e2 : 131 = t := Option.some.inj ht
    subst e1 e2
    exact yMB_24 E q oth dep
  | 25, t, o, a, x, hi, ht, ho, q, oth, dep => by
    have e1 : oM_25 = o := Option.some.inj ho
    have e2 : 132 = t := Option.some.inj ht
    subst e1 e2
    exact yMB_25 E q oth dep
  | 26, t, o, a, x, hi, ht, ho, q, oth, dep => by
    have e1 : oM_26 = o := Option.some.inj ho
    have e2 : 133 = t := Option.some.inj ht
    subst e1 e2
    exact yMB_26 E q oth dep
  | 27, t, o, a, x, hi, ht, ho, q, oth, dep => by
    have e1 : oM_27 = o := Option.some.inj ho
    have e2 : 134 = t := Option.some.inj ht
    subst e1 e2
    exact yMB_27 E q oth dep
  | 28, t, o, a, x, hi, ht, ho, q, oth, dep => by
    have e1 : oM_28 = o := Option.some.inj ho
    have e2 : 135 = t := Option.some.inj ht
    subst e1 e2
    exact yMB_28 E q oth dep
  | 29, t, o, a, x, hi, ht, ho, q, oth, dep => by
    have e1 : oM_29 = o := Option.some.inj ho
    have e2 : 136 = t := Option.some.inj ht
    subst e1 e2
    exact yMB_29 E q oth dep
  | i + 30, t, o, a, x, hi, ht, ho, q, oth, dep => by cases ho
theorem keyMB : ∀ i, i < 30 → ((opsM[i]?).bind (fun o : Oper => o.guard) = none ∧ skMB i = false) ∨ ((opsM[i]?).bind (fun o : Oper => o.guard) = some (5, false) ∧ skMB i = false) ∨ ((opsM[i]?).bind (fun o : Oper => o.guard) = some (14, false) ∧ skMB i = false) ∨ ((opsM[i]?).bind (fun o : Oper => o.guard) = some (17, true) ∧ skMB i = false) := by decide +kernel
theorem hguMB {BE BT ix T : Nat} {D : RNum} : ∀ (i : Nat) (o : Oper) (g : Nat) (b : Bool), opsM[i]? = some o → o.guard = some (g, b) → ∀ v x, specAt (spMB BE BT ix T D) g v x → (v = .bool b ↔ skMB i = false) := by
  intro i o g b ho hg v x hf
  have h := keyMB i (List.getElem?_eq_some_iff.1 ho).1
  rw [ho] at h
  simp only [Option.bind_some] at h
  rw [hg] at h
  rcases h with ⟨h, _⟩ | ⟨h, hs⟩ | ⟨h, hs⟩ | ⟨h, hs⟩
  · cases h
  · injection h with h
    injection h with h1 h2
    subst h1 h2
    have hv : v = .bool false := hf
    subst hv
    rw [hs]
    simp
  · injection h with h
    injection h with h1 h2
    subst h1 h2
    have hv : v = .bool false := hf
    subst hv
    rw [hs]
    simp
  · injection h with h
    injection h with h1 h2
    subst h1 h2
    have hv : v = .bool true := hf
    subst hv
    rw [hs]
    simp
theorem hgnMB : ∀ (i : Nat) (o : Oper), opsM[i]? = some o → o.guard = none → skMB i = false := by
  intro i o ho hg
  have h := keyMB i (List.getElem?_eq_some_iff.1 ho).1
  rw [ho] at h
  simp only [Option.bind_some] at h
  rw [hg] at h
  rcases h with ⟨_, h⟩ | ⟨h, _⟩ | ⟨h, _⟩ | ⟨h, _⟩
  · exact h
  · cases h
  · cases h
  · cases h
theorem hskMB {BE BT ix T : Nat} {D : RNum} : ∀ (i : Nat) (x : World), skMB i = true → specAt (spMB BE BT ix T D) i undef x := by
  intro i x h
  cases h
theorem regionM {id : Nat} {l : List Oper} {R : Exit → Act → World → Prop} {a0 : Act} {w : World} {BE BT ix T : Nat} {D : RNum} (hl : l = opsM) (hsz : a0.tmps.size = 157) (E : EnvM a0 w BE BT ix T D)
    (hR : ∀ x (z : Nat → Value), Q w x → R .normal (putAll a0 [(107, z 107), (108, z 108), (109, z 109), (110, z 110), (111, z 111), (112, z 112), (113, z 113), (114, z 114), (115, z 115), (116, z 116), (117, z 117), (118, z 118), (119, z 119), (120, z 120), (121, z 121), (122, z 122), (123, z 123), (124, z 124), (125, z 125), (126, z 126), (127, z 127), (128, z 128), (129, z 129), (130, z 130), (131, z 131), (132, z 132), (133, z 133), (134, z 134), (135, z 135), (136, .bool false)]) x) :
    (Code.region id l.toArray true).wp Try.prog R a0 w := by
  subst hl
  refine wp_region_factsS sM (specAt (spM BE BT ix T D)) skM (by kernel_rfl) (by decide +kernel) (by decide) (fun t ht => ?_) specAt.next hguM hgnM hskM (hopM E) (fun a x q size defers other facts => ?_)
  · rw [hsz]
    revert t
    decide
  · have hx : ∀ t ∈ sM, ∃ v, a.tmps[t]? = some v := fun t ht => by
      obtain ⟨i, hi⟩ := List.getElem?_of_mem ht
      obtain ⟨v, hv, _⟩ := facts i t hi
      exact ⟨v, hv⟩
    obtain ⟨v, tl, fl⟩ := facts 29 136 rfl
    have fl : v = .bool false := fl
    subst fl
    have hu : ∀ t ∈ sM, a.tmps[t]? = some (a.tmps.getD t undef) := fun t ht => by
      obtain ⟨v, hv⟩ := hx t ht
      rw [Array.getD_eq_getD_getElem?, hv]; rfl
    have hA := act_puts (a := a) (a0 := a0) [(107, a.tmps.getD 107 undef), (108, a.tmps.getD 108 undef), (109, a.tmps.getD 109 undef), (110, a.tmps.getD 110 undef), (111, a.tmps.getD 111 undef), (112, a.tmps.getD 112 undef), (113, a.tmps.getD 113 undef), (114, a.tmps.getD 114 undef), (115, a.tmps.getD 115 undef), (116, a.tmps.getD 116 undef), (117, a.tmps.getD 117 undef), (118, a.tmps.getD 118 undef), (119, a.tmps.getD 119 undef), (120, a.tmps.getD 120 undef), (121, a.tmps.getD 121 undef), (122, a.tmps.getD 122 undef), (123, a.tmps.getD 123 undef), (124, a.tmps.getD 124 undef), (125, a.tmps.getD 125 undef), (126, a.tmps.getD 126 undef), (127, a.tmps.getD 127 undef), (128, a.tmps.getD 128 undef), (129, a.tmps.getD 129 undef), (130, a.tmps.getD 130 undef), (131, a.tmps.getD 131 undef), (132, a.tmps.getD 132 undef), (133, a.tmps.getD 133 undef), (134, a.tmps.getD 134 undef), (135, a.tmps.getD 135 undef), (136, .bool false)] (by show sM.Nodup; decide) size defers other (fun r hr => by
      have hr : r ∈ sM.dropLast.map (fun t => (t, a.tmps.getD t undef)) ++ [(136, .bool false)] := hr
      rcases List.mem_append.1 hr with hr | hr
      · obtain ⟨t, ht, rfl⟩ := List.mem_map.1 hr
        exact hu t (List.dropLast_subset _ ht)
      · rw [List.mem_singleton] at hr
        subst hr
        exact tl)
    refine ⟨?_⟩
    rw [hA]
    exact hR x (fun t => a.tmps.getD t undef) q
theorem regionMB {id : Nat} {l : List Oper} {R : Exit → Act → World → Prop} {a0 : Act} {w : World} {BE BT ix T : Nat} {D : RNum} (hl : l = opsM) (hsz : a0.tmps.size = 157) (E : EnvMB a0 w BE BT ix T D)
    (hR : ∀ x (z : Nat → Value), Q w x → R .normal (putAll a0 [(107, z 107), (108, z 108), (109, z 109), (110, z 110), (111, z 111), (112, z 112), (113, z 113), (114, z 114), (115, z 115), (116, z 116), (117, z 117), (118, z 118), (119, z 119), (120, z 120), (121, z 121), (122, z 122), (123, z 123), (124, z 124), (125, z 125), (126, z 126), (127, z 127), (128, z 128), (129, z 129), (130, z 130), (131, z 131), (132, z 132), (133, z 133), (134, z 134), (135, z 135), (136, .bool false)]) x) :
    (Code.region id l.toArray true).wp Try.prog R a0 w := by
  subst hl
  refine wp_region_factsS sM (specAt (spMB BE BT ix T D)) skMB (by kernel_rfl) (by decide +kernel) (by decide) (fun t ht => ?_) specAt.next hguMB hgnMB hskMB (hopMB E) (fun a x q size defers other facts => ?_)
  · rw [hsz]
    revert t
    decide
  · have hx : ∀ t ∈ sM, ∃ v, a.tmps[t]? = some v := fun t ht => by
      obtain ⟨i, hi⟩ := List.getElem?_of_mem ht
      obtain ⟨v, hv, _⟩ := facts i t hi
      exact ⟨v, hv⟩
    obtain ⟨v, tl, fl⟩ := facts 29 136 rfl
    have fl : v = .bool false := fl
    subst fl
    have hu : ∀ t ∈ sM, a.tmps[t]? = some (a.tmps.getD t undef) := fun t ht => by
      obtain ⟨v, hv⟩ := hx t ht
      rw [Array.getD_eq_getD_getElem?, hv]; rfl
    have hA := act_puts (a := a) (a0 := a0) [(107, a.tmps.getD 107 undef), (108, a.tmps.getD 108 undef), (109, a.tmps.getD 109 undef), (110, a.tmps.getD 110 undef), (111, a.tmps.getD 111 undef), (112, a.tmps.getD 112 undef), (113, a.tmps.getD 113 undef), (114, a.tmps.getD 114 undef), (115, a.tmps.getD 115 undef), (116, a.tmps.getD 116 undef), (117, a.tmps.getD 117 undef), (118, a.tmps.getD 118 undef), (119, a.tmps.getD 119 undef), (120, a.tmps.getD 120 undef), (121, a.tmps.getD 121 undef), (122, a.tmps.getD 122 undef), (123, a.tmps.getD 123 undef), (124, a.tmps.getD 124 undef), (125, a.tmps.getD 125 undef), (126, a.tmps.getD 126 undef), (127, a.tmps.getD 127 undef), (128, a.tmps.getD 128 undef), (129, a.tmps.getD 129 undef), (130, a.tmps.getD 130 undef), (131, a.tmps.getD 131 undef), (132, a.tmps.getD 132 undef), (133, a.tmps.getD 133 undef), (134, a.tmps.getD 134 undef), (135, a.tmps.getD 135 undef), (136, .bool false)] (by show sM.Nodup; decide) size defers other (fun r hr => by
      have hr : r ∈ sM.dropLast.map (fun t => (t, a.tmps.getD t undef)) ++ [(136, .bool false)] := hr
      rcases List.mem_append.1 hr with hr | hr
      · obtain ⟨t, ht, rfl⟩ := List.mem_map.1 hr
        exact hu t (List.dropLast_subset _ ht)
      · rw [List.mem_singleton] at hr
        subst hr
        exact tl)
    refine ⟨?_⟩
    rw [hA]
    exact hR x (fun t => a.tmps.getD t undef) q
def oZ_0 : Oper := { dst := some 137, op := .move (.tmp 15), type := 35, pos := "outright.go:97", after := #[], guard := none }
def oZ_1 : Oper := { dst := some 138, op := .move (.tmp 18), type := 3, pos := "outright.go:97", after := #[], guard := none }
def oZ_2 : Oper := { dst := some 139, op := .indexAddr 35 (.tmp 137) (.tmp 138), type := 0, pos := "outright.go:97", after := #[⟨0, .data⟩, ⟨1, .data⟩], guard := none }
def oZ_3 : Oper := { dst := some 140, op := .load 31 (.tmp 139), type := 31, pos := "outright.go:97", after := #[⟨2, .data⟩], guard := none }
def oZ_4 : Oper := { dst := some 141, op := .call { callee := .value (.func 19), args := #[.tmp 140], argTypes := #[31] }, type := 4, pos := "outright.go:97", after := #[⟨3, .data⟩], guard := none }
def oZ_5 : Oper := { dst := some 142, op := .unOp .not 4 (.tmp 141), type := 4, pos := "outright.go:97", after := #[⟨4, .data⟩], guard := none }
def oZ_6 : Oper := { dst := some 143, op := .move (.tmp 142), type := 4, pos := "outright.go:97", after := #[⟨5, .data⟩, ⟨4, .chain⟩], guard := none }
def oZ_7 : Oper := { dst := some 144, op := .move (.tmp 16), type := 28, pos := "outright.go:97", after := #[⟨6, .guard⟩], guard := some (6, true) }
def oZ_8 : Oper := { dst := some 145, op := .move (.tmp 18), type := 3, pos := "outright.go:97", after := #[⟨6, .guard⟩], guard := some (6, true) }
def oZ_9 : Oper := { dst := some 146, op := .indexAddr 28 (.tmp 144) (.tmp 145), type := 0, pos := "outright.go:97", after := #[⟨7, .data⟩, ⟨8, .data⟩, ⟨6, .guard⟩], guard := some (6, true) }
def oZ_10 : Oper := { dst := some 147, op := .load 22 (.tmp 146), type := 22, pos := "outright.go:97", after := #[⟨9, .data⟩, ⟨6, .guard⟩], guard := some (6, true) }
def oZ_11 : Oper := { dst := some 148, op := .binOp .shr 22 (.tmp 147) (.const (.int .u64 31)) 41, type := 22, pos := "outright.go:97", after := #[⟨10, .data⟩, ⟨6, .guard⟩], guard := some (6, true) }
def oZ_12 : Oper := { dst := some 149, op := .binOp .eql 22 (.tmp 148) (.const (.int .u32 1)) 22, type := 4, pos := "outright.go:97", after := #[⟨11, .data⟩, ⟨6, .guard⟩], guard := some (6, true) }
def oZ_13 : Oper := { dst := some 150, op := .move (.tmp 15), type := 35, pos := "outright.go:97", after := #[⟨6, .guard⟩], guard := some (6, true) }
def oZ_14 : Oper := { dst := some 151, op := .move (.tmp 18), type := 3, pos := "outright.go:97", after := #[⟨6, .guard⟩], guard := some (6, true) }
def oZ_15 : Oper := { dst := some 152, op := .indexAddr 35 (.tmp 150) (.tmp 151), type := 0, pos := "outright.go:97", after := #[⟨13, .data⟩, ⟨14, .data⟩, ⟨6, .guard⟩], guard := some (6, true) }
def oZ_16 : Oper := { dst := some 153, op := .fieldAddr 31 (.tmp 152) 1, type := 0, pos := "outright.go:97", after := #[⟨15, .data⟩, ⟨6, .guard⟩], guard := some (6, true) }
def oZ_17 : Oper := { dst := some 154, op := .load 4 (.tmp 153), type := 4, pos := "outright.go:97", after := #[⟨16, .data⟩, ⟨6, .guard⟩], guard := some (6, true) }
def oZ_18 : Oper := { dst := some 155, op := .binOp .neq 4 (.tmp 149) (.tmp 154) 4, type := 4, pos := "outright.go:97", after := #[⟨12, .data⟩, ⟨17, .data⟩, ⟨6, .guard⟩], guard := some (6, true) }
def oZ_19 : Oper := { dst := some 156, op := .pick (.tmp 143) (.tmp 155) (.const (.bool false)), type := 4, pos := "outright.go:97", after := #[⟨6, .data⟩, ⟨18, .data⟩], guard := none }
def opsZ : List Oper := [oZ_0, oZ_1, oZ_2, oZ_3, oZ_4, oZ_5, oZ_6, oZ_7, oZ_8, oZ_9, oZ_10, oZ_11, oZ_12, oZ_13, oZ_14, oZ_15, oZ_16, oZ_17, oZ_18, oZ_19]
def sZ : List Nat := [137, 138, 139, 140, 141, 142, 143, 144, 145, 146, 147, 148, 149, 150, 151, 152, 153, 154, 155, 156]
def spZ (BE BT ix T : Nat) (D : RNum) (σ : Bool) : List Spec := [spV (.slice (some ⟨BE, 0, none⟩) 4 4), spV (.int .i64 (ix : Nat)), spV (.pointer (some ⟨BE, ix * 5, none⟩)), numS D, spV (.bool true), spV (.bool false), spV (.bool false), spV undef, spV undef, spV undef, spV undef, spV undef, spV undef, spV undef, spV undef, spV undef, spV undef, spV undef, spV undef, spV (.bool false)]
structure EnvZ (a0 : Act) (w : World) (BE BT ix T : Nat) (D : RNum) (σ : Bool) : Prop where
  h15 : a0.tmps[15]? = some (.slice (some ⟨BE, 0, none⟩) 4 4)
  h16 : a0.tmps[16]? = some (.slice (some ⟨BT, 0, none⟩) 4 4)
  h18 : a0.tmps[18]? = some (.int .i64 (ix : Nat))
  hi : ix < 4
  ct : w.cell? ⟨BT, ix, none⟩ = some (.int .u32 (T : Nat))
  ex : ∃ k s p L C e m, w.cell? ⟨BE, ix * 5, none⟩ = some (.int .i64 k) ∧ w.cell? ⟨BE, ix * 5 + 1, none⟩ = some (.bool s) ∧ w.cell? ⟨BE, ix * 5 + 2, none⟩ = some (.slice p L C) ∧ w.cell? ⟨BE, ix * 5 + 3, none⟩ = some (.int .i64 e) ∧ w.cell? ⟨BE, ix * 5 + 4, none⟩ = some (.bool m) ∧ NumAt w (num5 k s p L C e m) D
  cz : ∀ v x, NumAt x v D → Calls Try.prog 19 #[v] x fun e x' => e = .returned (.bool true) ∧ Q x x'
  lT : T < 4294967296
  sT : sgn32 T = σ
  cσ : w.cell? ⟨BE, ix * 5 + 1, none⟩ = some (.bool σ)
def skZ (i : Nat) : Bool := [7, 8, 9, 10, 11, 12, 13, 14, 15, 16, 17, 18].contains i
theorem yZ_0 {a0 : Act} {w : World} {BE BT ix T : Nat} {D : RNum} {σ : Bool} (E : EnvZ a0 w BE BT ix T D σ) {R : Exit → Act → World → Prop} {a : Act} {x : World} (q : Q w x) (oth : ∀ j, j ∉ sZ → a.tmps[j]? = a0.tmps[j]?) (dep : ∀ ed ∈ oZ_0.after, Region.binds .any ed = true → ∀ t', sZ[ed.on]? = some t' → ∃ v, a.tmps[t']? = some v ∧ specAt (spZ BE BT ix T D σ) ed.on v x) : Yld Try.prog R oZ_0 a x 137 (specAt (spZ BE BT ix T D σ) 0) := by
  exact yld_move ((oth 15 (by decide)).trans E.h15) rfl
theorem yZ_1 {a0 : Act} {w : World} {BE BT ix T : Nat} {D : RNum} {σ : Bool} (E : EnvZ a0 w BE BT ix T D σ) {R : Exit → Act → World → Prop} {a : Act} {x : World} (q : Q w x) (oth : ∀ j, j ∉ sZ → a.tmps[j]? = a0.tmps[j]?) (dep : ∀ ed ∈ oZ_1.after, Region.binds .any ed = true → ∀ t', sZ[ed.on]? = some t' → ∃ v, a.tmps[t']? = some v ∧ specAt (spZ BE BT ix T D σ) ed.on v x) : Yld Try.prog R oZ_1 a x 138 (specAt (spZ BE BT ix T D σ) 1) := by
  exact yld_move ((oth 18 (by decide)).trans E.h18) rfl
theorem yZ_2 {a0 : Act} {w : World} {BE BT ix T : Nat} {D : RNum} {σ : Bool} (E : EnvZ a0 w BE BT ix T D σ) {R : Exit → Act → World → Prop} {a : Act} {x : World} (q : Q w x) (oth : ∀ j, j ∉ sZ → a.tmps[j]? = a0.tmps[j]?) (dep : ∀ ed ∈ oZ_2.after, Region.binds .any ed = true → ∀ t', sZ[ed.on]? = some t' → ∃ v, a.tmps[t']? = some v ∧ specAt (spZ BE BT ix T D σ) ed.on v x) : Yld Try.prog R oZ_2 a x 139 (specAt (spZ BE BT ix T D σ) 2) := by
  obtain ⟨v0, t0, f0⟩ := dep ⟨0, .data⟩ (by simp [oZ_2]) rfl 137 rfl
  have f0 : v0 = (.slice (some ⟨BE, 0, none⟩) 4 4) := f0
  subst f0
  obtain ⟨v1, t1, f1⟩ := dep ⟨1, .data⟩ (by simp [oZ_2]) rfl 138 rfl
  have f1 : v1 = (.int .i64 (ix : Nat)) := f1
  subst f1
  exact yld_run (x' := x) rfl (run_idxn (tmp_eval t0) (tmp_eval t1) E.hi) (Q.refl x) rfl
theorem yZ_3 {a0 : Act} {w : World} {BE BT ix T : Nat} {D : RNum} {σ : Bool} (E : EnvZ a0 w BE BT ix T D σ) {R : Exit → Act → World → Prop} {a : Act} {x : World} (q : Q w x) (oth : ∀ j, j ∉ sZ → a.tmps[j]? = a0.tmps[j]?) (dep : ∀ ed ∈ oZ_3.after, Region.binds .any ed = true → ∀ t', sZ[ed.on]? = some t' → ∃ v, a.tmps[t']? = some v ∧ specAt (spZ BE BT ix T D σ) ed.on v x) : Yld Try.prog R oZ_3 a x 140 (specAt (spZ BE BT ix T D σ) 3) := by
  obtain ⟨v2, t2, f2⟩ := dep ⟨2, .data⟩ (by simp [oZ_3]) rfl 139 rfl
  have f2 : v2 = (.pointer (some ⟨BE, ix * 5, none⟩)) := f2
  subst f2
  obtain ⟨k, s, p, L, C, e, m, c0, c1, c2, c3, c4, hn⟩ := E.ex
  exact yld_run (x' := x) rfl (run_numo (tmp_eval t2) (q.cell c0) (q.cell c1) (q.cell c2) (q.cell c3) (q.cell c4)) (Q.refl x) (q.num hn)
theorem yZ_4 {a0 : Act} {w : World} {BE BT ix T : Nat} {D : RNum} {σ : Bool} (E : EnvZ a0 w BE BT ix T D σ) {R : Exit → Act → World → Prop} {a : Act} {x : World} (q : Q w x) (oth : ∀ j, j ∉ sZ → a.tmps[j]? = a0.tmps[j]?) (dep : ∀ ed ∈ oZ_4.after, Region.binds .any ed = true → ∀ t', sZ[ed.on]? = some t' → ∃ v, a.tmps[t']? = some v ∧ specAt (spZ BE BT ix T D σ) ed.on v x) : Yld Try.prog R oZ_4 a x 141 (specAt (spZ BE BT ix T D σ) 4) := by
  obtain ⟨v3, t3, f3⟩ := dep ⟨3, .data⟩ (by simp [oZ_4]) rfl 140 rfl
  have f3 : (numS D).p v3 x := f3
  refine yld_call (enters_of Try.func19 (by kernel_rfl) rfl) (args1 t3) ((E.cz v3 x f3).mono ?_)
  rintro y x' ⟨rfl, q'⟩
  exact ⟨_, rfl, q', rfl⟩
theorem yZ_5 {a0 : Act} {w : World} {BE BT ix T : Nat} {D : RNum} {σ : Bool} (E : EnvZ a0 w BE BT ix T D σ) {R : Exit → Act → World → Prop} {a : Act} {x : World} (q : Q w x) (oth : ∀ j, j ∉ sZ → a.tmps[j]? = a0.tmps[j]?) (dep : ∀ ed ∈ oZ_5.after, Region.binds .any ed = true → ∀ t', sZ[ed.on]? = some t' → ∃ v, a.tmps[t']? = some v ∧ specAt (spZ BE BT ix T D σ) ed.on v x) : Yld Try.prog R oZ_5 a x 142 (specAt (spZ BE BT ix T D σ) 5) := by
  obtain ⟨v4, t4, f4⟩ := dep ⟨4, .data⟩ (by simp [oZ_5]) rfl 141 rfl
  have f4 : v4 = (.bool true) := f4
  subst f4
  exact yld_run (x' := x) rfl (run_not (tmp_eval t4)) (Q.refl x) rfl
theorem yZ_6 {a0 : Act} {w : World} {BE BT ix T : Nat} {D : RNum} {σ : Bool} (E : EnvZ a0 w BE BT ix T D σ) {R : Exit → Act → World → Prop} {a : Act} {x : World} (q : Q w x) (oth : ∀ j, j ∉ sZ → a.tmps[j]? = a0.tmps[j]?) (dep : ∀ ed ∈ oZ_6.after, Region.binds .any ed = true → ∀ t', sZ[ed.on]? = some t' → ∃ v, a.tmps[t']? = some v ∧ specAt (spZ BE BT ix T D σ) ed.on v x) : Yld Try.prog R oZ_6 a x 143 (specAt (spZ BE BT ix T D σ) 6) := by
  obtain ⟨v5, t5, f5⟩ := dep ⟨5, .data⟩ (by simp [oZ_6]) rfl 142 rfl
  have f5 : v5 = (.bool false) := f5
  subst f5
  exact yld_move t5 rfl
theorem yZ_19 {a0 : Act} {w : World} {BE BT ix T : Nat} {D : RNum} {σ : Bool} (E : EnvZ a0 w BE BT ix T D σ) {R : Exit → Act → World → Prop} {a : Act} {x : World} (q : Q w x) (oth : ∀ j, j ∉ sZ → a.tmps[j]? = a0.tmps[j]?) (dep : ∀ ed ∈ oZ_19.after, Region.binds .any ed = true → ∀ t', sZ[ed.on]? = some t' → ∃ v, a.tmps[t']? = some v ∧ specAt (spZ BE BT ix T D σ) ed.on v x) : Yld Try.prog R oZ_19 a x 156 (specAt (spZ BE BT ix T D σ) 19) := by
  obtain ⟨v6, t6, f6⟩ := dep ⟨6, .data⟩ (by simp [oZ_19]) rfl 143 rfl
  have f6 : v6 = (.bool false) := f6
  subst f6
  exact yld_run (x' := x) rfl (run_and (tmp_eval t6) rfl) (Q.refl x) rfl
theorem hopZ {a0 : Act} {w : World} {BE BT ix T : Nat} {D : RNum} {σ : Bool} (E : EnvZ a0 w BE BT ix T D σ) {R : Exit → Act → World → Prop} : ∀ (i t : Nat) (o : Oper) (a : Act) (x : World), skZ i = false → sZ[i]? = some t → opsZ[i]? = some o → Q w x → (∀ j, j ∉ sZ → a.tmps[j]? = a0.tmps[j]?) → (∀ ed ∈ o.after, Region.binds .any ed = true → ∀ t', sZ[ed.on]? = some t' → ∃ v, a.tmps[t']? = some v ∧ specAt (spZ BE BT ix T D σ) ed.on v x) → Yld Try.prog R o a x t (specAt (spZ BE BT ix T D σ) i)
  | 0, t, o, a, x, hi, ht, ho, q, oth, dep => by
    have e1 : oZ_0 = o := Option.some.inj ho
    have e2 : 137 = t := Option.some.inj ht
    subst e1 e2
    exact yZ_0 E q oth dep
  | 1, t, o, a, x, hi, ht, ho, q, oth, dep => by
    have e1 : oZ_1 = o := Option.some.inj ho
    have e2 : 138 = t := Option.some.inj ht
    subst e1 e2
    exact yZ_1 E q oth dep
  | 2, t, o, a, x, hi, ht, ho, q, oth, dep => by
    have e1 : oZ_2 = o := Option.some.inj ho
    have e2 : 139 = t := Option.some.inj ht
    subst e1 e2
    exact yZ_2 E q oth dep
  | 3, t, o, a, x, hi, ht, ho, q, oth, dep => by
    have e1 : oZ_3 = o := Option.some.inj ho
    have e2 : 140 = t := Option.some.inj ht
    subst e1 e2
    exact yZ_3 E q oth dep
  | 4, t, o, a, x, hi, ht, ho, q, oth, dep => by
    have e1 : oZ_4 = o := Option.some.inj ho
    have e2 : 141 = t := Option.some.inj ht
    subst e1 e2
    exact yZ_4 E q oth dep
  | 5, t, o, a, x, hi, ht, ho, q, oth, dep => by
    have e1 : oZ_5 = o := Option.some.inj ho
    have e2 : 142 = t := Option.some.inj ht
    subst e1 e2
    exact yZ_5 E q oth dep
  | 6, t, o, a, x, hi, ht, ho, q, oth, dep => by
    have e1 : oZ_6 = o := Option.some.inj ho
    have e2 : 143 = t := Option.some.inj ht
    subst e1 e2
    exact yZ_6 E q oth dep
  | 7, t, o, a, x, hi, ht, ho, q, oth, dep => absurd hi (by decide)
  | 8, t, o, a, x, hi, ht, ho, q, oth, dep => absurd hi (by decide)
  | 9, t, o, a, x, hi, ht, ho, q, oth, dep => absurd hi (by decide)
  | 10, t, o, a, x, hi, ht, ho, q, oth, dep => absurd hi (by decide)
  | 11, t, o, a, x, hi, ht, ho, q, oth, dep => absurd hi (by decide)
  | 12, t, o, a, x, hi, ht, ho, q, oth, dep => absurd hi (by decide)
  | 13, t, o, a, x, hi, ht, ho, q, oth, dep => absurd hi (by decide)
  | 14, t, o, a, x, hi, ht, ho, q, oth, dep => absurd hi (by decide)
  | 15, t, o, a, x, hi, ht, ho, q, oth, dep => absurd hi (by decide)
  | 16, t, o, a, x, hi, ht, ho, q, oth, dep => absurd hi (by decide)
  | 17, t, o, a, x, hi, ht, ho, q, oth, dep => absurd hi (by decide)
  | 18, t, o, a, x, hi, ht, ho, q, oth, dep => absurd hi (by decide)
  | 19, t, o, a, x, hi, ht, ho, q, oth, dep => by
    have e1 : oZ_19 = o := Option.some.inj ho
    have e2 : 156 = t := Option.some.inj ht
    subst e1 e2
    exact yZ_19 E q oth dep
  | i + 20, t, o, a, x, hi, ht, ho, q, oth, dep => by cases ho
theorem keyZ : ∀ i, i < 20 → ((opsZ[i]?).bind (fun o : Oper => o.guard) = none ∧ skZ i = false) ∨ ((opsZ[i]?).bind (fun o : Oper => o.guard) = some (6, true) ∧ skZ i = true) := by decide +kernel
theorem hguZ {BE BT ix T : Nat} {D : RNum} {σ : Bool} : ∀ (i : Nat) (o : Oper) (g : Nat) (b : Bool), opsZ[i]? = some o → o.guard = some (g, b) → ∀ v x, specAt (spZ BE BT ix T D σ) g v x → (v = .bool b ↔ skZ i = false) := by
  intro i o g b ho hg v x hf
  have h := keyZ i (List.getElem?_eq_some_iff.1 ho).1
  rw [ho] at h
  simp only [Option.bind_some] at h
  rw [hg] at h
  rcases h with ⟨h, _⟩ | ⟨h, hs⟩
  · cases h
  · injection h with h
    injection h with h1 h2
    subst h1 h2
    have hv : v = .bool false := hf
    subst hv
    rw [hs]
    simp
theorem hgnZ : ∀ (i : Nat) (o : Oper), opsZ[i]? = some o → o.guard = none → skZ i = false := by
  intro i o ho hg
  have h := keyZ i (List.getElem?_eq_some_iff.1 ho).1
  rw [ho] at h
  simp only [Option.bind_some] at h
  rw [hg] at h
  rcases h with ⟨_, h⟩ | ⟨h, _⟩
  · exact h
  · cases h
theorem hskZ {BE BT ix T : Nat} {D : RNum} {σ : Bool} : ∀ (i : Nat) (x : World), skZ i = true → specAt (spZ BE BT ix T D σ) i undef x := by
  intro i x h
  have h : i ∈ [7, 8, 9, 10, 11, 12, 13, 14, 15, 16, 17, 18] := by simpa [skZ] using h
  simp only [List.mem_cons, List.not_mem_nil, or_false] at h
  rcases h with rfl | rfl | rfl | rfl | rfl | rfl | rfl | rfl | rfl | rfl | rfl | rfl <;> rfl
def spZB (BE BT ix T : Nat) (D : RNum) (σ : Bool) : List Spec := [spV (.slice (some ⟨BE, 0, none⟩) 4 4), spV (.int .i64 (ix : Nat)), spV (.pointer (some ⟨BE, ix * 5, none⟩)), numS D, spV (.bool false), spV (.bool true), spV (.bool true), spV (.slice (some ⟨BT, 0, none⟩) 4 4), spV (.int .i64 (ix : Nat)), spV (.pointer (some ⟨BT, ix, none⟩)), spV (.int .u32 (T : Nat)), spV (.int .u32 (if σ = true then 1 else 0)), spV (.bool σ), spV (.slice (some ⟨BE, 0, none⟩) 4 4), spV (.int .i64 (ix : Nat)), spV (.pointer (some ⟨BE, ix * 5, none⟩)), spV (.pointer (some ⟨BE, ix * 5 + 1, none⟩)), spV (.bool σ), spV (.bool false), spV (.bool false)]
structure EnvZB (a0 : Act) (w : World) (BE BT ix T : Nat) (D : RNum) (σ : Bool) : Prop where
  h15 : a0.tmps[15]? = some (.slice (some ⟨BE, 0, none⟩) 4 4)
  h16 : a0.tmps[16]? = some (.slice (some ⟨BT, 0, none⟩) 4 4)
  h18 : a0.tmps[18]? = some (.int .i64 (ix : Nat))
  hi : ix < 4
  ct : w.cell? ⟨BT, ix, none⟩ = some (.int .u32 (T : Nat))
  ex : ∃ k s p L C e m, w.cell? ⟨BE, ix * 5, none⟩ = some (.int .i64 k) ∧ w.cell? ⟨BE, ix * 5 + 1, none⟩ = some (.bool s) ∧ w.cell? ⟨BE, ix * 5 + 2, none⟩ = some (.slice p L C) ∧ w.cell? ⟨BE, ix * 5 + 3, none⟩ = some (.int .i64 e) ∧ w.cell? ⟨BE, ix * 5 + 4, none⟩ = some (.bool m) ∧ NumAt w (num5 k s p L C e m) D
  cz : ∀ v x, NumAt x v D → Calls Try.prog 19 #[v] x fun e x' => e = .returned (.bool false) ∧ Q x x'
  lT : T < 4294967296
  sT : sgn32 T = σ
  cσ : w.cell? ⟨BE, ix * 5 + 1, none⟩ = some (.bool σ)
def skZB (i : Nat) : Bool := [].contains i
theorem yZB_0 {a0 : Act} {w : World} {BE BT ix T : Nat} {D : RNum} {σ : Bool} (E : EnvZB a0 w BE BT ix T D σ) {R : Exit → Act → World → Prop} {a : Act} {x : World} (q : Q w x) (oth : ∀ j, j ∉ sZ → a.tmps[j]? = a0.tmps[j]?) (dep : ∀ ed ∈ oZ_0.after, Region.binds .any ed = true → ∀ t', sZ[ed.on]? = some t' → ∃ v, a.tmps[t']? = some v ∧ specAt (spZB BE BT ix T D σ) ed.on v x) : Yld Try.prog R oZ_0 a x 137 (specAt (spZB BE BT ix T D σ) 0) := by
  exact yld_move ((oth 15 (by decide)).trans E.h15) rfl
theorem yZB_1 {a0 : Act} {w : World} {BE BT ix T : Nat} {D : RNum} {σ : Bool} (E : EnvZB a0 w BE BT ix T D σ) {R : Exit → Act → World → Prop} {a : Act} {x : World} (q : Q w x) (oth : ∀ j, j ∉ sZ → a.tmps[j]? = a0.tmps[j]?) (dep : ∀ ed ∈ oZ_1.after, Region.binds .any ed = true → ∀ t', sZ[ed.on]? = some t' → ∃ v, a.tmps[t']? = some v ∧ specAt (spZB BE BT ix T D σ) ed.on v x) : Yld Try.prog R oZ_1 a x 138 (specAt (spZB BE BT ix T D σ) 1) := by
  exact yld_move ((oth 18 (by decide)).trans E.h18) rfl
theorem yZB_2 {a0 : Act} {w : World} {BE BT ix T : Nat} {D : RNum} {σ : Bool} (E : EnvZB a0 w BE BT ix T D σ) {R : Exit → Act → World → Prop} {a : Act} {x : World} (q : Q w x) (oth : ∀ j, j ∉ sZ → a.tmps[j]? = a0.tmps[j]?) (dep : ∀ ed ∈ oZ_2.after, Region.binds .any ed = true → ∀ t', sZ[ed.on]? = some t' → ∃ v, a.tmps[t']? = some v ∧ specAt (spZB BE BT ix T D σ) ed.on v x) : Yld Try.prog R oZ_2 a x 139 (specAt (spZB BE BT ix T D σ) 2) := by
  obtain ⟨v0, t0, f0⟩ := dep ⟨0, .data⟩ (by simp [oZ_2]) rfl 137 rfl
  have f0 : v0 = (.slice (some ⟨BE, 0, none⟩) 4 4) := f0
  subst f0
  obtain ⟨v1, t1, f1⟩ := dep ⟨1, .data⟩ (by simp [oZ_2]) rfl 138 rfl
  have f1 : v1 = (.int .i64 (ix : Nat)) := f1
  subst f1
  exact yld_run (x' := x) rfl (run_idxn (tmp_eval t0) (tmp_eval t1) E.hi) (Q.refl x) rfl
theorem yZB_3 {a0 : Act} {w : World} {BE BT ix T : Nat} {D : RNum} {σ : Bool} (E : EnvZB a0 w BE BT ix T D σ) {R : Exit → Act → World → Prop} {a : Act} {x : World} (q : Q w x) (oth : ∀ j, j ∉ sZ → a.tmps[j]? = a0.tmps[j]?) (dep : ∀ ed ∈ oZ_3.after, Region.binds .any ed = true → ∀ t', sZ[ed.on]? = some t' → ∃ v, a.tmps[t']? = some v ∧ specAt (spZB BE BT ix T D σ) ed.on v x) : Yld Try.prog R oZ_3 a x 140 (specAt (spZB BE BT ix T D σ) 3) := by
  obtain ⟨v2, t2, f2⟩ := dep ⟨2, .data⟩ (by simp [oZ_3]) rfl 139 rfl
  have f2 : v2 = (.pointer (some ⟨BE, ix * 5, none⟩)) := f2
  subst f2
  obtain ⟨k, s, p, L, C, e, m, c0, c1, c2, c3, c4, hn⟩ := E.ex
  exact yld_run (x' := x) rfl (run_numo (tmp_eval t2) (q.cell c0) (q.cell c1) (q.cell c2) (q.cell c3) (q.cell c4)) (Q.refl x) (q.num hn)
theorem yZB_4 {a0 : Act} {w : World} {BE BT ix T : Nat} {D : RNum} {σ : Bool} (E : EnvZB a0 w BE BT ix T D σ) {R : Exit → Act → World → Prop} {a : Act} {x : World} (q : Q w x) (oth : ∀ j, j ∉ sZ → a.tmps[j]? = a0.tmps[j]?) (dep : ∀ ed ∈ oZ_4.after, Region.binds .any ed = true → ∀ t', sZ[ed.on]? = some t' → ∃ v, a.tmps[t']? = some v ∧ specAt (spZB BE BT ix T D σ) ed.on v x) : Yld Try.prog R oZ_4 a x 141 (specAt (spZB BE BT ix T D σ) 4) := by
  obtain ⟨v3, t3, f3⟩ := dep ⟨3, .data⟩ (by simp [oZ_4]) rfl 140 rfl
  have f3 : (numS D).p v3 x := f3
  refine yld_call (enters_of Try.func19 (by kernel_rfl) rfl) (args1 t3) ((E.cz v3 x f3).mono ?_)
  rintro y x' ⟨rfl, q'⟩
  exact ⟨_, rfl, q', rfl⟩
theorem yZB_5 {a0 : Act} {w : World} {BE BT ix T : Nat} {D : RNum} {σ : Bool} (E : EnvZB a0 w BE BT ix T D σ) {R : Exit → Act → World → Prop} {a : Act} {x : World} (q : Q w x) (oth : ∀ j, j ∉ sZ → a.tmps[j]? = a0.tmps[j]?) (dep : ∀ ed ∈ oZ_5.after, Region.binds .any ed = true → ∀ t', sZ[ed.on]? = some t' → ∃ v, a.tmps[t']? = some v ∧ specAt (spZB BE BT ix T D σ) ed.on v x) : Yld Try.prog R oZ_5 a x 142 (specAt (spZB BE BT ix T D σ) 5) := by
  obtain ⟨v4, t4, f4⟩ := dep ⟨4, .data⟩ (by simp [oZ_5]) rfl 141 rfl
  have f4 : v4 = (.bool false) := f4
  subst f4
  exact yld_run (x' := x) rfl (run_not (tmp_eval t4)) (Q.refl x) rfl
theorem yZB_6 {a0 : Act} {w : World} {BE BT ix T : Nat} {D : RNum} {σ : Bool} (E : EnvZB a0 w BE BT ix T D σ) {R : Exit → Act → World → Prop} {a : Act} {x : World} (q : Q w x) (oth : ∀ j, j ∉ sZ → a.tmps[j]? = a0.tmps[j]?) (dep : ∀ ed ∈ oZ_6.after, Region.binds .any ed = true → ∀ t', sZ[ed.on]? = some t' → ∃ v, a.tmps[t']? = some v ∧ specAt (spZB BE BT ix T D σ) ed.on v x) : Yld Try.prog R oZ_6 a x 143 (specAt (spZB BE BT ix T D σ) 6) := by
  obtain ⟨v5, t5, f5⟩ := dep ⟨5, .data⟩ (by simp [oZ_6]) rfl 142 rfl
  have f5 : v5 = (.bool true) := f5
  subst f5
  exact yld_move t5 rfl
theorem yZB_7 {a0 : Act} {w : World} {BE BT ix T : Nat} {D : RNum} {σ : Bool} (E : EnvZB a0 w BE BT ix T D σ) {R : Exit → Act → World → Prop} {a : Act} {x : World} (q : Q w x) (oth : ∀ j, j ∉ sZ → a.tmps[j]? = a0.tmps[j]?) (dep : ∀ ed ∈ oZ_7.after, Region.binds .any ed = true → ∀ t', sZ[ed.on]? = some t' → ∃ v, a.tmps[t']? = some v ∧ specAt (spZB BE BT ix T D σ) ed.on v x) : Yld Try.prog R oZ_7 a x 144 (specAt (spZB BE BT ix T D σ) 7) := by
  exact yld_move ((oth 16 (by decide)).trans E.h16) rfl
theorem yZB_8 {a0 : Act} {w : World} {BE BT ix T : Nat} {D : RNum} {σ : Bool} (E : EnvZB a0 w BE BT ix T D σ) {R : Exit → Act → World → Prop} {a : Act} {x : World} (q : Q w x) (oth : ∀ j, j ∉ sZ → a.tmps[j]? = a0.tmps[j]?) (dep : ∀ ed ∈ oZ_8.after, Region.binds .any ed = true → ∀ t', sZ[ed.on]? = some t' → ∃ v, a.tmps[t']? = some v ∧ specAt (spZB BE BT ix T D σ) ed.on v x) : Yld Try.prog R oZ_8 a x 145 (specAt (spZB BE BT ix T D σ) 8) := by
  exact yld_move ((oth 18 (by decide)).trans E.h18) rfl
theorem yZB_9 {a0 : Act} {w : World} {BE BT ix T : Nat} {D : RNum} {σ : Bool} (E : EnvZB a0 w BE BT ix T D σ) {R : Exit → Act → World → Prop} {a : Act} {x : World} (q : Q w x) (oth : ∀ j, j ∉ sZ → a.tmps[j]? = a0.tmps[j]?) (dep : ∀ ed ∈ oZ_9.after, Region.binds .any ed = true → ∀ t', sZ[ed.on]? = some t' → ∃ v, a.tmps[t']? = some v ∧ specAt (spZB BE BT ix T D σ) ed.on v x) : Yld Try.prog R oZ_9 a x 146 (specAt (spZB BE BT ix T D σ) 9) := by
  obtain ⟨v7, t7, f7⟩ := dep ⟨7, .data⟩ (by simp [oZ_9]) rfl 144 rfl
  have f7 : v7 = (.slice (some ⟨BT, 0, none⟩) 4 4) := f7
  subst f7
  obtain ⟨v8, t8, f8⟩ := dep ⟨8, .data⟩ (by simp [oZ_9]) rfl 145 rfl
  have f8 : v8 = (.int .i64 (ix : Nat)) := f8
  subst f8
  exact yld_run (x' := x) rfl (run_idx (tmp_eval t7) (tmp_eval t8) E.hi) (Q.refl x) rfl
theorem yZB_10 {a0 : Act} {w : World} {BE BT ix T : Nat} {D : RNum} {σ : Bool} (E : EnvZB a0 w BE BT ix T D σ) {R : Exit → Act → World → Prop} {a : Act} {x : World} (q : Q w x) (oth : ∀ j, j ∉ sZ → a.tmps[j]? = a0.tmps[j]?) (dep : ∀ ed ∈ oZ_10.after, Region.binds .any ed = true → ∀ t', sZ[ed.on]? = some t' → ∃ v, a.tmps[t']? = some v ∧ specAt (spZB BE BT ix T D σ) ed.on v x) : Yld Try.prog R oZ_10 a x 147 (specAt (spZB BE BT ix T D σ) 10) := by
  obtain ⟨v9, t9, f9⟩ := dep ⟨9, .data⟩ (by simp [oZ_10]) rfl 146 rfl
  have f9 : v9 = (.pointer (some ⟨BT, ix, none⟩)) := f9
  subst f9
  exact yld_run (x' := x) rfl (run_u32 (tmp_eval t9) (q.cell E.ct)) (Q.refl x) rfl
theorem yZB_11 {a0 : Act} {w : World} {BE BT ix T : Nat} {D : RNum} {σ : Bool} (E : EnvZB a0 w BE BT ix T D σ) {R : Exit → Act → World → Prop} {a : Act} {x : World} (q : Q w x) (oth : ∀ j, j ∉ sZ → a.tmps[j]? = a0.tmps[j]?) (dep : ∀ ed ∈ oZ_11.after, Region.binds .any ed = true → ∀ t', sZ[ed.on]? = some t' → ∃ v, a.tmps[t']? = some v ∧ specAt (spZB BE BT ix T D σ) ed.on v x) : Yld Try.prog R oZ_11 a x 148 (specAt (spZB BE BT ix T D σ) 11) := by
  obtain ⟨v10, t10, f10⟩ := dep ⟨10, .data⟩ (by simp [oZ_11]) rfl 147 rfl
  have f10 : v10 = (.int .u32 (T : Nat)) := f10
  subst f10
  exact yld_run (x' := x) (v := .int .u32 (if σ = true then 1 else 0)) rfl (by rw [← E.sT]; exact run_shr (tmp_eval t10) rfl E.lT) (Q.refl x) rfl
theorem yZB_12 {a0 : Act} {w : World} {BE BT ix T : Nat} {D : RNum} {σ : Bool} (E : EnvZB a0 w BE BT ix T D σ) {R : Exit → Act → World → Prop} {a : Act} {x : World} (q : Q w x) (oth : ∀ j, j ∉ sZ → a.tmps[j]? = a0.tmps[j]?) (dep : ∀ ed ∈ oZ_12.after, Region.binds .any ed = true → ∀ t', sZ[ed.on]? = some t' → ∃ v, a.tmps[t']? = some v ∧ specAt (spZB BE BT ix T D σ) ed.on v x) : Yld Try.prog R oZ_12 a x 149 (specAt (spZB BE BT ix T D σ) 12) := by
  obtain ⟨v11, t11, f11⟩ := dep ⟨11, .data⟩ (by simp [oZ_12]) rfl 148 rfl
  have f11 : v11 = (.int .u32 (if σ = true then 1 else 0)) := f11
  subst f11
  exact yld_run (x' := x) rfl (run_eq1 (tmp_eval t11) rfl) (Q.refl x) rfl
theorem yZB_13 {a0 : Act} {w : World} {BE BT ix T : Nat} {D : RNum} {σ : Bool} (E : EnvZB a0 w BE BT ix T D σ) {R : Exit → Act → World → Prop} {a : Act} {x : World} (q : Q w x) (oth : ∀ j, j ∉ sZ → a.tmps[j]? = a0.tmps[j]?) (dep : ∀ ed ∈ oZ_13.after, Region.binds .any ed = true → ∀ t', sZ[ed.on]? = some t' → ∃ v, a.tmps[t']? = some v ∧ specAt (spZB BE BT ix T D σ) ed.on v x) : Yld Try.prog R oZ_13 a x 150 (specAt (spZB BE BT ix T D σ) 13) := by
  exact yld_move ((oth 15 (by decide)).trans E.h15) rfl
theorem yZB_14 {a0 : Act} {w : World} {BE BT ix T : Nat} {D : RNum} {σ : Bool} (E : EnvZB a0 w BE BT ix T D σ) {R : Exit → Act → World → Prop} {a : Act} {x : World} (q : Q w x) (oth : ∀ j, j ∉ sZ → a.tmps[j]? = a0.tmps[j]?) (dep : ∀ ed ∈ oZ_14.after, Region.binds .any ed = true → ∀ t', sZ[ed.on]? = some t' → ∃ v, a.tmps[t']? = some v ∧ specAt (spZB BE BT ix T D σ) ed.on v x) : Yld Try.prog R oZ_14 a x 151 (specAt (spZB BE BT ix T D σ) 14) := by
  exact yld_move ((oth 18 (by decide)).trans E.h18) rfl
theorem yZB_15 {a0 : Act} {w : World} {BE BT ix T : Nat} {D : RNum} {σ : Bool} (E : EnvZB a0 w BE BT ix T D σ) {R : Exit → Act → World → Prop} {a : Act} {x : World} (q : Q w x) (oth : ∀ j, j ∉ sZ → a.tmps[j]? = a0.tmps[j]?) (dep : ∀ ed ∈ oZ_15.after, Region.binds .any ed = true → ∀ t', sZ[ed.on]? = some t' → ∃ v, a.tmps[t']? = some v ∧ specAt (spZB BE BT ix T D σ) ed.on v x) : Yld Try.prog R oZ_15 a x 152 (specAt (spZB BE BT ix T D σ) 15) := by
  obtain ⟨v13, t13, f13⟩ := dep ⟨13, .data⟩ (by simp [oZ_15]) rfl 150 rfl
  have f13 : v13 = (.slice (some ⟨BE, 0, none⟩) 4 4) := f13
  subst f13
  obtain ⟨v14, t14, f14⟩ := dep ⟨14, .data⟩ (by simp [oZ_15]) rfl 151 rfl
  have f14 : v14 = (.int .i64 (ix : Nat)) := f14
  subst f14
  exact yld_run (x' := x) rfl (run_idxn (tmp_eval t13) (tmp_eval t14) E.hi) (Q.refl x) rfl
theorem yZB_16 {a0 : Act} {w : World} {BE BT ix T : Nat} {D : RNum} {σ : Bool} (E : EnvZB a0 w BE BT ix T D σ) {R : Exit → Act → World → Prop} {a : Act} {x : World} (q : Q w x) (oth : ∀ j, j ∉ sZ → a.tmps[j]? = a0.tmps[j]?) (dep : ∀ ed ∈ oZ_16.after, Region.binds .any ed = true → ∀ t', sZ[ed.on]? = some t' → ∃ v, a.tmps[t']? = some v ∧ specAt (spZB BE BT ix T D σ) ed.on v x) : Yld Try.prog R oZ_16 a x 153 (specAt (spZB BE BT ix T D σ) 16) := by
  obtain ⟨v15, t15, f15⟩ := dep ⟨15, .data⟩ (by simp [oZ_16]) rfl 152 rfl
  have f15 : v15 = (.pointer (some ⟨BE, ix * 5, none⟩)) := f15
  subst f15
  exact yld_run (x' := x) rfl (run_fieldo (tmp_eval t15)) (Q.refl x) rfl
theorem yZB_17 {a0 : Act} {w : World} {BE BT ix T : Nat} {D : RNum} {σ : Bool} (E : EnvZB a0 w BE BT ix T D σ) {R : Exit → Act → World → Prop} {a : Act} {x : World} (q : Q w x) (oth : ∀ j, j ∉ sZ → a.tmps[j]? = a0.tmps[j]?) (dep : ∀ ed ∈ oZ_17.after, Region.binds .any ed = true → ∀ t', sZ[ed.on]? = some t' → ∃ v, a.tmps[t']? = some v ∧ specAt (spZB BE BT ix T D σ) ed.on v x) : Yld Try.prog R oZ_17 a x 154 (specAt (spZB BE BT ix T D σ) 17) := by
  obtain ⟨v16, t16, f16⟩ := dep ⟨16, .data⟩ (by simp [oZ_17]) rfl 153 rfl
  have f16 : v16 = (.pointer (some ⟨BE, ix * 5 + 1, none⟩)) := f16
  subst f16
  exact yld_run (x' := x) rfl (run_bool (tmp_eval t16) (q.cell E.cσ)) (Q.refl x) rfl
theorem yZB_18 {a0 : Act} {w : World} {BE BT ix T : Nat} {D : RNum} {σ : Bool} (E : EnvZB a0 w BE BT ix T D σ) {R : Exit → Act → World → Prop} {a : Act} {x : World} (q : Q w x) (oth : ∀ j, j ∉ sZ → a.tmps[j]? = a0.tmps[j]?) (dep : ∀ ed ∈ oZ_18.after, Region.binds .any ed = true → ∀ t', sZ[ed.on]? = some t' → ∃ v, a.tmps[t']? = some v ∧ specAt (spZB BE BT ix T D σ) ed.on v x) : Yld Try.prog R oZ_18 a x 155 (specAt (spZB BE BT ix T D σ) 18) := by
  obtain ⟨v12, t12, f12⟩ := dep ⟨12, .data⟩ (by simp [oZ_18]) rfl 149 rfl
  have f12 : v12 = (.bool σ) := f12
  subst f12
  obtain ⟨v17, t17, f17⟩ := dep ⟨17, .data⟩ (by simp [oZ_18]) rfl 154 rfl
  have f17 : v17 = (.bool σ) := f17
  subst f17
  refine yld_run (x' := x) rfl (run_neqb (tmp_eval t12) (tmp_eval t17)) (Q.refl x) ?_
  show Value.bool (σ != σ) = .bool false
  cases σ <;> rfl
theorem yZB_19 {a0 : Act} {w : World} {BE BT ix T : Nat} {D : RNum} {σ : Bool} (E : EnvZB a0 w BE BT ix T D σ) {R : Exit → Act → World → Prop} {a : Act} {x : World} (q : Q w x) (oth : ∀ j, j ∉ sZ → a.tmps[j]? = a0.tmps[j]?) (dep : ∀ ed ∈ oZ_19.after, Region.binds .any ed = true → ∀ t', sZ[ed.on]? = some t' → ∃ v, a.tmps[t']? = some v ∧ specAt (spZB BE BT ix T D σ) ed.on v x) : Yld Try.prog R oZ_19 a x 156 (specAt (spZB BE BT ix T D σ) 19) := by
  obtain ⟨v6, t6, f6⟩ := dep ⟨6, .data⟩ (by simp [oZ_19]) rfl 143 rfl
  have f6 : v6 = (.bool true) := f6
  subst f6
  obtain ⟨v18, t18, f18⟩ := dep ⟨18, .data⟩ (by simp [oZ_19]) rfl 155 rfl
  have f18 : v18 = (.bool false) := f18
  subst f18
  exact yld_pick t6 t18 rfl
theorem hopZB {a0 : Act} {w : World} {BE BT ix T : Nat} {D : RNum} {σ : Bool} (E : EnvZB a0 w BE BT ix T D σ) {R : Exit → Act → World → Prop} : ∀ (i t : Nat) (o : Oper) (a : Act) (x : World), skZB i = false → sZ[i]? = some t → opsZ[i]? = some o → Q w x → (∀ j, j ∉ sZ → a.tmps[j]? = a0.tmps[j]?) → (∀ ed ∈ o.after, Region.binds .any ed = true → ∀ t', sZ[ed.on]? = some t' → ∃ v, a.tmps[t']? = some v ∧ specAt (spZB BE BT ix T D σ) ed.on v x) → Yld Try.prog R o a x t (specAt (spZB BE BT ix T D σ) i)
  | 0, t, o, a, x, hi, ht, ho, q, oth, dep => by
    have e1 : oZ_0 = o := Option.some.inj ho
    have e2 : 137 = t := Option.some.inj ht
    subst e1 e2
    exact yZB_0 E q oth dep
  | 1, t, o, a, x, hi, ht, ho, q, oth, dep => by
    have e1 : oZ_1 = o := Option.some.inj ho
    have e2 : 138 = t := Option.some.inj ht
    subst e1 e2
    exact yZB_1 E q oth dep
  | 2, t, o, a, x, hi, ht, ho, q, oth, dep => by
    have e1 : oZ_2 = o := Option.some.inj ho
    have e2 : 139 = t := Option.some.inj ht
    subst e1 e2
    exact yZB_2 E q oth dep
  | 3, t, o, a, x, hi, ht, ho, q, oth, dep => by
    have e1 : oZ_3 = o := Option.some.inj ho
    have e2 : 140 = t := Option.some.inj ht
    subst e1 e2
    exact yZB_3 E q oth dep
  | 4, t, o, a, x, hi, ht, ho, q, oth, dep => by
    have e1 : oZ_4 = o := Option.some.inj ho
    have e2 : 141 = t := Option.some.inj ht
    subst e1 e2
    exact yZB_4 E q oth dep
  | 5, t, o, a, x, hi, ht, ho, q, oth, dep => by
    have e1 : oZ_5 = o := Option.some.inj ho
    have e2 : 142 = t := Option.some.inj ht
    subst e1 e2
    exact yZB_5 E q oth dep
  | 6, t, o, a, x, hi, ht, ho, q, oth, dep => by
    have e1 : oZ_6 = o := Option.some.inj ho
    have e2 : 143 = t := Option.some.inj ht
    subst e1 e2
    exact yZB_6 E q oth dep
  | 7, t, o, a, x, hi, ht, ho, q, oth, dep => by
    have e1 : oZ_7 = o := Option.some.inj ho
    have e2 : 144 = t := Option.some.inj ht
    subst e1 e2
    exact yZB_7 E q oth dep
  | 8, t, o, a, x, hi, ht, ho, q, oth, dep => by
    have e1 : oZ_8 = o := Option.some.inj ho
    have e2 : 145 = t := Option.some.inj ht
    subst e1 e2
    exact yZB_8 E q oth dep
  | 9, t, o, a, x, hi, ht, ho, q, oth, dep => by
    have e1 : oZ_9 = o := Option.some.inj ho
    have e2 : 146 = t := Option.some.inj ht
    subst e1 e2
    exact yZB_9 E q oth dep
  | 10, t, o, a, x, hi, ht, ho, q, oth, dep => by
    have e1 : oZ_10 = o := Option.some.inj ho
    have e2 : 147 = t := Option.some.inj ht
    subst e1 e2
    exact yZB_10 E q oth dep
  | 11, t, o, a, x, hi, ht, ho, q, oth, dep => by
    have e1 : oZ_11 = o := Option.some.inj ho
    have e2 : 148 = t := Option.some.inj ht
    subst e1 e2
    exact yZB_11 E q oth dep
  | 12, t, o, a, x, hi, ht, ho, q, oth, dep => by
    have e1 : oZ_12 = o := Option.some.inj ho
    have e2 : 149 = t := Option.some.inj ht
    subst e1 e2
    exact yZB_12 E q oth dep
  | 13, t, o, a, x, hi, ht, ho, q, oth, dep => by
    have e1 : oZ_13 = o := Option.some.inj ho
    have e2 : 150 = t := Option.some.inj ht
    subst e1 e2
    exact yZB_13 E q oth dep
  | 14, t, o, a, x, hi, ht, ho, q, oth, dep => by
    have e1 : oZ_14 = o := Option.some.inj ho
    have e2 : 151 = t := Option.some.inj ht
    subst e1 e2
    exact yZB_14 E q oth dep
  | 15, t, o, a, x, hi, ht, ho, q, oth, dep => by
    have e1 : oZ_15 = o := Option.some.inj ho
    have e2 : 152 = t := Option.some.inj ht
    subst e1 e2
    exact yZB_15 E q oth dep
  | 16, t, o, a, x, hi, ht, ho, q, oth, dep => by
    have e1 : oZ_16 = o := Option.some.inj ho
    have e2 : 153 = t := Option.some.inj ht
    subst e1 e2
    exact yZB_16 E q oth dep
  | 17, t, o, a, x, hi, ht, ho, q, oth, dep => by
    have e1 : oZ_17 = o := Option.some.inj ho
    have e2 : 154 = t := Option.some.inj ht
    subst e1 e2
    exact yZB_17 E q oth dep
  | 18, t, o, a, x, hi, ht, ho, q, oth, dep => by
    have e1 : oZ_18 = o := Option.some.inj ho
    have e2 : 155 = t := Option.some.inj ht
    subst e1 e2
    exact yZB_18 E q oth dep
  | 19, t, o, a, x, hi, ht, ho, q, oth, dep => by
    have e1 : oZ_19 = o := Option.some.inj ho
    have e2 : 156 = t := Option.some.inj ht
    subst e1 e2
    exact yZB_19 E q oth dep
  | i + 20, t, o, a, x, hi, ht, ho, q, oth, dep => by cases ho
theorem keyZB : ∀ i, i < 20 → ((opsZ[i]?).bind (fun o : Oper => o.guard) = none ∧ skZB i = false) ∨ ((opsZ[i]?).bind (fun o : Oper => o.guard) = some (6, true) ∧ skZB i = false) := by decide +kernel
theorem hguZB {BE BT ix T : Nat} {D : RNum} {σ : Bool} : ∀ (i : Nat) (o : Oper) (g : Nat) (b : Bool), opsZ[i]? = some o → o.guard = some (g, b) → ∀ v x, specAt (spZB BE BT ix T D σ) g v x → (v = .bool b ↔ skZB i = false) := by
  intro i o g b ho hg v x hf
  have h := keyZB i (List.getElem?_eq_some_iff.1 ho).1
  rw [ho] at h
  simp only [Option.bind_some] at h
  rw [hg] at h
  rcases h with ⟨h, _⟩ | ⟨h, hs⟩
  · cases h
  · injection h with h
    injection h with h1 h2
    subst h1 h2
    have hv : v = .bool true := hf
    subst hv
    rw [hs]
    simp
theorem hgnZB : ∀ (i : Nat) (o : Oper), opsZ[i]? = some o → o.guard = none → skZB i = false := by
  intro i o ho hg
  have h := keyZB i (List.getElem?_eq_some_iff.1 ho).1
  rw [ho] at h
  simp only [Option.bind_some] at h
  rw [hg] at h
  rcases h with ⟨_, h⟩ | ⟨h, _⟩
  · exact h
  · cases h
theorem hskZB {BE BT ix T : Nat} {D : RNum} {σ : Bool} : ∀ (i : Nat) (x : World), skZB i = true → specAt (spZB BE BT ix T D σ) i undef x := by
  intro i x h
  cases h
theorem regionZ {id : Nat} {l : List Oper} {R : Exit → Act → World → Prop} {a0 : Act} {w : World} {BE BT ix T : Nat} {D : RNum} {σ : Bool} (hl : l = opsZ) (hsz : a0.tmps.size = 157) (E : EnvZ a0 w BE BT ix T D σ)
    (hR : ∀ x (z : Nat → Value), Q w x → R .normal (putAll a0 [(137, z 137), (138, z 138), (139, z 139), (140, z 140), (141, z 141), (142, z 142), (143, z 143), (144, z 144), (145, z 145), (146, z 146), (147, z 147), (148, z 148), (149, z 149), (150, z 150), (151, z 151), (152, z 152), (153, z 153), (154, z 154), (155, z 155), (156, .bool false)]) x) :
    (Code.region id l.toArray true).wp Try.prog R a0 w := by
  subst hl
  refine wp_region_factsS sZ (specAt (spZ BE BT ix T D σ)) skZ (by kernel_rfl) (by decide +kernel) (by decide) (fun t ht => ?_) specAt.next hguZ hgnZ hskZ (hopZ E) (fun a x q size defers other facts => ?_)
  · rw [hsz]
    revert t
    decide
  · have hx : ∀ t ∈ sZ, ∃ v, a.tmps[t]? = some v := fun t ht => by
      obtain ⟨i, hi⟩ := List.getElem?_of_mem ht
      obtain ⟨v, hv, _⟩ := facts i t hi
      exact ⟨v, hv⟩
    obtain ⟨v, tl, fl⟩ := facts 19 156 rfl
    have fl : v = .bool false := fl
    subst fl
    have hu : ∀ t ∈ sZ, a.tmps[t]? = some (a.tmps.getD t undef) := fun t ht => by
      obtain ⟨v, hv⟩ := hx t ht
      rw [Array.getD_eq_getD_getElem?, hv]; rfl
    have hA := act_puts (a := a) (a0 := a0) [(137, a.tmps.getD 137 undef), (138, a.tmps.getD 138 undef), (139, a.tmps.getD 139 undef), (140, a.tmps.getD 140 undef), (141, a.tmps.getD 141 undef), (142, a.tmps.getD 142 undef), (143, a.tmps.getD 143 undef), (144, a.tmps.getD 144 undef), (145, a.tmps.getD 145 undef), (146, a.tmps.getD 146 undef), (147, a.tmps.getD 147 undef), (148, a.tmps.getD 148 undef), (149, a.tmps.getD 149 undef), (150, a.tmps.getD 150 undef), (151, a.tmps.getD 151 undef), (152, a.tmps.getD 152 undef), (153, a.tmps.getD 153 undef), (154, a.tmps.getD 154 undef), (155, a.tmps.getD 155 undef), (156, .bool false)] (by show sZ.Nodup; decide) size defers other (fun r hr => by
      have hr : r ∈ sZ.dropLast.map (fun t => (t, a.tmps.getD t undef)) ++ [(156, .bool false)] := hr
      rcases List.mem_append.1 hr with hr | hr
      · obtain ⟨t, ht, rfl⟩ := List.mem_map.1 hr
        exact hu t (List.dropLast_subset _ ht)
      · rw [List.mem_singleton] at hr
        subst hr
        exact tl)
    refine ⟨?_⟩
    rw [hA]
    exact hR x (fun t => a.tmps.getD t undef) q
theorem regionZB {id : Nat} {l : List Oper} {R : Exit → Act → World → Prop} {a0 : Act} {w : World} {BE BT ix T : Nat} {D : RNum} {σ : Bool} (hl : l = opsZ) (hsz : a0.tmps.size = 157) (E : EnvZB a0 w BE BT ix T D σ)
    (hR : ∀ x (z : Nat → Value), Q w x → R .normal (putAll a0 [(137, z 137), (138, z 138), (139, z 139), (140, z 140), (141, z 141), (142, z 142), (143, z 143), (144, z 144), (145, z 145), (146, z 146), (147, z 147), (148, z 148), (149, z 149), (150, z 150), (151, z 151), (152, z 152), (153, z 153), (154, z 154), (155, z 155), (156, .bool false)]) x) :
    (Code.region id l.toArray true).wp Try.prog R a0 w := by
  subst hl
  refine wp_region_factsS sZ (specAt (spZB BE BT ix T D σ)) skZB (by kernel_rfl) (by decide +kernel) (by decide) (fun t ht => ?_) specAt.next hguZB hgnZB hskZB (hopZB E) (fun a x q size defers other facts => ?_)
  · rw [hsz]
    revert t
    decide
  · have hx : ∀ t ∈ sZ, ∃ v, a.tmps[t]? = some v := fun t ht => by
      obtain ⟨i, hi⟩ := List.getElem?_of_mem ht
      obtain ⟨v, hv, _⟩ := facts i t hi
      exact ⟨v, hv⟩
    obtain ⟨v, tl, fl⟩ := facts 19 156 rfl
    have fl : v = .bool false := fl
    subst fl
    have hu : ∀ t ∈ sZ, a.tmps[t]? = some (a.tmps.getD t undef) := fun t ht => by
      obtain ⟨v, hv⟩ := hx t ht
      rw [Array.getD_eq_getD_getElem?, hv]; rfl
    have hA := act_puts (a := a) (a0 := a0) [(137, a.tmps.getD 137 undef), (138, a.tmps.getD 138 undef), (139, a.tmps.getD 139 undef), (140, a.tmps.getD 140 undef), (141, a.tmps.getD 141 undef), (142, a.tmps.getD 142 undef), (143, a.tmps.getD 143 undef), (144, a.tmps.getD 144 undef), (145, a.tmps.getD 145 undef), (146, a.tmps.getD 146 undef), (147, a.tmps.getD 147 undef), (148, a.tmps.getD 148 undef), (149, a.tmps.getD 149 undef), (150, a.tmps.getD 150 undef), (151, a.tmps.getD 151 undef), (152, a.tmps.getD 152 undef), (153, a.tmps.getD 153 undef), (154, a.tmps.getD 154 undef), (155, a.tmps.getD 155 undef), (156, .bool false)] (by show sZ.Nodup; decide) size defers other (fun r hr => by
      have hr : r ∈ sZ.dropLast.map (fun t => (t, a.tmps.getD t undef)) ++ [(156, .bool false)] := hr
      rcases List.mem_append.1 hr with hr | hr
      · obtain ⟨t, ht, rfl⟩ := List.mem_map.1 hr
        exact hu t (List.dropLast_subset _ ht)
      · rw [List.mem_singleton] at hr
        subst hr
        exact tl)
    refine ⟨?_⟩
    rw [hA]
    exact hR x (fun t => a.tmps.getD t undef) q
set_option maxRecDepth 100000 in
theorem norm6 {t0 t1 t2 t3 t4 t5 t6 t7 t8 t9 t10 t11 t12 t13 t14 t15 t16 t17 t18 t19 t20 t21 t22 t23 t24 t25 t26 t27 t28 t29 t30 t31 t32 t33 t34 t35 t36 t37 t38 t39 t40 t41 t42 t43 t44 t45 t46 t47 t48 t49 t50 t51 t52 t53 t54 t55 t56 t57 t58 t59 t60 t61 t62 t63 t64 t65 t66 t67 t68 t69 t70 t71 t72 t73 t74 t75 t76 t77 t78 t79 t80 t81 t82 t83 t84 t85 t86 t87 t88 t89 t90 t91 t92 t93 t94 t95 t96 t97 t98 t99 t100 t101 t102 t103 t104 t105 t106 t107 t108 t109 t110 t111 t112 t113 t114 t115 t116 t117 t118 t119 t120 t121 t122 t123 t124 t125 t126 t127 t128 t129 t130 t131 t132 t133 t134 t135 t136 t137 t138 t139 t140 t141 t142 t143 t144 t145 t146 t147 t148 t149 t150 t151 t152 t153 t154 t155 t156 : Value} {d : List Deferred} {v46 v47 v48 v49 v50 v51 v52 v53 v54 v55 v56 v57 : Value} {V8 V9 V10 : Nat} : putAll ⟨#[t0, t1, t2, t3, t4, t5, t6, t7, t8, t9, t10, t11, t12, t13, t14, t15, t16, t17, t18, t19, t20, t21, t22, t23, t24, t25, t26, t27, t28, t29, t30, t31, t32, t33, t34, t35, t36, t37, t38, t39, t40, t41, t42, t43, t44, t45, t46, t47, t48, t49, t50, t51, t52, t53, t54, t55, t56, t57, t58, t59, t60, t61, t62, t63, t64, t65, t66, t67, t68, t69, t70, t71, t72, t73, t74, t75, t76, t77, t78, t79, t80, t81, t82, t83, t84, t85, t86, t87, t88, t89, t90, t91, t92, t93, t94, t95, t96, t97, t98, t99, t100, t101, t102, t103, t104, t105, t106, t107, t108, t109, t110, t111, t112, t113, t114, t115, t116, t117, t118, t119, t120, t121, t122, t123, t124, t125, t126, t127, t128, t129, t130, t131, t132, t133, t134, t135, t136, t137, t138, t139, t140, t141, t142, t143, t144, t145, t146, t147, t148, t149, t150, t151, t152, t153, t154, t155, t156], d⟩ [(46, v46), (47, v47), (48, v48), (49, v49), (50, v50), (51, v51), (52, v52), (53, v53), (54, v54), (55, v55), (56, v56), (57, v57), (8, ptrV V8), (9, ptrV V9), (10, ptrV V10)] = ⟨#[t0, t1, t2, t3, t4, t5, t6, t7, (ptrV V8), (ptrV V9), (ptrV V10), t11, t12, t13, t14, t15, t16, t17, t18, t19, t20, t21, t22, t23, t24, t25, t26, t27, t28, t29, t30, t31, t32, t33, t34, t35, t36, t37, t38, t39, t40, t41, t42, t43, t44, t45, v46, v47, v48, v49, v50, v51, v52, v53, v54, v55, v56, v57, t58, t59, t60, t61, t62, t63, t64, t65, t66, t67, t68, t69, t70, t71, t72, t73, t74, t75, t76, t77, t78, t79, t80, t81, t82, t83, t84, t85, t86, t87, t88, t89, t90, t91, t92, t93, t94, t95, t96, t97, t98, t99, t100, t101, t102, t103, t104, t105, t106, t107, t108, t109, t110, t111, t112, t113, t114, t115, t116, t117, t118, t119, t120, t121, t122, t123, t124, t125, t126, t127, t128, t129, t130, t131, t132, t133, t134, t135, t136, t137, t138, t139, t140, t141, t142, t143, t144, t145, t146, t147, t148, t149, t150, t151, t152, t153, t154, t155, t156], d⟩ := by
  kernel_rfl
set_option maxRecDepth 100000 in
theorem norm7 {t0 t1 t2 t3 t4 t5 t6 t7 t8 t9 t10 t11 t12 t13 t14 t15 t16 t17 t18 t19 t20 t21 t22 t23 t24 t25 t26 t27 t28 t29 t30 t31 t32 t33 t34 t35 t36 t37 t38 t39 t40 t41 t42 t43 t44 t45 t46 t47 t48 t49 t50 t51 t52 t53 t54 t55 t56 t57 t58 t59 t60 t61 t62 t63 t64 t65 t66 t67 t68 t69 t70 t71 t72 t73 t74 t75 t76 t77 t78 t79 t80 t81 t82 t83 t84 t85 t86 t87 t88 t89 t90 t91 t92 t93 t94 t95 t96 t97 t98 t99 t100 t101 t102 t103 t104 t105 t106 t107 t108 t109 t110 t111 t112 t113 t114 t115 t116 t117 t118 t119 t120 t121 t122 t123 t124 t125 t126 t127 t128 t129 t130 t131 t132 t133 t134 t135 t136 t137 t138 t139 t140 t141 t142 t143 t144 t145 t146 t147 t148 t149 t150 t151 t152 t153 t154 t155 t156 : Value} {d : List Deferred} {v58 v59 v60 v61 v62 v63 : Value} {V11 V12 : Nat} : putAll ⟨#[t0, t1, t2, t3, t4, t5, t6, t7, t8, t9, t10, t11, t12, t13, t14, t15, t16, t17, t18, t19, t20, t21, t22, t23, t24, t25, t26, t27, t28, t29, t30, t31, t32, t33, t34, t35, t36, t37, t38, t39, t40, t41, t42, t43, t44, t45, t46, t47, t48, t49, t50, t51, t52, t53, t54, t55, t56, t57, t58, t59, t60, t61, t62, t63, t64, t65, t66, t67, t68, t69, t70, t71, t72, t73, t74, t75, t76, t77, t78, t79, t80, t81, t82, t83, t84, t85, t86, t87, t88, t89, t90, t91, t92, t93, t94, t95, t96, t97, t98, t99, t100, t101, t102, t103, t104, t105, t106, t107, t108, t109, t110, t111, t112, t113, t114, t115, t116, t117, t118, t119, t120, t121, t122, t123, t124, t125, t126, t127, t128, t129, t130, t131, t132, t133, t134, t135, t136, t137, t138, t139, t140, t141, t142, t143, t144, t145, t146, t147, t148, t149, t150, t151, t152, t153, t154, t155, t156], d⟩ [(58, v58), (59, v59), (60, v60), (61, v61), (62, v62), (63, v63), (11, ptrV V11), (12, ptrV V12)] = ⟨#[t0, t1, t2, t3, t4, t5, t6, t7, t8, t9, t10, (ptrV V11), (ptrV V12), t13, t14, t15, t16, t17, t18, t19, t20, t21, t22, t23, t24, t25, t26, t27, t28, t29, t30, t31, t32, t33, t34, t35, t36, t37, t38, t39, t40, t41, t42, t43, t44, t45, t46, t47, t48, t49, t50, t51, t52, t53, t54, t55, t56, t57, v58, v59, v60, v61, v62, v63, t64, t65, t66, t67, t68, t69, t70, t71, t72, t73, t74, t75, t76, t77, t78, t79, t80, t81, t82, t83, t84, t85, t86, t87, t88, t89, t90, t91, t92, t93, t94, t95, t96, t97, t98, t99, t100, t101, t102, t103, t104, t105, t106, t107, t108, t109, t110, t111, t112, t113, t114, t115, t116, t117, t118, t119, t120, t121, t122, t123, t124, t125, t126, t127, t128, t129, t130, t131, t132, t133, t134, t135, t136, t137, t138, t139, t140, t141, t142, t143, t144, t145, t146, t147, t148, t149, t150, t151, t152, t153, t154, t155, t156], d⟩ := by
  kernel_rfl
set_option maxRecDepth 100000 in
theorem norm20 {t0 t1 t2 t3 t4 t5 t6 t7 t8 t9 t10 t11 t12 t13 t14 t15 t16 t17 t18 t19 t20 t21 t22 t23 t24 t25 t26 t27 t28 t29 t30 t31 t32 t33 t34 t35 t36 t37 t38 t39 t40 t41 t42 t43 t44 t45 t46 t47 t48 t49 t50 t51 t52 t53 t54 t55 t56 t57 t58 t59 t60 t61 t62 t63 t64 t65 t66 t67 t68 t69 t70 t71 t72 t73 t74 t75 t76 t77 t78 t79 t80 t81 t82 t83 t84 t85 t86 t87 t88 t89 t90 t91 t92 t93 t94 t95 t96 t97 t98 t99 t100 t101 t102 t103 t104 t105 t106 t107 t108 t109 t110 t111 t112 t113 t114 t115 t116 t117 t118 t119 t120 t121 t122 t123 t124 t125 t126 t127 t128 t129 t130 t131 t132 t133 t134 t135 t136 t137 t138 t139 t140 t141 t142 t143 t144 t145 t146 t147 t148 t149 t150 t151 t152 t153 t154 t155 t156 : Value} {d : List Deferred} {z : Nat → Value} : putAll ⟨#[t0, t1, t2, t3, t4, t5, t6, t7, t8, t9, t10, t11, t12, t13, t14, t15, t16, t17, t18, t19, t20, t21, t22, t23, t24, t25, t26, t27, t28, t29, t30, t31, t32, t33, t34, t35, t36, t37, t38, t39, t40, t41, t42, t43, t44, t45, t46, t47, t48, t49, t50, t51, t52, t53, t54, t55, t56, t57, t58, t59, t60, t61, t62, t63, t64, t65, t66, t67, t68, t69, t70, t71, t72, t73, t74, t75, t76, t77, t78, t79, t80, t81, t82, t83, t84, t85, t86, t87, t88, t89, t90, t91, t92, t93, t94, t95, t96, t97, t98, t99, t100, t101, t102, t103, t104, t105, t106, t107, t108, t109, t110, t111, t112, t113, t114, t115, t116, t117, t118, t119, t120, t121, t122, t123, t124, t125, t126, t127, t128, t129, t130, t131, t132, t133, t134, t135, t136, t137, t138, t139, t140, t141, t142, t143, t144, t145, t146, t147, t148, t149, t150, t151, t152, t153, t154, t155, t156], d⟩ [(107, z 107), (108, z 108), (109, z 109), (110, z 110), (111, z 111), (112, z 112), (113, z 113), (114, z 114), (115, z 115), (116, z 116), (117, z 117), (118, z 118), (119, z 119), (120, z 120), (121, z 121), (122, z 122), (123, z 123), (124, z 124), (125, z 125), (126, z 126), (127, z 127), (128, z 128), (129, z 129), (130, z 130), (131, z 131), (132, z 132), (133, z 133), (134, z 134), (135, z 135), (136, .bool false)] = ⟨#[t0, t1, t2, t3, t4, t5, t6, t7, t8, t9, t10, t11, t12, t13, t14, t15, t16, t17, t18, t19, t20, t21, t22, t23, t24, t25, t26, t27, t28, t29, t30, t31, t32, t33, t34, t35, t36, t37, t38, t39, t40, t41, t42, t43, t44, t45, t46, t47, t48, t49, t50, t51, t52, t53, t54, t55, t56, t57, t58, t59, t60, t61, t62, t63, t64, t65, t66, t67, t68, t69, t70, t71, t72, t73, t74, t75, t76, t77, t78, t79, t80, t81, t82, t83, t84, t85, t86, t87, t88, t89, t90, t91, t92, t93, t94, t95, t96, t97, t98, t99, t100, t101, t102, t103, t104, t105, t106, (z 107), (z 108), (z 109), (z 110), (z 111), (z 112), (z 113), (z 114), (z 115), (z 116), (z 117), (z 118), (z 119), (z 120), (z 121), (z 122), (z 123), (z 124), (z 125), (z 126), (z 127), (z 128), (z 129), (z 130), (z 131), (z 132), (z 133), (z 134), (z 135), .bool false, t137, t138, t139, t140, t141, t142, t143, t144, t145, t146, t147, t148, t149, t150, t151, t152, t153, t154, t155, t156], d⟩ := by
  kernel_rfl
set_option maxRecDepth 100000 in
theorem norm22 {t0 t1 t2 t3 t4 t5 t6 t7 t8 t9 t10 t11 t12 t13 t14 t15 t16 t17 t18 t19 t20 t21 t22 t23 t24 t25 t26 t27 t28 t29 t30 t31 t32 t33 t34 t35 t36 t37 t38 t39 t40 t41 t42 t43 t44 t45 t46 t47 t48 t49 t50 t51 t52 t53 t54 t55 t56 t57 t58 t59 t60 t61 t62 t63 t64 t65 t66 t67 t68 t69 t70 t71 t72 t73 t74 t75 t76 t77 t78 t79 t80 t81 t82 t83 t84 t85 t86 t87 t88 t89 t90 t91 t92 t93 t94 t95 t96 t97 t98 t99 t100 t101 t102 t103 t104 t105 t106 t107 t108 t109 t110 t111 t112 t113 t114 t115 t116 t117 t118 t119 t120 t121 t122 t123 t124 t125 t126 t127 t128 t129 t130 t131 t132 t133 t134 t135 t136 t137 t138 t139 t140 t141 t142 t143 t144 t145 t146 t147 t148 t149 t150 t151 t152 t153 t154 t155 t156 : Value} {d : List Deferred} {z : Nat → Value} : putAll ⟨#[t0, t1, t2, t3, t4, t5, t6, t7, t8, t9, t10, t11, t12, t13, t14, t15, t16, t17, t18, t19, t20, t21, t22, t23, t24, t25, t26, t27, t28, t29, t30, t31, t32, t33, t34, t35, t36, t37, t38, t39, t40, t41, t42, t43, t44, t45, t46, t47, t48, t49, t50, t51, t52, t53, t54, t55, t56, t57, t58, t59, t60, t61, t62, t63, t64, t65, t66, t67, t68, t69, t70, t71, t72, t73, t74, t75, t76, t77, t78, t79, t80, t81, t82, t83, t84, t85, t86, t87, t88, t89, t90, t91, t92, t93, t94, t95, t96, t97, t98, t99, t100, t101, t102, t103, t104, t105, t106, t107, t108, t109, t110, t111, t112, t113, t114, t115, t116, t117, t118, t119, t120, t121, t122, t123, t124, t125, t126, t127, t128, t129, t130, t131, t132, t133, t134, t135, t136, t137, t138, t139, t140, t141, t142, t143, t144, t145, t146, t147, t148, t149, t150, t151, t152, t153, t154, t155, t156], d⟩ [(137, z 137), (138, z 138), (139, z 139), (140, z 140), (141, z 141), (142, z 142), (143, z 143), (144, z 144), (145, z 145), (146, z 146), (147, z 147), (148, z 148), (149, z 149), (150, z 150), (151, z 151), (152, z 152), (153, z 153), (154, z 154), (155, z 155), (156, .bool false)] = ⟨#[t0, t1, t2, t3, t4, t5, t6, t7, t8, t9, t10, t11, t12, t13, t14, t15, t16, t17, t18, t19, t20, t21, t22, t23, t24, t25, t26, t27, t28, t29, t30, t31, t32, t33, t34, t35, t36, t37, t38, t39, t40, t41, t42, t43, t44, t45, t46, t47, t48, t49, t50, t51, t52, t53, t54, t55, t56, t57, t58, t59, t60, t61, t62, t63, t64, t65, t66, t67, t68, t69, t70, t71, t72, t73, t74, t75, t76, t77, t78, t79, t80, t81, t82, t83, t84, t85, t86, t87, t88, t89, t90, t91, t92, t93, t94, t95, t96, t97, t98, t99, t100, t101, t102, t103, t104, t105, t106, t107, t108, t109, t110, t111, t112, t113, t114, t115, t116, t117, t118, t119, t120, t121, t122, t123, t124, t125, t126, t127, t128, t129, t130, t131, t132, t133, t134, t135, t136, (z 137), (z 138), (z 139), (z 140), (z 141), (z 142), (z 143), (z 144), (z 145), (z 146), (z 147), (z 148), (z 149), (z 150), (z 151), (z 152), (z 153), (z 154), (z 155), .bool false], d⟩ := by
  kernel_rfl
end Go.Proofs.Ytgpgjbgobaaohaa
