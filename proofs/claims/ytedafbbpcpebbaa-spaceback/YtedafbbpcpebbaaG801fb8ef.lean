/- The statements' helpers over exact numbers. -/
import Derived.Test.YtedafbbpcpebbaaG9d8e5aef
import Derived.Test.YtedafbbpcpebbaaG5722ba7e
import Derived.Test.YtedafbbpcpebbaaGb048b289
namespace Go.Proofs.Ytedafbbpcpebbaa
open Go.RowKit
set_option linter.unusedVariables false
set_option linter.unusedSimpArgs false

def oWt_0 : Oper := { dst := some 11, op := .fieldAddr 38 (.tmp 2) 2, type := 0, pos := "outright.go:43", after := #[], guard := none }
def oWt_1 : Oper := { dst := some 12, op := .load 36 (.tmp 11), type := 36, pos := "outright.go:43", after := #[⟨0, .data⟩], guard := none }
def oWt_2 : Oper := { dst := some 13, op := .fieldAddr 38 (.tmp 2) 3, type := 0, pos := "outright.go:43", after := #[], guard := none }
def oWt_3 : Oper := { dst := some 14, op := .load 3 (.tmp 13), type := 3, pos := "outright.go:43", after := #[⟨2, .data⟩], guard := none }
def oWt_4 : Oper := { dst := some 15, op := .move (.tmp 5), type := 3, pos := "outright.go:43", after := #[], guard := none }
def oWt_5 : Oper := { dst := some 16, op := .binOp .sub 3 (.tmp 14) (.tmp 15) 3, type := 3, pos := "outright.go:43", after := #[⟨3, .data⟩, ⟨4, .data⟩], guard := none }
def oWt_6 : Oper := { dst := some 17, op := .call { callee := .value (.func 57), args := #[.tmp 12, .tmp 16], argTypes := #[36, 3] }, type := 36, pos := "outright.go:43", after := #[⟨1, .data⟩, ⟨5, .data⟩], guard := none }
def oWt_7 : Oper := { dst := some 18, op := .fieldAddr 38 (.tmp 3) 2, type := 0, pos := "outright.go:43", after := #[], guard := none }
def oWt_8 : Oper := { dst := some 19, op := .load 36 (.tmp 18), type := 36, pos := "outright.go:43", after := #[⟨7, .data⟩], guard := none }
def oWt_9 : Oper := { dst := some 20, op := .fieldAddr 38 (.tmp 3) 3, type := 0, pos := "outright.go:43", after := #[], guard := none }
def oWt_10 : Oper := { dst := some 21, op := .load 3 (.tmp 20), type := 3, pos := "outright.go:43", after := #[⟨9, .data⟩], guard := none }
def oWt_11 : Oper := { dst := some 22, op := .move (.tmp 5), type := 3, pos := "outright.go:43", after := #[], guard := none }
def oWt_12 : Oper := { dst := some 23, op := .binOp .sub 3 (.tmp 21) (.tmp 22) 3, type := 3, pos := "outright.go:43", after := #[⟨10, .data⟩, ⟨11, .data⟩], guard := none }
def oWt_13 : Oper := { dst := some 24, op := .call { callee := .value (.func 57), args := #[.tmp 19, .tmp 23], argTypes := #[36, 3] }, type := 36, pos := "outright.go:43", after := #[⟨8, .data⟩, ⟨12, .data⟩, ⟨6, .chain⟩], guard := none }
def oWt_14 : Oper := { dst := some 25, op := .call { callee := .value (.func 56), args := #[.tmp 17, .tmp 24], argTypes := #[36, 36] }, type := 3, pos := "outright.go:43", after := #[⟨6, .data⟩, ⟨13, .data⟩, ⟨13, .chain⟩], guard := none }
def oWt_15 : Oper := { dst := some 26, op := .binOp .leq 3 (.tmp 25) (.const (.int .i64 0)) 3, type := 4, pos := "outright.go:43", after := #[⟨14, .data⟩], guard := none }
def oWt_16 : Oper := { dst := some 4, op := .assign (.tmp 26), type := 4, pos := "outright.go:43", after := #[⟨15, .data⟩, ⟨14, .chain⟩, ⟨0, .phase⟩, ⟨1, .phase⟩, ⟨2, .phase⟩, ⟨3, .phase⟩, ⟨4, .phase⟩, ⟨5, .phase⟩, ⟨6, .phase⟩, ⟨7, .phase⟩, ⟨8, .phase⟩, ⟨9, .phase⟩, ⟨10, .phase⟩, ⟨11, .phase⟩, ⟨12, .phase⟩, ⟨13, .phase⟩, ⟨14, .phase⟩, ⟨15, .phase⟩], guard := none }
def opsWt : List Oper := [oWt_0, oWt_1, oWt_2, oWt_3, oWt_4, oWt_5, oWt_6, oWt_7, oWt_8, oWt_9, oWt_10, oWt_11, oWt_12, oWt_13, oWt_14, oWt_15, oWt_16]
def sWt : List Nat := [11, 12, 13, 14, 15, 16, 17, 18, 19, 20, 21, 22, 23, 24, 25, 26]
def spWt (Va Vb : Nat) (va vb : Value) (e f m : Int) (n k da db : Nat) : List Spec := [spV (.pointer (some ⟨Va, 2, none⟩)), spV va, spV (.pointer (some ⟨Va, 3, none⟩)), spV (.int .i64 e), spV (.int .i64 m), spV (.int .i64 (da : Nat)), natS (n * 2 ^ da), spV (.pointer (some ⟨Vb, 2, none⟩)), spV vb, spV (.pointer (some ⟨Vb, 3, none⟩)), spV (.int .i64 f), spV (.int .i64 m), spV (.int .i64 (db : Nat)), natS (k * 2 ^ db), spV (.int .i64 (cmpV (n * 2 ^ da) (k * 2 ^ db))), spV (.bool (decide (cmpV (n * 2 ^ da) (k * 2 ^ db) ≤ 0)))]
structure EnvWt (a0 : Act) (w : World) (Va Vb : Nat) (va vb : Value) (e f m : Int) (n k da db : Nat) : Prop where
  h2 : a0.tmps[2]? = some (ptrV Va)
  h3 : a0.tmps[3]? = some (ptrV Vb)
  h5 : a0.tmps[5]? = some (.int .i64 m)
  a2 : w.cell? ⟨Va, 2, none⟩ = some va
  a3 : w.cell? ⟨Va, 3, none⟩ = some (.int .i64 e)
  b2 : w.cell? ⟨Vb, 2, none⟩ = some vb
  b3 : w.cell? ⟨Vb, 3, none⟩ = some (.int .i64 f)
  an : NatAt w va n
  bn : NatAt w vb k
  ad : IntKind.i64.wrap (e - m) = (da : Nat)
  bd : IntKind.i64.wrap (f - m) = (db : Nat)
  ac : n * 2 ^ da < cap
  bc : k * 2 ^ db < cap
theorem yWt_0 {a0 : Act} {w : World} {Va Vb : Nat} {va vb : Value} {e f m : Int} {n k da db : Nat} (E : EnvWt a0 w Va Vb va vb e f m n k da db) {R : Exit → Act → World → Prop} {a : Act} {x : World} (q : Q w x) (oth : ∀ j, j ∉ sWt → a.tmps[j]? = a0.tmps[j]?) (dep : ∀ ed ∈ oWt_0.after, Region.binds .any ed = true → ∀ t', sWt[ed.on]? = some t' → ∃ v, a.tmps[t']? = some v ∧ specAt (spWt Va Vb va vb e f m n k da db) ed.on v x) : Yld Try.prog R oWt_0 a x 11 (fun v x' => specAt (spWt Va Vb va vb e f m n k da db) 0 v x' ∧ (0 ∈ ([] : List Nat) → v = ptrV x.heap.size)) := by
  exact yld_run (x' := x) rfl (run_field2 (tmp_eval ((oth 2 (by decide)).trans E.h2))) (Q.refl x) ⟨rfl, fun h => absurd h (by decide)⟩
theorem yWt_1 {a0 : Act} {w : World} {Va Vb : Nat} {va vb : Value} {e f m : Int} {n k da db : Nat} (E : EnvWt a0 w Va Vb va vb e f m n k da db) {R : Exit → Act → World → Prop} {a : Act} {x : World} (q : Q w x) (oth : ∀ j, j ∉ sWt → a.tmps[j]? = a0.tmps[j]?) (dep : ∀ ed ∈ oWt_1.after, Region.binds .any ed = true → ∀ t', sWt[ed.on]? = some t' → ∃ v, a.tmps[t']? = some v ∧ specAt (spWt Va Vb va vb e f m n k da db) ed.on v x) : Yld Try.prog R oWt_1 a x 12 (fun v x' => specAt (spWt Va Vb va vb e f m n k da db) 1 v x' ∧ (1 ∈ ([] : List Nat) → v = ptrV x.heap.size)) := by
  obtain ⟨v0, t0, f0⟩ := dep ⟨0, .data⟩ (by simp [oWt_1]) rfl 11 rfl
  have f0 : v0 = (.pointer (some ⟨Va, 2, none⟩)) := f0
  subst f0
  exact yld_run (x' := x) rfl (run_nat (tmp_eval t0) (q.cell E.a2)) (Q.refl x) ⟨rfl, fun h => absurd h (by decide)⟩
theorem yWt_2 {a0 : Act} {w : World} {Va Vb : Nat} {va vb : Value} {e f m : Int} {n k da db : Nat} (E : EnvWt a0 w Va Vb va vb e f m n k da db) {R : Exit → Act → World → Prop} {a : Act} {x : World} (q : Q w x) (oth : ∀ j, j ∉ sWt → a.tmps[j]? = a0.tmps[j]?) (dep : ∀ ed ∈ oWt_2.after, Region.binds .any ed = true → ∀ t', sWt[ed.on]? = some t' → ∃ v, a.tmps[t']? = some v ∧ specAt (spWt Va Vb va vb e f m n k da db) ed.on v x) : Yld Try.prog R oWt_2 a x 13 (fun v x' => specAt (spWt Va Vb va vb e f m n k da db) 2 v x' ∧ (2 ∈ ([] : List Nat) → v = ptrV x.heap.size)) := by
  exact yld_run (x' := x) rfl (run_field3 (tmp_eval ((oth 2 (by decide)).trans E.h2))) (Q.refl x) ⟨rfl, fun h => absurd h (by decide)⟩
theorem yWt_3 {a0 : Act} {w : World} {Va Vb : Nat} {va vb : Value} {e f m : Int} {n k da db : Nat} (E : EnvWt a0 w Va Vb va vb e f m n k da db) {R : Exit → Act → World → Prop} {a : Act} {x : World} (q : Q w x) (oth : ∀ j, j ∉ sWt → a.tmps[j]? = a0.tmps[j]?) (dep : ∀ ed ∈ oWt_3.after, Region.binds .any ed = true → ∀ t', sWt[ed.on]? = some t' → ∃ v, a.tmps[t']? = some v ∧ specAt (spWt Va Vb va vb e f m n k da db) ed.on v x) : Yld Try.prog R oWt_3 a x 14 (fun v x' => specAt (spWt Va Vb va vb e f m n k da db) 3 v x' ∧ (3 ∈ ([] : List Nat) → v = ptrV x.heap.size)) := by
  obtain ⟨v2, t2, f2⟩ := dep ⟨2, .data⟩ (by simp [oWt_3]) rfl 13 rfl
  have f2 : v2 = (.pointer (some ⟨Va, 3, none⟩)) := f2
  subst f2
  exact yld_run (x' := x) rfl (run_int (tmp_eval t2) (q.cell E.a3)) (Q.refl x) ⟨rfl, fun h => absurd h (by decide)⟩
theorem yWt_4 {a0 : Act} {w : World} {Va Vb : Nat} {va vb : Value} {e f m : Int} {n k da db : Nat} (E : EnvWt a0 w Va Vb va vb e f m n k da db) {R : Exit → Act → World → Prop} {a : Act} {x : World} (q : Q w x) (oth : ∀ j, j ∉ sWt → a.tmps[j]? = a0.tmps[j]?) (dep : ∀ ed ∈ oWt_4.after, Region.binds .any ed = true → ∀ t', sWt[ed.on]? = some t' → ∃ v, a.tmps[t']? = some v ∧ specAt (spWt Va Vb va vb e f m n k da db) ed.on v x) : Yld Try.prog R oWt_4 a x 15 (fun v x' => specAt (spWt Va Vb va vb e f m n k da db) 4 v x' ∧ (4 ∈ ([] : List Nat) → v = ptrV x.heap.size)) := by
  exact yld_move ((oth 5 (by decide)).trans E.h5) ⟨rfl, fun h => absurd h (by decide)⟩
theorem yWt_5 {a0 : Act} {w : World} {Va Vb : Nat} {va vb : Value} {e f m : Int} {n k da db : Nat} (E : EnvWt a0 w Va Vb va vb e f m n k da db) {R : Exit → Act → World → Prop} {a : Act} {x : World} (q : Q w x) (oth : ∀ j, j ∉ sWt → a.tmps[j]? = a0.tmps[j]?) (dep : ∀ ed ∈ oWt_5.after, Region.binds .any ed = true → ∀ t', sWt[ed.on]? = some t' → ∃ v, a.tmps[t']? = some v ∧ specAt (spWt Va Vb va vb e f m n k da db) ed.on v x) : Yld Try.prog R oWt_5 a x 16 (fun v x' => specAt (spWt Va Vb va vb e f m n k da db) 5 v x' ∧ (5 ∈ ([] : List Nat) → v = ptrV x.heap.size)) := by
  obtain ⟨v3, t3, f3⟩ := dep ⟨3, .data⟩ (by simp [oWt_5]) rfl 14 rfl
  have f3 : v3 = (.int .i64 e) := f3
  subst f3
  obtain ⟨v4, t4, f4⟩ := dep ⟨4, .data⟩ (by simp [oWt_5]) rfl 15 rfl
  have f4 : v4 = (.int .i64 m) := f4
  subst f4
  exact yld_run (x' := x) rfl (run_sub64 (tmp_eval t3) (tmp_eval t4) E.ad) (Q.refl x) ⟨rfl, fun h => absurd h (by decide)⟩
theorem yWt_6 {a0 : Act} {w : World} {Va Vb : Nat} {va vb : Value} {e f m : Int} {n k da db : Nat} (E : EnvWt a0 w Va Vb va vb e f m n k da db) {R : Exit → Act → World → Prop} {a : Act} {x : World} (q : Q w x) (oth : ∀ j, j ∉ sWt → a.tmps[j]? = a0.tmps[j]?) (dep : ∀ ed ∈ oWt_6.after, Region.binds .any ed = true → ∀ t', sWt[ed.on]? = some t' → ∃ v, a.tmps[t']? = some v ∧ specAt (spWt Va Vb va vb e f m n k da db) ed.on v x) : Yld Try.prog R oWt_6 a x 17 (fun v x' => specAt (spWt Va Vb va vb e f m n k da db) 6 v x' ∧ (6 ∈ ([] : List Nat) → v = ptrV x.heap.size)) := by
  obtain ⟨v1, t1, f1⟩ := dep ⟨1, .data⟩ (by simp [oWt_6]) rfl 12 rfl
  have f1 : v1 = va := f1
  subst f1
  obtain ⟨v5, t5, f5⟩ := dep ⟨5, .data⟩ (by simp [oWt_6]) rfl 16 rfl
  have f5 : v5 = (.int .i64 (da : Nat)) := f5
  subst f5
  refine yld_call (enters_of Try.func57 (by kernel_rfl) rfl) (args2 t1 t5) ((up_any _ n da x (q.nat E.an) E.ac).mono ?_)
  rintro y x' ⟨v, rfl, h, q'⟩
  exact ⟨v, rfl, q', h, fun h => absurd h (by decide)⟩
theorem yWt_7 {a0 : Act} {w : World} {Va Vb : Nat} {va vb : Value} {e f m : Int} {n k da db : Nat} (E : EnvWt a0 w Va Vb va vb e f m n k da db) {R : Exit → Act → World → Prop} {a : Act} {x : World} (q : Q w x) (oth : ∀ j, j ∉ sWt → a.tmps[j]? = a0.tmps[j]?) (dep : ∀ ed ∈ oWt_7.after, Region.binds .any ed = true → ∀ t', sWt[ed.on]? = some t' → ∃ v, a.tmps[t']? = some v ∧ specAt (spWt Va Vb va vb e f m n k da db) ed.on v x) : Yld Try.prog R oWt_7 a x 18 (fun v x' => specAt (spWt Va Vb va vb e f m n k da db) 7 v x' ∧ (7 ∈ ([] : List Nat) → v = ptrV x.heap.size)) := by
  exact yld_run (x' := x) rfl (run_field2 (tmp_eval ((oth 3 (by decide)).trans E.h3))) (Q.refl x) ⟨rfl, fun h => absurd h (by decide)⟩
theorem yWt_8 {a0 : Act} {w : World} {Va Vb : Nat} {va vb : Value} {e f m : Int} {n k da db : Nat} (E : EnvWt a0 w Va Vb va vb e f m n k da db) {R : Exit → Act → World → Prop} {a : Act} {x : World} (q : Q w x) (oth : ∀ j, j ∉ sWt → a.tmps[j]? = a0.tmps[j]?) (dep : ∀ ed ∈ oWt_8.after, Region.binds .any ed = true → ∀ t', sWt[ed.on]? = some t' → ∃ v, a.tmps[t']? = some v ∧ specAt (spWt Va Vb va vb e f m n k da db) ed.on v x) : Yld Try.prog R oWt_8 a x 19 (fun v x' => specAt (spWt Va Vb va vb e f m n k da db) 8 v x' ∧ (8 ∈ ([] : List Nat) → v = ptrV x.heap.size)) := by
  obtain ⟨v7, t7, f7⟩ := dep ⟨7, .data⟩ (by simp [oWt_8]) rfl 18 rfl
  have f7 : v7 = (.pointer (some ⟨Vb, 2, none⟩)) := f7
  subst f7
  exact yld_run (x' := x) rfl (run_nat (tmp_eval t7) (q.cell E.b2)) (Q.refl x) ⟨rfl, fun h => absurd h (by decide)⟩
theorem yWt_9 {a0 : Act} {w : World} {Va Vb : Nat} {va vb : Value} {e f m : Int} {n k da db : Nat} (E : EnvWt a0 w Va Vb va vb e f m n k da db) {R : Exit → Act → World → Prop} {a : Act} {x : World} (q : Q w x) (oth : ∀ j, j ∉ sWt → a.tmps[j]? = a0.tmps[j]?) (dep : ∀ ed ∈ oWt_9.after, Region.binds .any ed = true → ∀ t', sWt[ed.on]? = some t' → ∃ v, a.tmps[t']? = some v ∧ specAt (spWt Va Vb va vb e f m n k da db) ed.on v x) : Yld Try.prog R oWt_9 a x 20 (fun v x' => specAt (spWt Va Vb va vb e f m n k da db) 9 v x' ∧ (9 ∈ ([] : List Nat) → v = ptrV x.heap.size)) := by
  exact yld_run (x' := x) rfl (run_field3 (tmp_eval ((oth 3 (by decide)).trans E.h3))) (Q.refl x) ⟨rfl, fun h => absurd h (by decide)⟩
theorem yWt_10 {a0 : Act} {w : World} {Va Vb : Nat} {va vb : Value} {e f m : Int} {n k da db : Nat} (E : EnvWt a0 w Va Vb va vb e f m n k da db) {R : Exit → Act → World → Prop} {a : Act} {x : World} (q : Q w x) (oth : ∀ j, j ∉ sWt → a.tmps[j]? = a0.tmps[j]?) (dep : ∀ ed ∈ oWt_10.after, Region.binds .any ed = true → ∀ t', sWt[ed.on]? = some t' → ∃ v, a.tmps[t']? = some v ∧ specAt (spWt Va Vb va vb e f m n k da db) ed.on v x) : Yld Try.prog R oWt_10 a x 21 (fun v x' => specAt (spWt Va Vb va vb e f m n k da db) 10 v x' ∧ (10 ∈ ([] : List Nat) → v = ptrV x.heap.size)) := by
  obtain ⟨v9, t9, f9⟩ := dep ⟨9, .data⟩ (by simp [oWt_10]) rfl 20 rfl
  have f9 : v9 = (.pointer (some ⟨Vb, 3, none⟩)) := f9
  subst f9
  exact yld_run (x' := x) rfl (run_int (tmp_eval t9) (q.cell E.b3)) (Q.refl x) ⟨rfl, fun h => absurd h (by decide)⟩
theorem yWt_11 {a0 : Act} {w : World} {Va Vb : Nat} {va vb : Value} {e f m : Int} {n k da db : Nat} (E : EnvWt a0 w Va Vb va vb e f m n k da db) {R : Exit → Act → World → Prop} {a : Act} {x : World} (q : Q w x) (oth : ∀ j, j ∉ sWt → a.tmps[j]? = a0.tmps[j]?) (dep : ∀ ed ∈ oWt_11.after, Region.binds .any ed = true → ∀ t', sWt[ed.on]? = some t' → ∃ v, a.tmps[t']? = some v ∧ specAt (spWt Va Vb va vb e f m n k da db) ed.on v x) : Yld Try.prog R oWt_11 a x 22 (fun v x' => specAt (spWt Va Vb va vb e f m n k da db) 11 v x' ∧ (11 ∈ ([] : List Nat) → v = ptrV x.heap.size)) := by
  exact yld_move ((oth 5 (by decide)).trans E.h5) ⟨rfl, fun h => absurd h (by decide)⟩
theorem yWt_12 {a0 : Act} {w : World} {Va Vb : Nat} {va vb : Value} {e f m : Int} {n k da db : Nat} (E : EnvWt a0 w Va Vb va vb e f m n k da db) {R : Exit → Act → World → Prop} {a : Act} {x : World} (q : Q w x) (oth : ∀ j, j ∉ sWt → a.tmps[j]? = a0.tmps[j]?) (dep : ∀ ed ∈ oWt_12.after, Region.binds .any ed = true → ∀ t', sWt[ed.on]? = some t' → ∃ v, a.tmps[t']? = some v ∧ specAt (spWt Va Vb va vb e f m n k da db) ed.on v x) : Yld Try.prog R oWt_12 a x 23 (fun v x' => specAt (spWt Va Vb va vb e f m n k da db) 12 v x' ∧ (12 ∈ ([] : List Nat) → v = ptrV x.heap.size)) := by
  obtain ⟨v10, t10, f10⟩ := dep ⟨10, .data⟩ (by simp [oWt_12]) rfl 21 rfl
  have f10 : v10 = (.int .i64 f) := f10
  subst f10
  obtain ⟨v11, t11, f11⟩ := dep ⟨11, .data⟩ (by simp [oWt_12]) rfl 22 rfl
  have f11 : v11 = (.int .i64 m) := f11
  subst f11
  exact yld_run (x' := x) rfl (run_sub64 (tmp_eval t10) (tmp_eval t11) E.bd) (Q.refl x) ⟨rfl, fun h => absurd h (by decide)⟩
theorem yWt_13 {a0 : Act} {w : World} {Va Vb : Nat} {va vb : Value} {e f m : Int} {n k da db : Nat} (E : EnvWt a0 w Va Vb va vb e f m n k da db) {R : Exit → Act → World → Prop} {a : Act} {x : World} (q : Q w x) (oth : ∀ j, j ∉ sWt → a.tmps[j]? = a0.tmps[j]?) (dep : ∀ ed ∈ oWt_13.after, Region.binds .any ed = true → ∀ t', sWt[ed.on]? = some t' → ∃ v, a.tmps[t']? = some v ∧ specAt (spWt Va Vb va vb e f m n k da db) ed.on v x) : Yld Try.prog R oWt_13 a x 24 (fun v x' => specAt (spWt Va Vb va vb e f m n k da db) 13 v x' ∧ (13 ∈ ([] : List Nat) → v = ptrV x.heap.size)) := by
  obtain ⟨v8, t8, f8⟩ := dep ⟨8, .data⟩ (by simp [oWt_13]) rfl 19 rfl
  have f8 : v8 = vb := f8
  subst f8
  obtain ⟨v12, t12, f12⟩ := dep ⟨12, .data⟩ (by simp [oWt_13]) rfl 23 rfl
  have f12 : v12 = (.int .i64 (db : Nat)) := f12
  subst f12
  refine yld_call (enters_of Try.func57 (by kernel_rfl) rfl) (args2 t8 t12) ((up_any _ k db x (q.nat E.bn) E.bc).mono ?_)
  rintro y x' ⟨v, rfl, h, q'⟩
  exact ⟨v, rfl, q', h, fun h => absurd h (by decide)⟩
theorem yWt_14 {a0 : Act} {w : World} {Va Vb : Nat} {va vb : Value} {e f m : Int} {n k da db : Nat} (E : EnvWt a0 w Va Vb va vb e f m n k da db) {R : Exit → Act → World → Prop} {a : Act} {x : World} (q : Q w x) (oth : ∀ j, j ∉ sWt → a.tmps[j]? = a0.tmps[j]?) (dep : ∀ ed ∈ oWt_14.after, Region.binds .any ed = true → ∀ t', sWt[ed.on]? = some t' → ∃ v, a.tmps[t']? = some v ∧ specAt (spWt Va Vb va vb e f m n k da db) ed.on v x) : Yld Try.prog R oWt_14 a x 25 (fun v x' => specAt (spWt Va Vb va vb e f m n k da db) 14 v x' ∧ (14 ∈ ([] : List Nat) → v = ptrV x.heap.size)) := by
  obtain ⟨v6, t6, f6⟩ := dep ⟨6, .data⟩ (by simp [oWt_14]) rfl 17 rfl
  have f6 : (natS (n * 2 ^ da)).p v6 x := f6
  obtain ⟨v13, t13, f13⟩ := dep ⟨13, .data⟩ (by simp [oWt_14]) rfl 24 rfl
  have f13 : (natS (k * 2 ^ db)).p v13 x := f13
  refine yld_call (enters_of Try.func56 (by kernel_rfl) rfl) (args2 t6 t13) ((compare_any _ _ _ _ x f6 f13).mono ?_)
  rintro y x' ⟨rfl, q'⟩
  exact ⟨_, rfl, q', rfl, fun h => absurd h (by decide)⟩
theorem yWt_15 {a0 : Act} {w : World} {Va Vb : Nat} {va vb : Value} {e f m : Int} {n k da db : Nat} (E : EnvWt a0 w Va Vb va vb e f m n k da db) {R : Exit → Act → World → Prop} {a : Act} {x : World} (q : Q w x) (oth : ∀ j, j ∉ sWt → a.tmps[j]? = a0.tmps[j]?) (dep : ∀ ed ∈ oWt_15.after, Region.binds .any ed = true → ∀ t', sWt[ed.on]? = some t' → ∃ v, a.tmps[t']? = some v ∧ specAt (spWt Va Vb va vb e f m n k da db) ed.on v x) : Yld Try.prog R oWt_15 a x 26 (fun v x' => specAt (spWt Va Vb va vb e f m n k da db) 15 v x' ∧ (15 ∈ ([] : List Nat) → v = ptrV x.heap.size)) := by
  obtain ⟨v14, t14, f14⟩ := dep ⟨14, .data⟩ (by simp [oWt_15]) rfl 25 rfl
  have f14 : v14 = (.int .i64 (cmpV (n * 2 ^ da) (k * 2 ^ db))) := f14
  subst f14
  exact yld_run (x' := x) rfl (run_leq64 (tmp_eval t14) rfl) (Q.refl x) ⟨rfl, fun h => absurd h (by decide)⟩
theorem hopWt {a0 : Act} {w : World} {Va Vb : Nat} {va vb : Value} {e f m : Int} {n k da db : Nat} (E : EnvWt a0 w Va Vb va vb e f m n k da db) {R : Exit → Act → World → Prop} : ∀ (i t : Nat) (o : Oper) (a : Act) (x : World), i < 16 → sWt[i]? = some t → opsWt[i]? = some o → Q w x → (∀ j, j ∉ sWt → a.tmps[j]? = a0.tmps[j]?) → (∀ ed ∈ o.after, Region.binds .any ed = true → ∀ t', sWt[ed.on]? = some t' → ∃ v, a.tmps[t']? = some v ∧ specAt (spWt Va Vb va vb e f m n k da db) ed.on v x) → Yld Try.prog R o a x t (fun v x' => specAt (spWt Va Vb va vb e f m n k da db) i v x' ∧ (i ∈ ([] : List Nat) → v = ptrV x.heap.size))
  | 0, t, o, a, x, hi, ht, ho, q, oth, dep => by
    have e1 : oWt_0 = o := Option.some.inj ho
    have e2 : 11 = t := Option.some.inj ht
    subst e1 e2
    exact yWt_0 E q oth dep
  | 1, t, o, a, x, hi, ht, ho, q, oth, dep => by
    have e1 : oWt_1 = o := Option.some.inj ho
    have e2 : 12 = t := Option.some.inj ht
    subst e1 e2
    exact yWt_1 E q oth dep
  | 2, t, o, a, x, hi, ht, ho, q, oth, dep => by
    have e1 : oWt_2 = o := Option.some.inj ho
    have e2 : 13 = t := Option.some.inj ht
    subst e1 e2
    exact yWt_2 E q oth dep
  | 3, t, o, a, x, hi, ht, ho, q, oth, dep => by
    have e1 : oWt_3 = o := Option.some.inj ho
    have e2 : 14 = t := Option.some.inj ht
    subst e1 e2
    exact yWt_3 E q oth dep
  | 4, t, o, a, x, hi, ht, ho, q, oth, dep => by
    have e1 : oWt_4 = o := Option.some.inj ho
    have e2 : 15 = t := Option.some.inj ht
    subst e1 e2
    exact yWt_4 E q oth dep
  | 5, t, o, a, x, hi, ht, ho, q, oth, dep => by
    have e1 : oWt_5 = o := Option.some.inj ho
    have e2 : 16 = t := Option.some.inj ht
    subst e1 e2
    exact yWt_5 E q oth dep
  | 6, t, o, a, x, hi, ht, ho, q, oth, dep => by
    have e1 : oWt_6 = o := Option.some.inj ho
    have e2 : 17 = t := Option.some.inj ht
    subst e1 e2
    exact yWt_6 E q oth dep
  | 7, t, o, a, x, hi, ht, ho, q, oth, dep => by
    have e1 : oWt_7 = o := Option.some.inj ho
    have e2 : 18 = t := Option.some.inj ht
    subst e1 e2
    exact yWt_7 E q oth dep
  | 8, t, o, a, x, hi, ht, ho, q, oth, dep => by
    have e1 : oWt_8 = o := Option.some.inj ho
    have e2 : 19 = t := Option.some.inj ht
    subst e1 e2
    exact yWt_8 E q oth dep
  | 9, t, o, a, x, hi, ht, ho, q, oth, dep => by
    have e1 : oWt_9 = o := Option.some.inj ho
    have e2 : 20 = t := Option.some.inj ht
    subst e1 e2
    exact yWt_9 E q oth dep
  | 10, t, o, a, x, hi, ht, ho, q, oth, dep => by
    have e1 : oWt_10 = o := Option.some.inj ho
    have e2 : 21 = t := Option.some.inj ht
    subst e1 e2
    exact yWt_10 E q oth dep
  | 11, t, o, a, x, hi, ht, ho, q, oth, dep => by
    have e1 : oWt_11 = o := Option.some.inj ho
    have e2 : 22 = t := Option.some.inj ht
    subst e1 e2
    exact yWt_11 E q oth dep
  | 12, t, o, a, x, hi, ht, ho, q, oth, dep => by
    have e1 : oWt_12 = o := Option.some.inj ho
    have e2 : 23 = t := Option.some.inj ht
    subst e1 e2
    exact yWt_12 E q oth dep
  | 13, t, o, a, x, hi, ht, ho, q, oth, dep => by
    have e1 : oWt_13 = o := Option.some.inj ho
    have e2 : 24 = t := Option.some.inj ht
    subst e1 e2
    exact yWt_13 E q oth dep
  | 14, t, o, a, x, hi, ht, ho, q, oth, dep => by
    have e1 : oWt_14 = o := Option.some.inj ho
    have e2 : 25 = t := Option.some.inj ht
    subst e1 e2
    exact yWt_14 E q oth dep
  | 15, t, o, a, x, hi, ht, ho, q, oth, dep => by
    have e1 : oWt_15 = o := Option.some.inj ho
    have e2 : 26 = t := Option.some.inj ht
    subst e1 e2
    exact yWt_15 E q oth dep
  | i + 16, t, o, a, x, hi, ht, ho, q, oth, dep => absurd hi (by omega)
theorem regionWt {id : Nat} {l : List Oper} {R : Exit → Act → World → Prop} {a0 : Act} {w : World} {Va Vb : Nat} {va vb : Value} {e f m : Int} {n k da db : Nat} (hl : l = opsWt) (hsz : a0.tmps.size = 27) (E : EnvWt a0 w Va Vb va vb e f m n k da db)
    (hR : ∀ a x, Q w x → a.defers = a0.defers → a.tmps[4]? = some (.bool (decide (cmpV (n * 2 ^ da) (k * 2 ^ db) ≤ 0))) → R .normal a x) :
    (Code.region id l.toArray true).wp Try.prog R a0 w := by
  subst hl
  refine wp_region_facts 16 sWt (specAt (spWt Va Vb va vb e f m n k da db)) [] (by kernel_rfl) (by decide +kernel) (by decide) rfl (by decide) (fun t ht => ?_) specAt.next (fun i v x hi hf => by cases hi) (hopWt E) (fun a x q size defers other facts apart => ?_)
  · rw [hsz]
    revert t
    decide
  · obtain ⟨v, t26, f26⟩ := facts 15 26 (by decide) rfl
    have f26 : v = .bool (decide (cmpV (n * 2 ^ da) (k * 2 ^ db) ≤ 0)) := f26
    subst f26
    refine ⟨?_⟩
    show R .normal (a.put (some 4) (a.eval (.tmp 26))) x
    rw [tmp_eval t26]
    refine hR _ _ q defers (Array.getElem?_setIfInBounds_self_of_lt ?_)
    rw [size, hsz]
    decide
theorem within_any (s t m m' : Bool) (va vb : Value) (n k : Nat) (e f : Int) (w : World) (hn : NatAt w va n) (hk : NatAt w vb k)
    (n1 : blen n ≤ 2000) (e0 : -2000 ≤ e) (e1 : e ≤ 2000) (k1 : blen k ≤ 2000) (f0 : -2000 ≤ f) (f1 : f ≤ 2000) :
    Calls Try.prog 26 #[.agg #[.int .i64 2, .bool s, va, .int .i64 e, .bool m], .agg #[.int .i64 2, .bool t, vb, .int .i64 f, .bool m']] w
      fun x w' => x = .returned (.bool (decide (n * 2 ^ (e - min e f).toNat ≤ k * 2 ^ (f - min e f).toNat))) ∧ Q w w' := by
  obtain ⟨b, hb⟩ : ∃ b, b = min e f := ⟨_, rfl⟩
  rw [← hb]
  obtain ⟨da, hda⟩ : ∃ da : Nat, da = (e - b).toNat := ⟨_, rfl⟩
  obtain ⟨db, hdb⟩ : ∃ db : Nat, db = (f - b).toNat := ⟨_, rfl⟩
  rw [← hda, ← hdb, ← cmpV_le]
  have wa : IntKind.i64.wrap (e - b) = (da : Nat) := by rw [IntKind.wrap_i64]; omega
  have wb : IntKind.i64.wrap (f - b) = (db : Nat) := by rw [IntKind.wrap_i64]; omega
  have HA : Hid (n * 2 ^ da < cap) := lt_cap (shifted_lt (k := 6000) n da (by omega)) (by decide)
  have HB : Hid (k * 2 ^ db < cap) := lt_cap (shifted_lt (k := 6000) k db (by omega)) (by decide)
  have HBM : Hid (b = min e f) := hb
  obtain ⟨pa, ba, La, Ca, rfl, hnI⟩ := hn
  obtain ⟨pb, bb, Lb, Cb, rfl, hkI⟩ := hk
  have HNA : Hid (NatAt w (.slice pa La Ca) n) := ⟨pa, ba, La, Ca, rfl, hnI⟩
  have HKA : Hid (NatAt w (.slice pb Lb Cb) k) := ⟨pb, bb, Lb, Cb, rfl, hkI⟩
  have HWA : Hid (IntKind.i64.wrap (e - b) = (da : Nat)) := wa
  have HWB : Hid (IntKind.i64.wrap (f - b) = (db : Nat)) := wb
  clear hnI hkI hb wa wb hda hdb
  go_enter Try.func26, Try.ntmps26
  go_wp2_with fail
  case inl =>
    obtain rfl : b = f := by have := HBM.out; omega
    refine regionWt rfl rfl ⟨rfl, rfl, rfl, by simp [go_sem], by simp [go_sem], by simp [go_sem], by simp [go_sem], Q.nat (((Q.refl w).cells _ _).cells _ _) HNA.out, Q.nat (((Q.refl w).cells _ _).cells _ _) HKA.out, HWA.out, HWB.out, HA.out, HB.out⟩ ?_
    intro a9 x9 q9 df t4
    have HQ9 : Hid (Q w x9) := (((Q.refl w).cells _ _).cells _ _).trans q9
    clear q9
    go_wp2_with fail
    obtain ⟨tm, dd⟩ := a9
    have df : dd = [] := df
    subst df
    have t4 : tm[4]? = some (.bool (decide (cmpV (n * 2 ^ da) (k * 2 ^ db) ≤ 0))) := t4
    go_ret
    have t4' : tm.getD 4 undef = .bool (decide (cmpV (n * 2 ^ da) (k * 2 ^ db) ≤ 0)) := by rw [Array.getD_eq_getD_getElem?, t4]; rfl
    exact ⟨congrArg Ending.returned t4', HQ9.out⟩
  case inr =>
    obtain rfl : b = e := by have := HBM.out; omega
    refine regionWt rfl rfl ⟨rfl, rfl, rfl, by simp [go_sem], by simp [go_sem], by simp [go_sem], by simp [go_sem], Q.nat (((Q.refl w).cells _ _).cells _ _) HNA.out, Q.nat (((Q.refl w).cells _ _).cells _ _) HKA.out, HWA.out, HWB.out, HA.out, HB.out⟩ ?_
    intro a9 x9 q9 df t4
    have HQ9 : Hid (Q w x9) := (((Q.refl w).cells _ _).cells _ _).trans q9
    clear q9
    go_wp2_with fail
    obtain ⟨tm, dd⟩ := a9
    have df : dd = [] := df
    subst df
    have t4 : tm[4]? = some (.bool (decide (cmpV (n * 2 ^ da) (k * 2 ^ db) ≤ 0))) := t4
    go_ret
    have t4' : tm.getD 4 undef = .bool (decide (cmpV (n * 2 ^ da) (k * 2 ^ db) ≤ 0)) := by rw [Array.getD_eq_getD_getElem?, t4]; rfl
    exact ⟨congrArg Ending.returned t4', HQ9.out⟩

theorem single_num {a : Nat} (h : rung32 a < 2139095040) : numOf Ieee.single a = .fin (sgn32 a) (mag32 (rung32 a)) (-149 + (plc32 (rung32 a) : Int)) false := by rw [numOf_datum, read_fin32 h]; rfl
theorem single_small (a : Nat) : small (numOf Ieee.single a) := by
  rw [numOf_datum]
  rcases Nat.lt_trichotomy (rung32 a) 2139095040 with h | h | h
  · rw [read_fin32 h]
    have hp := plc_le32 h
    have hm := blen_le (k := 24) (show mag32 (rung32 a) < 2 ^ 24 from mag_lt32 _)
    exact ⟨by omega, by omega, by omega⟩
  · rw [read_inf32 h]; exact trivial
  · rw [read_nan32 h]; exact trivial
theorem small_opp {x : RNum} (h : small x) : small (oppR x) := by cases x using RNum.rec3 <;> exact h
/-- A size as an exact number: so many least units of binary64. -/
def Sz (w : World) (v : Value) (Z : Nat) : Prop := ∃ N E, NumAt w v (.fin false N E false) ∧ blen N ≤ 2000 ∧ -1074 ≤ E ∧ E ≤ 2000 ∧ zm N E = Z
theorem Sz.next {w w' : World} {v : Value} {Z : Nat} (h : Sz w v Z) (q : Q w w') : Sz w' v Z := by
  obtain ⟨N, E, h1, h2⟩ := h; exact ⟨N, E, q.num h1, h2⟩
theorem within_sz {va vb : Value} {Y Z : Nat} {w : World} (hy : Sz w va Y) (hz : Sz w vb Z) : Calls Try.prog 26 #[va, vb] w fun x w' => x = .returned (.bool (decide (Y ≤ Z))) ∧ Q w w' := by
  obtain ⟨N, E, ⟨nv, rfl, hn⟩, b1, b2, b3, rfl⟩ := hy
  obtain ⟨M, F, ⟨mv, rfl, hm⟩, c1, c2, c3, rfl⟩ := hz
  rw [← zm_le b2 c2]
  exact within_any false false false false nv mv N M E F w hn hm b1 (by omega) (by omega) c1 (by omega) (by omega)
set_option maxHeartbeats 1000000 in
theorem power_any (e : Int) (e0 : -1074 ≤ e) (e1 : e ≤ 2000) (w : World) : Calls Try.prog 27 #[.int .i64 e] w fun x w' => ∃ v, x = .returned v ∧ Sz w' v (zm 1 e) ∧ Q w w' := by
  go_enter Try.func27, Try.ntmps27
  go_wp2_with fail
  have hB : Hid (ABox w _ w.heap.size) := ⟨(Q.refl w).cells _ _, (zero_box w).1, (zero_box w).2, Nat.le_refl _⟩
  generalize w.alloc (.cells #[.int .i64 0, .bool false, .slice none 0 0, .int .i64 0, .bool false] 38) = wz at hB ⊢
  refine (natof_nat 1 _ (by decide)).mono ?_
  rintro e' w1 ⟨v, rfl, hv, q1⟩
  replace hB : Hid (ABox w w1 w.heap.size) := hB.out.next q1
  obtain ⟨p, b, L, C, rfl, hI⟩ := hv
  have HV : Hid (NumAt w1 (.agg #[.int .i64 2, .bool false, .slice p L C, .int .i64 e, .bool false]) (.fin false 1 e false)) := ⟨_, rfl, p, b, L, C, rfl, hI⟩
  clear q1 hI
  obtain ⟨h1, h2⟩ := five_set hB.out.b 2 false p L C e false
  have HN : Hid _ := h1 _ _ HV.out
  have HQ : Hid _ := h2 _ hB.out.q hB.out.v
  clear h1 h2 HV
  obtain ⟨c0, c1, c2, c3, c4⟩ := hB.out.b
  have hf := hB.out.f
  have HE : Hid (-1074 ≤ e ∧ e ≤ 2000) := ⟨e0, e1⟩
  clear hB e0 e1
  go_wp2_with fail
  refine bodyPost_ret (v := .agg #[.int .i64 2, .bool false, .slice p L C, .int .i64 e, .bool false]) (by simp [results, Try.results27, go_sem, c0, c1, c2, c3, c4]) rfl ⟨_, rfl, ⟨1, e, HN.out, by have := blen_le (n := 1) (k := 1) (by decide); omega, HE.out.1, HE.out.2, rfl⟩, HQ.out⟩
set_option maxHeartbeats 2000000 in
theorem off_any (a b : Nat) (ha : a < 4294967296) (hb : b < 4294967296) (fa : rung32 a < 2139095040) (fb : rung32 b < 2139095040) (w : World) : Calls Try.prog 30 #[.int .u32 (a : Int), .int .u32 (b : Int)] w fun x w' => ∃ v, x = .returned v ∧ Sz w' v (sampleZ a - sampleZ b).natAbs ∧ Q w w' := by
  have ew1 : IntKind.u64.wrap (a : Int) = a := by rw [IntKind.wrap_u64]; omega
  have ew2 : IntKind.u64.wrap (b : Int) = b := by rw [IntKind.wrap_u64]; omega
  have HF : Hid (rung32 a < 2139095040 ∧ rung32 b < 2139095040) := ⟨fa, fb⟩
  clear fa fb
  go_enter Try.func30, Try.ntmps30
  go_wp2_with fail
  have hB : Hid (ABox w _ w.heap.size) := ⟨(Q.refl w).cells _ _, (zero_box w).1, (zero_box w).2, Nat.le_refl _⟩
  generalize w.alloc (.cells #[.int .i64 0, .bool false, .slice none 0 0, .int .i64 0, .bool false] 38) = wz at hB ⊢
  refine (f32_any _).mono ?_
  rintro e' w1 ⟨rfl, q1⟩
  replace hB : Hid (ABox w w1 w.heap.size) := hB.out.next q1
  clear q1
  go_wp2_with fail
  refine (of32_any a _ ha).mono ?_
  rintro e' w2 ⟨v, rfl, hv1, q2⟩
  obtain ⟨k1, s1, p1, L1, C1, e1, m1, rfl⟩ := hv1.made
  have HV1 : Hid _ := hv1
  replace hB : Hid (ABox w w2 w.heap.size) := hB.out.next q2
  clear q2 hv1
  go_wp2_with fail
  refine (f32_any _).mono ?_
  rintro e' w3 ⟨rfl, q3⟩
  replace hB : Hid (ABox w w3 w.heap.size) := hB.out.next q3
  replace HV1 : Hid _ := q3.num HV1.out
  clear q3
  go_wp2_with fail
  refine (of32_any b _ hb).mono ?_
  rintro e' w4 ⟨v, rfl, hv2, q4⟩
  obtain ⟨k2, s2, p2, L2, C2, e2, m2, rfl⟩ := hv2.made
  have HV2 : Hid _ := num_opp hv2
  replace hB : Hid (ABox w w4 w.heap.size) := hB.out.next q4
  replace HV1 : Hid _ := q4.num HV1.out
  clear q4 hv2
  go_wp2_with fail
  replace hB : Hid (ABox w ((w4.alloc (.cells #[.int .i64 k1, .bool s1, .slice p1 L1 C1, .int .i64 e1, .bool m1] 38)).alloc (.cells #[.int .i64 k2, .bool (!s2), .slice p2 L2 C2, .int .i64 e2, .bool m2] 38)) w.heap.size) := hB.out.next (((Q.refl w4).cells _ _).cells _ _)
  replace HV1 : Hid (NumAt ((w4.alloc (.cells #[.int .i64 k1, .bool s1, .slice p1 L1 C1, .int .i64 e1, .bool m1] 38)).alloc (.cells #[.int .i64 k2, .bool (!s2), .slice p2 L2 C2, .int .i64 e2, .bool m2] 38)) _ _) := (((Q.refl w4).cells _ _).cells _ _).num HV1.out
  replace HV2 : Hid (NumAt ((w4.alloc (.cells #[.int .i64 k1, .bool s1, .slice p1 L1 C1, .int .i64 e1, .bool m1] 38)).alloc (.cells #[.int .i64 k2, .bool (!s2), .slice p2 L2 C2, .int .i64 e2, .bool m2] 38)) _ _) := (((Q.refl w4).cells _ _).cells _ _).num HV2.out
  generalize (w4.alloc (.cells #[.int .i64 k1, .bool s1, .slice p1 L1 C1, .int .i64 e1, .bool m1] 38)).alloc (.cells #[.int .i64 k2, .bool (!s2), .slice p2 L2 C2, .int .i64 e2, .bool m2] 38) = wy at hB HV1 HV2 ⊢
  refine (plusnum_any _ _ _ _ _ HV1.out HV2.out (single_small a) (small_opp (single_small b))).mono ?_
  rintro e' w5 ⟨v, rfl, hv3, q5⟩
  replace hB : Hid (ABox w w5 w.heap.size) := hB.out.next q5
  rw [single_num HF.out.1, single_num HF.out.2] at hv3
  obtain ⟨σ, N, pe, pz, _⟩ := plus_zs (sgn32 a) (!sgn32 b) (mag32 (rung32 a)) (mag32 (rung32 b)) (-149 + (plc32 (rung32 a) : Int)) (-149 + (plc32 (rung32 b) : Int)) false false (by omega) (by omega)
  have hv3 : NumAt w5 v (plusR (.fin (sgn32 a) (mag32 (rung32 a)) (-149 + (plc32 (rung32 a) : Int)) false) (.fin (!sgn32 b) (mag32 (rung32 b)) (-149 + (plc32 (rung32 b) : Int)) false)) := hv3
  rw [pe] at hv3
  have HS : Hid (blen N ≤ 2000 ∧ -1074 ≤ min (-149 + (plc32 (rung32 a) : Int)) (-149 + (plc32 (rung32 b) : Int)) ∧ min (-149 + (plc32 (rung32 a) : Int)) (-149 + (plc32 (rung32 b) : Int)) ≤ 2000 ∧ zm N (min (-149 + (plc32 (rung32 a) : Int)) (-149 + (plc32 (rung32 b) : Int))) = (sampleZ a - sampleZ b).natAbs) := by
    have ez : zm N (min (-149 + (plc32 (rung32 a) : Int)) (-149 + (plc32 (rung32 b) : Int))) = (sampleZ a - sampleZ b).natAbs := by
      rw [pz, signed_neg]
      unfold sampleZ
      rw [show (-149 + (plc32 (rung32 a) : Int) + 1074).toNat = plc32 (rung32 a) + 925 by omega, show (-149 + (plc32 (rung32 b) : Int) + 1074).toNat = plc32 (rung32 b) + 925 by omega, Int.sub_eq_add_neg]
    have ha1 := plc_le32 HF.out.1
    have hb1 := plc_le32 HF.out.2
    refine ⟨?_, by omega, by omega, ez⟩
    refine Nat.le_trans (blen_le (k := capJ + 1) ?_) (by unfold capJ; decide)
    have h1 := sampleZ_lt HF.out.1
    have h2 := sampleZ_lt HF.out.2
    have h3 : N ≤ zm N (min (-149 + (plc32 (rung32 a) : Int)) (-149 + (plc32 (rung32 b) : Int))) := by unfold zm; exact Nat.le_mul_of_pos_right _ (Nat.two_pow_pos _)
    rw [ez] at h3
    have h4 : N < 2 * 2 ^ capJ := by
      generalize 2 ^ capJ = J at *
      omega
    rw [Nat.pow_succ, Nat.mul_comm]; exact h4
  clear pe pz
  generalize min (-149 + (plc32 (rung32 a) : Int)) (-149 + (plc32 (rung32 b) : Int)) = E at *
  obtain ⟨nv, rfl, p, bb, L, C, rfl, hI⟩ := hv3
  have HV : Hid (NumAt w5 (.agg #[.int .i64 2, .bool false, .slice p L C, .int .i64 E, .bool false]) (.fin false N E false)) := ⟨_, rfl, p, bb, L, C, rfl, hI⟩
  clear hI HV1 HV2 q5
  replace hB : Hid (ABox w (w5.alloc (.cells #[.int .i64 2, .bool false, .slice p L C, .int .i64 E, .bool false] 38)) w.heap.size) := hB.out.next ((Q.refl w5).cells _ _)
  replace HV : Hid (NumAt (w5.alloc (.cells #[.int .i64 2, .bool false, .slice p L C, .int .i64 E, .bool false] 38)) (.agg #[.int .i64 2, .bool false, .slice p L C, .int .i64 E, .bool false]) (.fin false N E false)) := ((Q.refl w5).cells #[.int .i64 2, .bool false, .slice p L C, .int .i64 E, .bool false] 38).num HV.out
  obtain ⟨h1, h2⟩ := five_set hB.out.b 2 false p L C E false
  have HN : Hid _ := h1 _ _ HV.out
  have HQ : Hid _ := h2 _ hB.out.q hB.out.v
  clear h1 h2 HV
  obtain ⟨c0, c1, c2, c3, c4⟩ := hB.out.b
  have hf := hB.out.f
  clear hB
  go_wp2_with fail
  refine bodyPost_ret (v := .agg #[.int .i64 2, .bool false, .slice p L C, .int .i64 E, .bool false]) (by simp [results, Try.results30, go_sem, c0, c1, c2, c3, c4]) rfl ⟨_, rfl, ⟨N, E, HN.out, HS.out⟩, HQ.out⟩
end Go.Proofs.Ytedafbbpcpebbaa
