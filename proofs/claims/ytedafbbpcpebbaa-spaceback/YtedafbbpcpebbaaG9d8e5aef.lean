/- The helpers of the statements on what is near. -/
import Derived.Test.YtedafbbpcpebbaaGa34b2b13
import Derived.Test.YtedafbbpcpebbaaG89f3adde
import Derived.Test.YtedafbbpcpebbaaGe6da98f6
namespace Go.Proofs.Ytedafbbpcpebbaa
open Go.RowKit
set_option linter.unusedVariables false
set_option linter.unusedSimpArgs false

theorem and_low {V : Nat} (h : V < 4294967296) : bits .and .u32 (V : Int) 2147483647 = ((V % 2147483648 : Nat) : Int) := by
  have : bits .and .u32 (V : Int) 2147483647 = (V : Int) % 2147483648 := by go_bits2
  rw [this]; omega
theorem top_bit {V : Nat} (h : V < 4294967296) : (V : Int) / 2147483648 = if sgn32 V = true then 1 else 0 := by
  unfold sgn32
  by_cases k : V < 2147483648
  · have : V / 2147483648 % 2 = 0 := by omega
    rw [this]; simp; omega
  · have : V / 2147483648 % 2 = 1 := by omega
    rw [this]; simp; omega
theorem run_field1 {ρ : Operand → Value} {x : World} {d : Option Tmp} {ty : TypeId} {ps : String} {af : Array Edge} {g : Option (Nat × Bool)} {j V : Nat} (h : ρ (.tmp j) = ptrV V) : (execOp ρ { dst := d, op := .fieldAddr 38 (.tmp j) 1, type := ty, pos := ps, after := af, guard := g }).run Try.prog x = .ok (.value (.pointer (some ⟨V, 1, none⟩))) x := by
  simp [execOp, h, go_sem, ptrV]
theorem run_field2 {ρ : Operand → Value} {x : World} {d : Option Tmp} {ty : TypeId} {ps : String} {af : Array Edge} {g : Option (Nat × Bool)} {j V : Nat} (h : ρ (.tmp j) = ptrV V) : (execOp ρ { dst := d, op := .fieldAddr 38 (.tmp j) 2, type := ty, pos := ps, after := af, guard := g }).run Try.prog x = .ok (.value (.pointer (some ⟨V, 2, none⟩))) x := by
  simp [execOp, h, go_sem, ptrV]
theorem run_field3 {ρ : Operand → Value} {x : World} {d : Option Tmp} {ty : TypeId} {ps : String} {af : Array Edge} {g : Option (Nat × Bool)} {j V : Nat} (h : ρ (.tmp j) = ptrV V) : (execOp ρ { dst := d, op := .fieldAddr 38 (.tmp j) 3, type := ty, pos := ps, after := af, guard := g }).run Try.prog x = .ok (.value (.pointer (some ⟨V, 3, none⟩))) x := by
  simp [execOp, h, go_sem, ptrV]
theorem run_nat {ρ : Operand → Value} {x : World} {d : Option Tmp} {ty : TypeId} {ps : String} {af : Array Edge} {g : Option (Nat × Bool)} {j : Nat} {p : Addr} {v : Value} (h : ρ (.tmp j) = .pointer (some p)) (c : x.cell? p = some v) : (execOp ρ { dst := d, op := .load 36 (.tmp j), type := ty, pos := ps, after := af, guard := g }).run Try.prog x = .ok (.value v) x := by
  simp [execOp, h, go_sem, c]
theorem run_int {ρ : Operand → Value} {x : World} {d : Option Tmp} {ty : TypeId} {ps : String} {af : Array Edge} {g : Option (Nat × Bool)} {j : Nat} {p : Addr} {v : Value} (h : ρ (.tmp j) = .pointer (some p)) (c : x.cell? p = some v) : (execOp ρ { dst := d, op := .load 3 (.tmp j), type := ty, pos := ps, after := af, guard := g }).run Try.prog x = .ok (.value v) x := by
  simp [execOp, h, go_sem, c]
def natS (n : Nat) : Spec := ⟨fun v x => NatAt x v n, fun h q => q.nat h⟩
def oN_0 : Oper := { dst := some 11, op := .fieldAddr 38 (.tmp 2) 2, type := 0, pos := "outright.go:55", after := #[], guard := none }
def oN_1 : Oper := { dst := some 12, op := .load 36 (.tmp 11), type := 36, pos := "outright.go:55", after := #[⟨0, .data⟩], guard := none }
def oN_2 : Oper := { dst := some 13, op := .fieldAddr 38 (.tmp 2) 3, type := 0, pos := "outright.go:55", after := #[], guard := none }
def oN_3 : Oper := { dst := some 14, op := .load 3 (.tmp 13), type := 3, pos := "outright.go:55", after := #[⟨2, .data⟩], guard := none }
def oN_4 : Oper := { dst := some 15, op := .move (.tmp 5), type := 3, pos := "outright.go:55", after := #[], guard := none }
def oN_5 : Oper := { dst := some 16, op := .binOp .sub 3 (.tmp 14) (.tmp 15) 3, type := 3, pos := "outright.go:55", after := #[⟨3, .data⟩, ⟨4, .data⟩], guard := none }
def oN_6 : Oper := { dst := some 17, op := .call { callee := .value (.func 57), args := #[.tmp 12, .tmp 16], argTypes := #[36, 3] }, type := 36, pos := "outright.go:55", after := #[⟨1, .data⟩, ⟨5, .data⟩], guard := none }
def oN_7 : Oper := { dst := some 18, op := .fieldAddr 38 (.tmp 3) 2, type := 0, pos := "outright.go:55", after := #[], guard := none }
def oN_8 : Oper := { dst := some 19, op := .load 36 (.tmp 18), type := 36, pos := "outright.go:55", after := #[⟨7, .data⟩], guard := none }
def oN_9 : Oper := { dst := some 20, op := .fieldAddr 38 (.tmp 3) 3, type := 0, pos := "outright.go:55", after := #[], guard := none }
def oN_10 : Oper := { dst := some 21, op := .load 3 (.tmp 20), type := 3, pos := "outright.go:55", after := #[⟨9, .data⟩], guard := none }
def oN_11 : Oper := { dst := some 22, op := .move (.tmp 5), type := 3, pos := "outright.go:55", after := #[], guard := none }
def oN_12 : Oper := { dst := some 23, op := .binOp .sub 3 (.tmp 21) (.tmp 22) 3, type := 3, pos := "outright.go:55", after := #[⟨10, .data⟩, ⟨11, .data⟩], guard := none }
def oN_13 : Oper := { dst := some 24, op := .call { callee := .value (.func 57), args := #[.tmp 19, .tmp 23], argTypes := #[36, 3] }, type := 36, pos := "outright.go:55", after := #[⟨8, .data⟩, ⟨12, .data⟩, ⟨6, .chain⟩], guard := none }
def oN_14 : Oper := { dst := some 25, op := .call { callee := .value (.func 56), args := #[.tmp 17, .tmp 24], argTypes := #[36, 36] }, type := 3, pos := "outright.go:55", after := #[⟨6, .data⟩, ⟨13, .data⟩, ⟨13, .chain⟩], guard := none }
def oN_15 : Oper := { dst := some 26, op := .binOp .leq 3 (.tmp 25) (.const (.int .i64 0)) 3, type := 4, pos := "outright.go:55", after := #[⟨14, .data⟩], guard := none }
def oN_16 : Oper := { dst := some 4, op := .assign (.tmp 26), type := 4, pos := "outright.go:55", after := #[⟨15, .data⟩, ⟨14, .chain⟩, ⟨0, .phase⟩, ⟨1, .phase⟩, ⟨2, .phase⟩, ⟨3, .phase⟩, ⟨4, .phase⟩, ⟨5, .phase⟩, ⟨6, .phase⟩, ⟨7, .phase⟩, ⟨8, .phase⟩, ⟨9, .phase⟩, ⟨10, .phase⟩, ⟨11, .phase⟩, ⟨12, .phase⟩, ⟨13, .phase⟩, ⟨14, .phase⟩, ⟨15, .phase⟩], guard := none }
def opsN : List Oper := [oN_0, oN_1, oN_2, oN_3, oN_4, oN_5, oN_6, oN_7, oN_8, oN_9, oN_10, oN_11, oN_12, oN_13, oN_14, oN_15, oN_16]
def sN : List Nat := [11, 12, 13, 14, 15, 16, 17, 18, 19, 20, 21, 22, 23, 24, 25, 26]
def spN (Va Vb : Nat) (va vb : Value) (e f m : Int) (n k da db : Nat) : List Spec := [spV (.pointer (some ⟨Va, 2, none⟩)), spV va, spV (.pointer (some ⟨Va, 3, none⟩)), spV (.int .i64 e), spV (.int .i64 m), spV (.int .i64 (da : Nat)), natS (n * 2 ^ da), spV (.pointer (some ⟨Vb, 2, none⟩)), spV vb, spV (.pointer (some ⟨Vb, 3, none⟩)), spV (.int .i64 f), spV (.int .i64 m), spV (.int .i64 (db : Nat)), natS (k * 2 ^ db), spV (.int .i64 (cmpV (n * 2 ^ da) (k * 2 ^ db))), spV (.bool (decide (cmpV (n * 2 ^ da) (k * 2 ^ db) ≤ 0)))]
structure EnvN (a0 : Act) (w : World) (Va Vb : Nat) (va vb : Value) (e f m : Int) (n k da db : Nat) : Prop where
  h2 : a0.tmps[2]? = some (ptrV Va)
  h3 : a0.tmps[3]? = some (ptrV Vb)
  h5 : a0.tmps[5]? = some (.int .i64 m)
  a2 : w.cell? ⟨Va, 2, none⟩ = some va
  a3 : w.cell? ⟨Va, 3, none⟩ = some (.int .i64 e)
  b2 : w.cell? ⟨Vb, 2, none⟩ = some vb
  b3 : w.cell? ⟨Vb, 3, none⟩ = some (.int .i64 f)
  an : NatAt w va n
  bn : NatAt w vb k
  ad : IntKind.i64.wrap (e - m) = (da : Nat)
  bd : IntKind.i64.wrap (f - m) = (db : Nat)
  ac : n * 2 ^ da < cap
  bc : k * 2 ^ db < cap
theorem yN_0 {a0 : Act} {w : World} {Va Vb : Nat} {va vb : Value} {e f m : Int} {n k da db : Nat} (E : EnvN a0 w Va Vb va vb e f m n k da db) {R : Exit → Act → World → Prop} {a : Act} {x : World} (q : Q w x) (oth : ∀ j, j ∉ sN → a.tmps[j]? = a0.tmps[j]?) (dep : ∀ ed ∈ oN_0.after, Region.binds .any ed = true → ∀ t', sN[ed.on]? = some t' → ∃ v, a.tmps[t']? = some v ∧ specAt (spN Va Vb va vb e f m n k da db) ed.on v x) : Yld Try.prog R oN_0 a x 11 (fun v x' => specAt (spN Va Vb va vb e f m n k da db) 0 v x' ∧ (0 ∈ ([] : List Nat) → v = ptrV x.heap.size)) := by
  exact yld_run (x' := x) rfl (run_field2 (tmp_eval ((oth 2 (by decide)).trans E.h2))) (Q.refl x) ⟨rfl, fun h => absurd h (by decide)⟩
theorem yN_1 {a0 : Act} {w : World} {Va Vb : Nat} {va vb : Value} {e f m : Int} {n k da db : Nat} (E : EnvN a0 w Va Vb va vb e f m n k da db) {R : Exit → Act → World → Prop} {a : Act} {x : World} (q : Q w x) (oth : ∀ j, j ∉ sN → a.tmps[j]? = a0.tmps[j]?) (dep : ∀ ed ∈ oN_1.after, Region.binds .any ed = true → ∀ t', sN[ed.on]? = some t' → ∃ v, a.tmps[t']? = some v ∧ specAt (spN Va Vb va vb e f m n k da db) ed.on v x) : Yld Try.prog R oN_1 a x 12 (fun v x' => specAt (spN Va Vb va vb e f m n k da db) 1 v x' ∧ (1 ∈ ([] : List Nat) → v = ptrV x.heap.size)) := by
  obtain ⟨v0, t0, f0⟩ := dep ⟨0, .data⟩ (by simp [oN_1]) rfl 11 rfl
  have f0 : v0 = (.pointer (some ⟨Va, 2, none⟩)) := f0
  subst f0
  exact yld_run (x' := x) rfl (run_nat (tmp_eval t0) (q.cell E.a2)) (Q.refl x) ⟨rfl, fun h => absurd h (by decide)⟩
theorem yN_2 {a0 : Act} {w : World} {Va Vb : Nat} {va vb : Value} {e f m : Int} {n k da db : Nat} (E : EnvN a0 w Va Vb va vb e f m n k da db) {R : Exit → Act → World → Prop} {a : Act} {x : World} (q : Q w x) (oth : ∀ j, j ∉ sN → a.tmps[j]? = a0.tmps[j]?) (dep : ∀ ed ∈ oN_2.after, Region.binds .any ed = true → ∀ t', sN[ed.on]? = some t' → ∃ v, a.tmps[t']? = some v ∧ specAt (spN Va Vb va vb e f m n k da db) ed.on v x) : Yld Try.prog R oN_2 a x 13 (fun v x' => specAt (spN Va Vb va vb e f m n k da db) 2 v x' ∧ (2 ∈ ([] : List Nat) → v = ptrV x.heap.size)) := by
  exact yld_run (x' := x) rfl (run_field3 (tmp_eval ((oth 2 (by decide)).trans E.h2))) (Q.refl x) ⟨rfl, fun h => absurd h (by decide)⟩
theorem yN_3 {a0 : Act} {w : World} {Va Vb : Nat} {va vb : Value} {e f m : Int} {n k da db : Nat} (E : EnvN a0 w Va Vb va vb e f m n k da db) {R : Exit → Act → World → Prop} {a : Act} {x : World} (q : Q w x) (oth : ∀ j, j ∉ sN → a.tmps[j]? = a0.tmps[j]?) (dep : ∀ ed ∈ oN_3.after, Region.binds .any ed = true → ∀ t', sN[ed.on]? = some t' → ∃ v, a.tmps[t']? = some v ∧ specAt (spN Va Vb va vb e f m n k da db) ed.on v x) : Yld Try.prog R oN_3 a x 14 (fun v x' => specAt (spN Va Vb va vb e f m n k da db) 3 v x' ∧ (3 ∈ ([] : List Nat) → v = ptrV x.heap.size)) := by
  obtain ⟨v2, t2, f2⟩ := dep ⟨2, .data⟩ (by simp [oN_3]) rfl 13 rfl
  have f2 : v2 = (.pointer (some ⟨Va, 3, none⟩)) := f2
  subst f2
  exact yld_run (x' := x) rfl (run_int (tmp_eval t2) (q.cell E.a3)) (Q.refl x) ⟨rfl, fun h => absurd h (by decide)⟩
theorem yN_4 {a0 : Act} {w : World} {Va Vb : Nat} {va vb : Value} {e f m : Int} {n k da db : Nat} (E : EnvN a0 w Va Vb va vb e f m n k da db) {R : Exit → Act → World → Prop} {a : Act} {x : World} (q : Q w x) (oth : ∀ j, j ∉ sN → a.tmps[j]? = a0.tmps[j]?) (dep : ∀ ed ∈ oN_4.after, Region.binds .any ed = true → ∀ t', sN[ed.on]? = some t' → ∃ v, a.tmps[t']? = some v ∧ specAt (spN Va Vb va vb e f m n k da db) ed.on v x) : Yld Try.prog R oN_4 a x 15 (fun v x' => specAt (spN Va Vb va vb e f m n k da db) 4 v x' ∧ (4 ∈ ([] : List Nat) → v = ptrV x.heap.size)) := by
  exact yld_move ((oth 5 (by decide)).trans E.h5) ⟨rfl, fun h => absurd h (by decide)⟩
theorem yN_5 {a0 : Act} {w : World} {Va Vb : Nat} {va vb : Value} {e f m : Int} {n k da db : Nat} (E : EnvN a0 w Va Vb va vb e f m n k da db) {R : Exit → Act → World → Prop} {a : Act} {x : World} (q : Q w x) (oth : ∀ j, j ∉ sN → a.tmps[j]? = a0.tmps[j]?) (dep : ∀ ed ∈ oN_5.after, Region.binds .any ed = true → ∀ t', sN[ed.on]? = some t' → ∃ v, a.tmps[t']? = some v ∧ specAt (spN Va Vb va vb e f m n k da db) ed.on v x) : Yld Try.prog R oN_5 a x 16 (fun v x' => specAt (spN Va Vb va vb e f m n k da db) 5 v x' ∧ (5 ∈ ([] : List Nat) → v = ptrV x.heap.size)) := by
  obtain ⟨v3, t3, f3⟩ := dep ⟨3, .data⟩ (by simp [oN_5]) rfl 14 rfl
  have f3 : v3 = (.int .i64 e) := f3
  subst f3
  obtain ⟨v4, t4, f4⟩ := dep ⟨4, .data⟩ (by simp [oN_5]) rfl 15 rfl
  have f4 : v4 = (.int .i64 m) := f4
  subst f4
  exact yld_run (x' := x) rfl (run_sub64 (tmp_eval t3) (tmp_eval t4) E.ad) (Q.refl x) ⟨rfl, fun h => absurd h (by decide)⟩
theorem yN_6 {a0 : Act} {w : World} {Va Vb : Nat} {va vb : Value} {e f m : Int} {n k da db : Nat} (E : EnvN a0 w Va Vb va vb e f m n k da db) {R : Exit → Act → World → Prop} {a : Act} {x : World} (q : Q w x) (oth : ∀ j, j ∉ sN → a.tmps[j]? = a0.tmps[j]?) (dep : ∀ ed ∈ oN_6.after, Region.binds .any ed = true → ∀ t', sN[ed.on]? = some t' → ∃ v, a.tmps[t']? = some v ∧ specAt (spN Va Vb va vb e f m n k da db) ed.on v x) : Yld Try.prog R oN_6 a x 17 (fun v x' => specAt (spN Va Vb va vb e f m n k da db) 6 v x' ∧ (6 ∈ ([] : List Nat) → v = ptrV x.heap.size)) := by
  obtain ⟨v1, t1, f1⟩ := dep ⟨1, .data⟩ (by simp [oN_6]) rfl 12 rfl
  have f1 : v1 = va := f1
  subst f1
  obtain ⟨v5, t5, f5⟩ := dep ⟨5, .data⟩ (by simp [oN_6]) rfl 16 rfl
  have f5 : v5 = (.int .i64 (da : Nat)) := f5
  subst f5
  refine yld_call (enters_of Try.func57 (by kernel_rfl) rfl) (args2 t1 t5) ((up_any _ n da x (q.nat E.an) E.ac).mono ?_)
  rintro y x' ⟨v, rfl, h, q'⟩
  exact ⟨v, rfl, q', h, fun h => absurd h (by decide)⟩
theorem yN_7 {a0 : Act} {w : World} {Va Vb : Nat} {va vb : Value} {e f m : Int} {n k da db : Nat} (E : EnvN a0 w Va Vb va vb e f m n k da db) {R : Exit → Act → World → Prop} {a : Act} {x : World} (q : Q w x) (oth : ∀ j, j ∉ sN → a.tmps[j]? = a0.tmps[j]?) (dep : ∀ ed ∈ oN_7.after, Region.binds .any ed = true → ∀ t', sN[ed.on]? = some t' → ∃ v, a.tmps[t']? = some v ∧ specAt (spN Va Vb va vb e f m n k da db) ed.on v x) : Yld Try.prog R oN_7 a x 18 (fun v x' => specAt (spN Va Vb va vb e f m n k da db) 7 v x' ∧ (7 ∈ ([] : List Nat) → v = ptrV x.heap.size)) := by
  exact yld_run (x' := x) rfl (run_field2 (tmp_eval ((oth 3 (by decide)).trans E.h3))) (Q.refl x) ⟨rfl, fun h => absurd h (by decide)⟩
theorem yN_8 {a0 : Act} {w : World} {Va Vb : Nat} {va vb : Value} {e f m : Int} {n k da db : Nat} (E : EnvN a0 w Va Vb va vb e f m n k da db) {R : Exit → Act → World → Prop} {a : Act} {x : World} (q : Q w x) (oth : ∀ j, j ∉ sN → a.tmps[j]? = a0.tmps[j]?) (dep : ∀ ed ∈ oN_8.after, Region.binds .any ed = true → ∀ t', sN[ed.on]? = some t' → ∃ v, a.tmps[t']? = some v ∧ specAt (spN Va Vb va vb e f m n k da db) ed.on v x) : Yld Try.prog R oN_8 a x 19 (fun v x' => specAt (spN Va Vb va vb e f m n k da db) 8 v x' ∧ (8 ∈ ([] : List Nat) → v = ptrV x.heap.size)) := by
  obtain ⟨v7, t7, f7⟩ := dep ⟨7, .data⟩ (by simp [oN_8]) rfl 18 rfl
  have f7 : v7 = (.pointer (some ⟨Vb, 2, none⟩)) := f7
  subst f7
  exact yld_run (x' := x) rfl (run_nat (tmp_eval t7) (q.cell E.b2)) (Q.refl x) ⟨rfl, fun h => absurd h (by decide)⟩
theorem yN_9 {a0 : Act} {w : World} {Va Vb : Nat} {va vb : Value} {e f m : Int} {n k da db : Nat} (E : EnvN a0 w Va Vb va vb e f m n k da db) {R : Exit → Act → World → Prop} {a : Act} {x : World} (q : Q w x) (oth : ∀ j, j ∉ sN → a.tmps[j]? = a0.tmps[j]?) (dep : ∀ ed ∈ oN_9.after, Region.binds .any ed = true → ∀ t', sN[ed.on]? = some t' → ∃ v, a.tmps[t']? = some v ∧ specAt (spN Va Vb va vb e f m n k da db) ed.on v x) : Yld Try.prog R oN_9 a x 20 (fun v x' => specAt (spN Va Vb va vb e f m n k da db) 9 v x' ∧ (9 ∈ ([] : List Nat) → v = ptrV x.heap.size)) := by
  exact yld_run (x' := x) rfl (run_field3 (tmp_eval ((oth 3 (by decide)).trans E.h3))) (Q.refl x) ⟨rfl, fun h => absurd h (by decide)⟩
theorem yN_10 {a0 : Act} {w : World} {Va Vb : Nat} {va vb : Value} {e f m : Int} {n k da db : Nat} (E : EnvN a0 w Va Vb va vb e f m n k da db) {R : Exit → Act → World → Prop} {a : Act} {x : World} (q : Q w x) (oth : ∀ j, j ∉ sN → a.tmps[j]? = a0.tmps[j]?) (dep : ∀ ed ∈ oN_10.after, Region.binds .any ed = true → ∀ t', sN[ed.on]? = some t' → ∃ v, a.tmps[t']? = some v ∧ specAt (spN Va Vb va vb e f m n k da db) ed.on v x) : Yld Try.prog R oN_10 a x 21 (fun v x' => specAt (spN Va Vb va vb e f m n k da db) 10 v x' ∧ (10 ∈ ([] : List Nat) → v = ptrV x.heap.size)) := by
  obtain ⟨v9, t9, f9⟩ := dep ⟨9, .data⟩ (by simp [oN_10]) rfl 20 rfl
  have f9 : v9 = (.pointer (some ⟨Vb, 3, none⟩)) := f9
  subst f9
  exact yld_run (x' := x) rfl (run_int (tmp_eval t9) (q.cell E.b3)) (Q.refl x) ⟨rfl, fun h => absurd h (by decide)⟩
theorem yN_11 {a0 : Act} {w : World} {Va Vb : Nat} {va vb : Value} {e f m : Int} {n k da db : Nat} (E : EnvN a0 w Va Vb va vb e f m n k da db) {R : Exit → Act → World → Prop} {a : Act} {x : World} (q : Q w x) (oth : ∀ j, j ∉ sN → a.tmps[j]? = a0.tmps[j]?) (dep : ∀ ed ∈ oN_11.after, Region.binds .any ed = true → ∀ t', sN[ed.on]? = some t' → ∃ v, a.tmps[t']? = some v ∧ specAt (spN Va Vb va vb e f m n k da db) ed.on v x) : Yld Try.prog R oN_11 a x 22 (fun v x' => specAt (spN Va Vb va vb e f m n k da db) 11 v x' ∧ (11 ∈ ([] : List Nat) → v = ptrV x.heap.size)) := by
  exact yld_move ((oth 5 (by decide)).trans E.h5) ⟨rfl, fun h => absurd h (by decide)⟩
theorem yN_12 {a0 : Act} {w : World} {Va Vb : Nat} {va vb : Value} {e f m : Int} {n k da db : Nat} (E : EnvN a0 w Va Vb va vb e f m n k da db) {R : Exit → Act → World → Prop} {a : Act} {x : World} (q : Q w x) (oth : ∀ j, j ∉ sN → a.tmps[j]? = a0.tmps[j]?) (dep : ∀ ed ∈ oN_12.after, Region.binds .any ed = true → ∀ t', sN[ed.on]? = some t' → ∃ v, a.tmps[t']? = some v ∧ specAt (spN Va Vb va vb e f m n k da db) ed.on v x) : Yld Try.prog R oN_12 a x 23 (fun v x' => specAt (spN Va Vb va vb e f m n k da db) 12 v x' ∧ (12 ∈ ([] : List Nat) → v = ptrV x.heap.size)) := by
  obtain ⟨v10, t10, f10⟩ := dep ⟨10, .data⟩ (by simp [oN_12]) rfl 21 rfl
  have f10 : v10 = (.int .i64 f) := f10
  subst f10
  obtain ⟨v11, t11, f11⟩ := dep ⟨11, .data⟩ (by simp [oN_12]) rfl 22 rfl
  have f11 : v11 = (.int .i64 m) := f11
  subst f11
  exact yld_run (x' := x) rfl (run_sub64 (tmp_eval t10) (tmp_eval t11) E.bd) (Q.refl x) ⟨rfl, fun h => absurd h (by decide)⟩
theorem yN_13 {a0 : Act} {w : World} {Va Vb : Nat} {va vb : Value} {e f m : Int} {n k da db : Nat} (E : EnvN a0 w Va Vb va vb e f m n k da db) {R : Exit → Act → World → Prop} {a : Act} {x : World} (q : Q w x) (oth : ∀ j, j ∉ sN → a.tmps[j]? = a0.tmps[j]?) (dep : ∀ ed ∈ oN_13.after, Region.binds .any ed = true → ∀ t', sN[ed.on]? = some t' → ∃ v, a.tmps[t']? = some v ∧ specAt (spN Va Vb va vb e f m n k da db) ed.on v x) : Yld Try.prog R oN_13 a x 24 (fun v x' => specAt (spN Va Vb va vb e f m n k da db) 13 v x' ∧ (13 ∈ ([] : List Nat) → v = ptrV x.heap.size)) := by
  obtain ⟨v8, t8, f8⟩ := dep ⟨8, .data⟩ (by simp [oN_13]) rfl 19 rfl
  have f8 : v8 = vb := f8
  subst f8
  obtain ⟨v12, t12, f12⟩ := dep ⟨12, .data⟩ (by simp [oN_13]) rfl 23 rfl
  have f12 : v12 = (.int .i64 (db : Nat)) := f12
  subst f12
  refine yld_call (enters_of Try.func57 (by kernel_rfl) rfl) (args2 t8 t12) ((up_any _ k db x (q.nat E.bn) E.bc).mono ?_)
  rintro y x' ⟨v, rfl, h, q'⟩
  exact ⟨v, rfl, q', h, fun h => absurd h (by decide)⟩
theorem yN_14 {a0 : Act} {w : World} {Va Vb : Nat} {va vb : Value} {e f m : Int} {n k da db : Nat} (E : EnvN a0 w Va Vb va vb e f m n k da db) {R : Exit → Act → World → Prop} {a : Act} {x : World} (q : Q w x) (oth : ∀ j, j ∉ sN → a.tmps[j]? = a0.tmps[j]?) (dep : ∀ ed ∈ oN_14.after, Region.binds .any ed = true → ∀ t', sN[ed.on]? = some t' → ∃ v, a.tmps[t']? = some v ∧ specAt (spN Va Vb va vb e f m n k da db) ed.on v x) : Yld Try.prog R oN_14 a x 25 (fun v x' => specAt (spN Va Vb va vb e f m n k da db) 14 v x' ∧ (14 ∈ ([] : List Nat) → v = ptrV x.heap.size)) := by
  obtain ⟨v6, t6, f6⟩ := dep ⟨6, .data⟩ (by simp [oN_14]) rfl 17 rfl
  have f6 : (natS (n * 2 ^ da)).p v6 x := f6
  obtain ⟨v13, t13, f13⟩ := dep ⟨13, .data⟩ (by simp [oN_14]) rfl 24 rfl
  have f13 : (natS (k * 2 ^ db)).p v13 x := f13
  refine yld_call (enters_of Try.func56 (by kernel_rfl) rfl) (args2 t6 t13) ((compare_any _ _ _ _ x f6 f13).mono ?_)
  rintro y x' ⟨rfl, q'⟩
  exact ⟨_, rfl, q', rfl, fun h => absurd h (by decide)⟩
theorem yN_15 {a0 : Act} {w : World} {Va Vb : Nat} {va vb : Value} {e f m : Int} {n k da db : Nat} (E : EnvN a0 w Va Vb va vb e f m n k da db) {R : Exit → Act → World → Prop} {a : Act} {x : World} (q : Q w x) (oth : ∀ j, j ∉ sN → a.tmps[j]? = a0.tmps[j]?) (dep : ∀ ed ∈ oN_15.after, Region.binds .any ed = true → ∀ t', sN[ed.on]? = some t' → ∃ v, a.tmps[t']? = some v ∧ specAt (spN Va Vb va vb e f m n k da db) ed.on v x) : Yld Try.prog R oN_15 a x 26 (fun v x' => specAt (spN Va Vb va vb e f m n k da db) 15 v x' ∧ (15 ∈ ([] : List Nat) → v = ptrV x.heap.size)) := by
  obtain ⟨v14, t14, f14⟩ := dep ⟨14, .data⟩ (by simp [oN_15]) rfl 25 rfl
  have f14 : v14 = (.int .i64 (cmpV (n * 2 ^ da) (k * 2 ^ db))) := f14
  subst f14
  exact yld_run (x' := x) rfl (run_leq64 (tmp_eval t14) rfl) (Q.refl x) ⟨rfl, fun h => absurd h (by decide)⟩
theorem hopN {a0 : Act} {w : World} {Va Vb : Nat} {va vb : Value} {e f m : Int} {n k da db : Nat} (E : EnvN a0 w Va Vb va vb e f m n k da db) {R : Exit → Act → World → Prop} : ∀ (i t : Nat) (o : Oper) (a : Act) (x : World), i < 16 → sN[i]? = some t → opsN[i]? = some o → Q w x → (∀ j, j ∉ sN → a.tmps[j]? = a0.tmps[j]?) → (∀ ed ∈ o.after, Region.binds .any ed = true → ∀ t', sN[ed.on]? = some t' → ∃ v, a.tmps[t']? = some v ∧ specAt (spN Va Vb va vb e f m n k da db) ed.on v x) → Yld Try.prog R o a x t (fun v x' => specAt (spN Va Vb va vb e f m n k da db) i v x' ∧ (i ∈ ([] : List Nat) → v = ptrV x.heap.size))
  | 0, t, o, a, x, hi, ht, ho, q, oth, dep => by
    have e1 : oN_0 = o := Option.some.inj ho
    have e2 : 11 = t := Option.some.inj ht
    subst e1 e2
    exact yN_0 E q oth dep
  | 1, t, o, a, x, hi, ht, ho, q, oth, dep => by
    have e1 : oN_1 = o := Option.some.inj ho
    have e2 : 12 = t := Option.some.inj ht
    subst e1 e2
    exact yN_1 E q oth dep
  | 2, t, o, a, x, hi, ht, ho, q, oth, dep => by
    have e1 : oN_2 = o := Option.some.inj ho
    have e2 : 13 = t := Option.some.inj ht
    subst e1 e2
    exact yN_2 E q oth dep
  | 3, t, o, a, x, hi, ht, ho, q, oth, dep => by
    have e1 : oN_3 = o := Option.some.inj ho
    have e2 : 14 = t := Option.some.inj ht
    subst e1 e2
    exact yN_3 E q oth dep
  | 4, t, o, a, x, hi, ht, ho, q, oth, dep => by
    have e1 : oN_4 = o := Option.some.inj ho
    have e2 : 15 = t := Option.some.inj ht
    subst e1 e2
    exact yN_4 E q oth dep
  | 5, t, o, a, x, hi, ht, ho, q, oth, dep => by
    have e1 : oN_5 = o := Option.some.inj ho
    have e2 : 16 = t := Option.some.inj ht
    subst e1 e2
    exact yN_5 E q oth dep
  | 6, t, o, a, x, hi, ht, ho, q, oth, dep => by
    have e1 : oN_6 = o := Option.some.inj ho
    have e2 : 17 = t := Option.some.inj ht
    subst e1 e2
    exact yN_6 E q oth dep
  | 7, t, o, a, x, hi, ht, ho, q, oth, dep => by
    have e1 : oN_7 = o := Option.some.inj ho
    have e2 : 18 = t := Option.some.inj ht
    subst e1 e2
    exact yN_7 E q oth dep
  | 8, t, o, a, x, hi, ht, ho, q, oth, dep => by
    have e1 : oN_8 = o := Option.some.inj ho
    have e2 : 19 = t := Option.some.inj ht
    subst e1 e2
    exact yN_8 E q oth dep
  | 9, t, o, a, x, hi, ht, ho, q, oth, dep => by
    have e1 : oN_9 = o := Option.some.inj ho
    have e2 : 20 = t := Option.some.inj ht
    subst e1 e2
    exact yN_9 E q oth dep
  | 10, t, o, a, x, hi, ht, ho, q, oth, dep => by
    have e1 : oN_10 = o := Option.some.inj ho
    have e2 : 21 = t := Option.some.inj ht
    subst e1 e2
    exact yN_10 E q oth dep
  | 11, t, o, a, x, hi, ht, ho, q, oth, dep => by
    have e1 : oN_11 = o := Option.some.inj ho
    have e2 : 22 = t := Option.some.inj ht
    subst e1 e2
    exact yN_11 E q oth dep
  | 12, t, o, a, x, hi, ht, ho, q, oth, dep => by
    have e1 : oN_12 = o := Option.some.inj ho
    have e2 : 23 = t := Option.some.inj ht
    subst e1 e2
    exact yN_12 E q oth dep
  | 13, t, o, a, x, hi, ht, ho, q, oth, dep => by
    have e1 : oN_13 = o := Option.some.inj ho
    have e2 : 24 = t := Option.some.inj ht
    subst e1 e2
    exact yN_13 E q oth dep
  | 14, t, o, a, x, hi, ht, ho, q, oth, dep => by
    have e1 : oN_14 = o := Option.some.inj ho
    have e2 : 25 = t := Option.some.inj ht
    subst e1 e2
    exact yN_14 E q oth dep
  | 15, t, o, a, x, hi, ht, ho, q, oth, dep => by
    have e1 : oN_15 = o := Option.some.inj ho
    have e2 : 26 = t := Option.some.inj ht
    subst e1 e2
    exact yN_15 E q oth dep
  | i + 16, t, o, a, x, hi, ht, ho, q, oth, dep => absurd hi (by omega)
theorem regionN {id : Nat} {l : List Oper} {R : Exit → Act → World → Prop} {a0 : Act} {w : World} {Va Vb : Nat} {va vb : Value} {e f m : Int} {n k da db : Nat} (hl : l = opsN) (hsz : a0.tmps.size = 27) (E : EnvN a0 w Va Vb va vb e f m n k da db)
    (hR : ∀ a x, Q w x → a.defers = a0.defers → a.tmps[4]? = some (.bool (decide (cmpV (n * 2 ^ da) (k * 2 ^ db) ≤ 0))) → R .normal a x) :
    (Code.region id l.toArray true).wp Try.prog R a0 w := by
  subst hl
  refine wp_region_facts 16 sN (specAt (spN Va Vb va vb e f m n k da db)) [] (by kernel_rfl) (by decide +kernel) (by decide) rfl (by decide) (fun t ht => ?_) specAt.next (fun i v x hi hf => by cases hi) (hopN E) (fun a x q size defers other facts apart => ?_)
  · rw [hsz]
    revert t
    decide
  · obtain ⟨v, t26, f26⟩ := facts 15 26 (by decide) rfl
    have f26 : v = .bool (decide (cmpV (n * 2 ^ da) (k * 2 ^ db) ≤ 0)) := f26
    subst f26
    refine ⟨?_⟩
    show R .normal (a.put (some 4) (a.eval (.tmp 26))) x
    rw [tmp_eval t26]
    refine hR _ _ q defers (Array.getElem?_setIfInBounds_self_of_lt ?_)
    rw [size, hsz]
    decide
theorem cmpV_le (x y : Nat) : decide (cmpV x y ≤ 0) = decide (x ≤ y) := by
  rw [decide_eq_decide]
  unfold cmpV
  split
  · simp; omega
  · split
    · simp; omega
    · simp; omega
/-- Is x's value above y's? -/
def aboveB (x y : Nat) : Bool := !nanN x && (!nanN y && decide (srung32 y < srung32 x))
theorem rise_above {x y : Nat} (h : Rise x y) : aboveB x y = false := by
  unfold aboveB
  rcases h with h | h | h
  · rw [h]; rfl
  · rw [h]; simp
  · rw [decide_eq_false (by omega)]; simp
end Go.Proofs.Ytedafbbpcpebbaa
