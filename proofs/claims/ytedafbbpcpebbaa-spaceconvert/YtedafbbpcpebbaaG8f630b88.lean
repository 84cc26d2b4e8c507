/- The document's YCC. -/
import Derived.Test.YtedafbbpcpebbaaG3f9e338d
namespace Go.Proofs.Ytedafbbpcpebbaa
open Go.RowKit
set_option linter.unusedVariables false
set_option linter.unusedSimpArgs false

theorem argsTC {a : Act} {j : Nat} {v : Value} {c : Value} (h : a.tmps[j]? = some v) : (#[Operand.tmp j, Operand.const c] : Array Operand).map a.eval = #[v, c] := by
  have h := tmp_eval h
  have hc : a.eval (.const c) = c := rfl
  simp [h, hc]
theorem shfW_lt (x : Nat) (n : Int) : shfW x n < 18446744073709551616 := roundD_lt _
theorem wideW_lt7 (a : Nat) : wideW a < 18446744073709551616 := by rw [← wide_told]; exact roundD_lt _
theorem r7plus (va vb : Value) (A B : Nat) (w : World) (hx : NumAt w va (numOf Ieee.double A)) (hy : NumAt w vb (numOf Ieee.double B)) : Calls Try.prog 34 #[va, vb] w fun e w' => ∃ v', e = .returned v' ∧ NumAt w' v' (numOf Ieee.double (opT .add A B)) ∧ Q w w' := by
  have h := plus7_any va vb _ _ w hx hy (dblR_of A) (dblR_of B)
  rw [add_link] at h; exact h
theorem r7less (va vb : Value) (A B : Nat) (w : World) (hx : NumAt w va (numOf Ieee.double A)) (hy : NumAt w vb (numOf Ieee.double B)) : Calls Try.prog 37 #[va, vb] w fun e w' => ∃ v', e = .returned v' ∧ NumAt w' v' (numOf Ieee.double (opT .sub A B)) ∧ Q w w' := by
  have h := less7_any va vb _ _ w hx hy (dblR_of A) (dblR_of B)
  rw [sub_link] at h; exact h
theorem r7times (va : Value) (A : Nat) (n : Int) (n0 : -100 ≤ n) (n1 : n ≤ 100) (w : World) (hx : NumAt w va (numOf Ieee.double A)) : Calls Try.prog 35 #[va, .int .i64 n] w fun e w' => ∃ v', e = .returned v' ∧ NumAt w' v' (numOf Ieee.double (shfW A n)) ∧ Q w w' :=
  times7_any va _ n n0 n1 w hx (dblR_of A)
def oTy_0 : Oper := { dst := some 23, op := .load 38 (.tmp 11), type := 38, pos := "halideref7.go:41", after := #[], guard := none }
def oTy_1 : Oper := { dst := some 24, op := .load 38 (.tmp 12), type := 38, pos := "halideref7.go:41", after := #[], guard := none }
def oTy_2 : Oper := { dst := some 25, op := .call { callee := .value (.func 34), args := #[.tmp 23, .tmp 24], argTypes := #[38, 38] }, type := 38, pos := "halideref7.go:41", after := #[⟨0, .data⟩, ⟨1, .data⟩], guard := none }
def oTy_3 : Oper := { dst := some 26, op := .call { callee := .value (.func 35), args := #[.tmp 25, .const (.int .i64 (-2))], argTypes := #[38, 3] }, type := 38, pos := "halideref7.go:41", after := #[⟨2, .data⟩, ⟨2, .chain⟩], guard := none }
def oTy_4 : Oper := { dst := some 27, op := .call { callee := .value (.func 36), args := #[.tmp 26], argTypes := #[38] }, type := 23, pos := "halideref7.go:41", after := #[⟨3, .data⟩, ⟨3, .chain⟩], guard := none }
def oTy_5 : Oper := { dst := some 28, op := .load 38 (.tmp 12), type := 38, pos := "halideref7.go:41", after := #[], guard := none }
def oTy_6 : Oper := { dst := some 29, op := .load 38 (.tmp 11), type := 38, pos := "halideref7.go:41", after := #[], guard := none }
def oTy_7 : Oper := { dst := some 30, op := .call { callee := .value (.func 37), args := #[.tmp 28, .tmp 29], argTypes := #[38, 38] }, type := 38, pos := "halideref7.go:41", after := #[⟨5, .data⟩, ⟨6, .data⟩, ⟨4, .chain⟩], guard := none }
def oTy_8 : Oper := { dst := some 31, op := .call { callee := .value (.func 35), args := #[.tmp 30, .const (.int .i64 (-2))], argTypes := #[38, 3] }, type := 38, pos := "halideref7.go:41", after := #[⟨7, .data⟩, ⟨7, .chain⟩], guard := none }
def oTy_9 : Oper := { dst := some 32, op := .call { callee := .value (.func 36), args := #[.tmp 31], argTypes := #[38] }, type := 23, pos := "halideref7.go:41", after := #[⟨8, .data⟩, ⟨8, .chain⟩], guard := none }
def oTy_10 : Oper := { dst := some 33, op := .load 38 (.tmp 9), type := 38, pos := "halideref7.go:41", after := #[], guard := none }
def oTy_11 : Oper := { dst := some 34, op := .load 38 (.tmp 10), type := 38, pos := "halideref7.go:41", after := #[], guard := none }
def oTy_12 : Oper := { dst := some 35, op := .call { callee := .value (.func 37), args := #[.tmp 33, .tmp 34], argTypes := #[38, 38] }, type := 38, pos := "halideref7.go:41", after := #[⟨10, .data⟩, ⟨11, .data⟩, ⟨9, .chain⟩], guard := none }
def oTy_13 : Oper := { dst := some 36, op := .call { callee := .value (.func 35), args := #[.tmp 35, .const (.int .i64 (-1))], argTypes := #[38, 3] }, type := 38, pos := "halideref7.go:41", after := #[⟨12, .data⟩, ⟨12, .chain⟩], guard := none }
def oTy_14 : Oper := { dst := some 37, op := .call { callee := .value (.func 36), args := #[.tmp 36], argTypes := #[38] }, type := 23, pos := "halideref7.go:41", after := #[⟨13, .data⟩, ⟨13, .chain⟩], guard := none }
def oTy_15 : Oper := { dst := some 6, op := .assign (.tmp 27), type := 23, pos := "halideref7.go:41", after := #[⟨4, .data⟩, ⟨14, .chain⟩, ⟨0, .phase⟩, ⟨1, .phase⟩, ⟨2, .phase⟩, ⟨3, .phase⟩, ⟨4, .phase⟩, ⟨5, .textOnly .lateStores⟩, ⟨6, .textOnly .lateStores⟩, ⟨7, .textOnly .lateStoresUnsure⟩, ⟨8, .textOnly .lateStoresUnsure⟩, ⟨9, .textOnly .lateStoresUnsure⟩, ⟨10, .textOnly .lateStores⟩, ⟨11, .textOnly .lateStores⟩, ⟨12, .textOnly .lateStoresUnsure⟩, ⟨13, .textOnly .lateStoresUnsure⟩, ⟨14, .textOnly .lateStoresUnsure⟩], guard := none }
def oTy_16 : Oper := { dst := some 7, op := .assign (.tmp 32), type := 23, pos := "halideref7.go:41", after := #[⟨9, .data⟩, ⟨15, .chain⟩, ⟨0, .phase⟩, ⟨1, .phase⟩, ⟨2, .phase⟩, ⟨3, .phase⟩, ⟨4, .phase⟩, ⟨5, .phase⟩, ⟨6, .phase⟩, ⟨7, .phase⟩, ⟨8, .phase⟩, ⟨9, .phase⟩, ⟨10, .textOnly .lateStores⟩, ⟨11, .textOnly .lateStores⟩, ⟨12, .textOnly .lateStoresUnsure⟩, ⟨13, .textOnly .lateStoresUnsure⟩, ⟨14, .textOnly .lateStoresUnsure⟩, ⟨15, .phase⟩], guard := none }
def oTy_17 : Oper := { dst := some 8, op := .assign (.tmp 37), type := 23, pos := "halideref7.go:41", after := #[⟨14, .data⟩, ⟨16, .chain⟩, ⟨0, .phase⟩, ⟨1, .phase⟩, ⟨2, .phase⟩, ⟨3, .phase⟩, ⟨4, .phase⟩, ⟨5, .phase⟩, ⟨6, .phase⟩, ⟨7, .phase⟩, ⟨8, .phase⟩, ⟨9, .phase⟩, ⟨10, .phase⟩, ⟨11, .phase⟩, ⟨12, .phase⟩, ⟨13, .phase⟩, ⟨14, .phase⟩, ⟨15, .phase⟩, ⟨16, .phase⟩], guard := none }
def opsTy : List Oper := [oTy_0, oTy_1, oTy_2, oTy_3, oTy_4, oTy_5, oTy_6, oTy_7, oTy_8, oTy_9, oTy_10, oTy_11, oTy_12, oTy_13, oTy_14, oTy_15, oTy_16, oTy_17]
def sTy : List Nat := [23, 24, 25, 26, 27, 28, 29, 30, 31, 32, 33, 34, 35, 36, 37, 6, 7, 8]
def spTy (V9 V10 V11 V12 X Z S D : Nat) : List Spec := [numQ (numOf Ieee.double (S)), numQ (numOf Ieee.double (D)), numQ (numOf Ieee.double (opT .add S D)), numQ (numOf Ieee.double (shfW (opT .add S D) (-2))), spV (.int .u32 (narW (shfW (opT .add S D) (-2)) : Nat)), numQ (numOf Ieee.double (D)), numQ (numOf Ieee.double (S)), numQ (numOf Ieee.double (opT .sub D S)), numQ (numOf Ieee.double (shfW (opT .sub D S) (-2))), spV (.int .u32 (narW (shfW (opT .sub D S) (-2)) : Nat)), numQ (numOf Ieee.double (X)), numQ (numOf Ieee.double (Z)), numQ (numOf Ieee.double (opT .sub X Z)), numQ (numOf Ieee.double (shfW (opT .sub X Z) (-1))), spV (.int .u32 (narW (shfW (opT .sub X Z) (-1)) : Nat)), spV (.int .u32 (narW (shfW (opT .add S D) (-2)) : Nat)), spV (.int .u32 (narW (shfW (opT .sub D S) (-2)) : Nat)), spV (.int .u32 (narW (shfW (opT .sub X Z) (-1)) : Nat))]
structure EnvTy (a0 : Act) (w : World) (V9 V10 V11 V12 X Z S D : Nat) : Prop where
  h9 : a0.tmps[9]? = some (ptrV V9)
  h10 : a0.tmps[10]? = some (ptrV V10)
  h11 : a0.tmps[11]? = some (ptrV V11)
  h12 : a0.tmps[12]? = some (ptrV V12)
  n9 : NBox w V9 (numOf Ieee.double X)
  n10 : NBox w V10 (numOf Ieee.double Z)
  n11 : NBox w V11 (numOf Ieee.double S)
  n12 : NBox w V12 (numOf Ieee.double D)
def skTy (i : Nat) : Bool := [].contains i
theorem yTy_0 {a0 : Act} {w : World} {V9 V10 V11 V12 X Z S D : Nat} (E : EnvTy a0 w V9 V10 V11 V12 X Z S D) {R : Exit → Act → World → Prop} {a : Act} {x : World} (q : Q w x) (oth : ∀ j, j ∉ sTy → a.tmps[j]? = a0.tmps[j]?) (dep : ∀ ed ∈ oTy_0.after, Region.binds .any ed = true → ∀ t', sTy[ed.on]? = some t' → ∃ v, a.tmps[t']? = some v ∧ specAt (spTy V9 V10 V11 V12 X Z S D) ed.on v x) : Yld Try.prog R oTy_0 a x 23 (specAt (spTy V9 V10 V11 V12 X Z S D) 0) := by
  obtain ⟨k, s, p, L, C, e, m, b1, b2⟩ := E.n11.next q
  exact yld_run (x' := x) rfl (run_num (tmp_eval ((oth 11 (by decide)).trans E.h11)) b1) (Q.refl x) b2
theorem yTy_1 {a0 : Act} {w : World} {V9 V10 V11 V12 X Z S D : Nat} (E : EnvTy a0 w V9 V10 V11 V12 X Z S D) {R : Exit → Act → World → Prop} {a : Act} {x : World} (q : Q w x) (oth : ∀ j, j ∉ sTy → a.tmps[j]? = a0.tmps[j]?) (dep : ∀ ed ∈ oTy_1.after, Region.binds .any ed = true → ∀ t', sTy[ed.on]? = some t' → ∃ v, a.tmps[t']? = some v ∧ specAt (spTy V9 V10 V11 V12 X Z S D) ed.on v x) : Yld Try.prog R oTy_1 a x 24 (specAt (spTy V9 V10 V11 V12 X Z S D) 1) := by
  obtain ⟨k, s, p, L, C, e, m, b1, b2⟩ := E.n12.next q
  exact yld_run (x' := x) rfl (run_num (tmp_eval ((oth 12 (by decide)).trans E.h12)) b1) (Q.refl x) b2
theorem yTy_2 {a0 : Act} {w : World} {V9 V10 V11 V12 X Z S D : Nat} (E : EnvTy a0 w V9 V10 V11 V12 X Z S D) {R : Exit → Act → World → Prop} {a : Act} {x : World} (q : Q w x) (oth : ∀ j, j ∉ sTy → a.tmps[j]? = a0.tmps[j]?) (dep : ∀ ed ∈ oTy_2.after, Region.binds .any ed = true → ∀ t', sTy[ed.on]? = some t' → ∃ v, a.tmps[t']? = some v ∧ specAt (spTy V9 V10 V11 V12 X Z S D) ed.on v x) : Yld Try.prog R oTy_2 a x 25 (specAt (spTy V9 V10 V11 V12 X Z S D) 2) := by
  obtain ⟨v0, t0, f0⟩ := dep ⟨0, .data⟩ (by simp [oTy_2]) rfl 23 rfl
  have f0 : (numQ (numOf Ieee.double (S))).p v0 x := f0
  obtain ⟨v1, t1, f1⟩ := dep ⟨1, .data⟩ (by simp [oTy_2]) rfl 24 rfl
  have f1 : (numQ (numOf Ieee.double (D))).p v1 x := f1
  refine yld_call (enters_of Try.func34 (by kernel_rfl) rfl) (args2 t0 t1) ((r7plus _ _ _ _ x f0 f1).mono ?_)
  rintro u x' ⟨v, rfl, h, q'⟩
  exact ⟨v, rfl, q', h⟩
theorem yTy_3 {a0 : Act} {w : World} {V9 V10 V11 V12 X Z S D : Nat} (E : EnvTy a0 w V9 V10 V11 V12 X Z S D) {R : Exit → Act → World → Prop} {a : Act} {x : World} (q : Q w x) (oth : ∀ j, j ∉ sTy → a.tmps[j]? = a0.tmps[j]?) (dep : ∀ ed ∈ oTy_3.after, Region.binds .any ed = true → ∀ t', sTy[ed.on]? = some t' → ∃ v, a.tmps[t']? = some v ∧ specAt (spTy V9 V10 V11 V12 X Z S D) ed.on v x) : Yld Try.prog R oTy_3 a x 26 (specAt (spTy V9 V10 V11 V12 X Z S D) 3) := by
  obtain ⟨v2, t2, f2⟩ := dep ⟨2, .data⟩ (by simp [oTy_3]) rfl 25 rfl
  have f2 : (numQ (numOf Ieee.double (opT .add S D))).p v2 x := f2
  refine yld_call (enters_of Try.func35 (by kernel_rfl) rfl) (argsTC t2) ((r7times _ _ (-2) (by decide) (by decide) x f2).mono ?_)
  rintro u x' ⟨v, rfl, h, q'⟩
  exact ⟨v, rfl, q', h⟩
theorem yTy_4 {a0 : Act} {w : World} {V9 V10 V11 V12 X Z S D : Nat} (E : EnvTy a0 w V9 V10 V11 V12 X Z S D) {R : Exit → Act → World → Prop} {a : Act} {x : World} (q : Q w x) (oth : ∀ j, j ∉ sTy → a.tmps[j]? = a0.tmps[j]?) (dep : ∀ ed ∈ oTy_4.after, Region.binds .any ed = true → ∀ t', sTy[ed.on]? = some t' → ∃ v, a.tmps[t']? = some v ∧ specAt (spTy V9 V10 V11 V12 X Z S D) ed.on v x) : Yld Try.prog R oTy_4 a x 27 (specAt (spTy V9 V10 V11 V12 X Z S D) 4) := by
  obtain ⟨v3, t3, f3⟩ := dep ⟨3, .data⟩ (by simp [oTy_4]) rfl 26 rfl
  have f3 : (numQ (numOf Ieee.double (shfW (opT .add S D) (-2)))).p v3 x := f3
  refine yld_call (enters_of Try.func36 (by kernel_rfl) rfl) (args1 t3) ((told7_any _ _ (shfW_lt _ _) x f3).mono ?_)
  rintro u x' ⟨rfl, q'⟩
  exact ⟨_, rfl, q', rfl⟩
theorem yTy_5 {a0 : Act} {w : World} {V9 V10 V11 V12 X Z S D : Nat} (E : EnvTy a0 w V9 V10 V11 V12 X Z S D) {R : Exit → Act → World → Prop} {a : Act} {x : World} (q : Q w x) (oth : ∀ j, j ∉ sTy → a.tmps[j]? = a0.tmps[j]?) (dep : ∀ ed ∈ oTy_5.after, Region.binds .any ed = true → ∀ t', sTy[ed.on]? = some t' → ∃ v, a.tmps[t']? = some v ∧ specAt (spTy V9 V10 V11 V12 X Z S D) ed.on v x) : Yld Try.prog R oTy_5 a x 28 (specAt (spTy V9 V10 V11 V12 X Z S D) 5) := by
  obtain ⟨k, s, p, L, C, e, m, b1, b2⟩ := E.n12.next q
  exact yld_run (x' := x) rfl (run_num (tmp_eval ((oth 12 (by decide)).trans E.h12)) b1) (Q.refl x) b2
theorem yTy_6 {a0 : Act} {w : World} {V9 V10 V11 V12 X Z S D : Nat} (E : EnvTy a0 w V9 V10 V11 V12 X Z S D) {R : Exit → Act → World → Prop} {a : Act} {x : World} (q : Q w x) (oth : ∀ j, j ∉ sTy → a.tmps[j]? = a0.tmps[j]?) (dep : ∀ ed ∈ oTy_6.after, Region.binds .any ed = true → ∀ t', sTy[ed.on]? = some t' → ∃ v, a.tmps[t']? = some v ∧ specAt (spTy V9 V10 V11 V12 X Z S D) ed.on v x) : Yld Try.prog R oTy_6 a x 29 (specAt (spTy V9 V10 V11 V12 X Z S D) 6) := by
  obtain ⟨k, s, p, L, C, e, m, b1, b2⟩ := E.n11.next q
  exact yld_run (x' := x) rfl (run_num (tmp_eval ((oth 11 (by decide)).trans E.h11)) b1) (Q.refl x) b2
theorem yTy_7 {a0 : Act} {w : World} {V9 V10 V11 V12 X Z S D : Nat} (E : EnvTy a0 w V9 V10 V11 V12 X Z S D) {R : Exit → Act → World → Prop} {a : Act} {x : World} (q : Q w x) (oth : ∀ j, j ∉ sTy → a.tmps[j]? = a0.tmps[j]?) (dep : ∀ ed ∈ oTy_7.after, Region.binds .any ed = true → ∀ t', sTy[ed.on]? = some t' → ∃ v, a.tmps[t']? = some v ∧ specAt (spTy V9 V10 V11 V12 X Z S D) ed.on v x) : Yld Try.prog R oTy_7 a x 30 (specAt (spTy V9 V10 V11 V12 X Z S D) 7) := by
  obtain ⟨v5, t5, f5⟩ := dep ⟨5, .data⟩ (by simp [oTy_7]) rfl 28 rfl
  have f5 : (numQ (numOf Ieee.double (D))).p v5 x := f5
  obtain ⟨v6, t6, f6⟩ := dep ⟨6, .data⟩ (by simp [oTy_7]) rfl 29 rfl
  have f6 : (numQ (numOf Ieee.double (S))).p v6 x := f6
  refine yld_call (enters_of Try.func37 (by kernel_rfl) rfl) (args2 t5 t6) ((r7less _ _ _ _ x f5 f6).mono ?_)
  rintro u x' ⟨v, rfl, h, q'⟩
  exact ⟨v, rfl, q', h⟩
theorem yTy_8 {a0 : Act} {w : World} {V9 V10 V11 V12 X Z S D : Nat} (E : EnvTy a0 w V9 V10 V11 V12 X Z S D) {R : Exit → Act → World → Prop} {a : Act} {x : World} (q : Q w x) (oth : ∀ j, j ∉ sTy → a.tmps[j]? = a0.tmps[j]?) (dep : ∀ ed ∈ oTy_8.after, Region.binds .any ed = true → ∀ t', sTy[ed.on]? = some t' → ∃ v, a.tmps[t']? = some v ∧ specAt (spTy V9 V10 V11 V12 X Z S D) ed.on v x) : Yld Try.prog R oTy_8 a x 31 (specAt (spTy V9 V10 V11 V12 X Z S D) 8) := by
  obtain ⟨v7, t7, f7⟩ := dep ⟨7, .data⟩ (by simp [oTy_8]) rfl 30 rfl
  have f7 : (numQ (numOf Ieee.double (opT .sub D S))).p v7 x := f7
  refine yld_call (enters_of Try.func35 (by kernel_rfl) rfl) (argsTC t7) ((r7times _ _ (-2) (by decide) (by decide) x f7).mono ?_)
  rintro u x' ⟨v, rfl, h, q'⟩
  exact ⟨v, rfl, q', h⟩
theorem yTy_9 {a0 : Act} {w : World} {V9 V10 V11 V12 X Z S D : Nat} (E : EnvTy a0 w V9 V10 V11 V12 X Z S D) {R : Exit → Act → World → Prop} {a : Act} {x : World} (q : Q w x) (oth : ∀ j, j ∉ sTy → a.tmps[j]? = a0.tmps[j]?) (dep : ∀ ed ∈ oTy_9.after, Region.binds .any ed = true → ∀ t', sTy[ed.on]? = some t' → ∃ v, a.tmps[t']? = some v ∧ specAt (spTy V9 V10 V11 V12 X Z S D) ed.on v x) : Yld Try.prog R oTy_9 a x 32 (specAt (spTy V9 V10 V11 V12 X Z S D) 9) := by
  obtain ⟨v8, t8, f8⟩ := dep ⟨8, .data⟩ (by simp [oTy_9]) rfl 31 rfl
  have f8 : (numQ (numOf Ieee.double (shfW (opT .sub D S) (-2)))).p v8 x := f8
  refine yld_call (enters_of Try.func36 (by kernel_rfl) rfl) (args1 t8) ((told7_any _ _ (shfW_lt _ _) x f8).mono ?_)
  rintro u x' ⟨rfl, q'⟩
  exact ⟨_, rfl, q', rfl⟩
theorem yTy_10 {a0 : Act} {w : World} {V9 V10 V11 V12 X Z S D : Nat} (E : EnvTy a0 w V9 V10 V11 V12 X Z S D) {R : Exit → Act → World → Prop} {a : Act} {x : World} (q : Q w x) (oth : ∀ j, j ∉ sTy → a.tmps[j]? = a0.tmps[j]?) (dep : ∀ ed ∈ oTy_10.after, Region.binds .any ed = true → ∀ t', sTy[ed.on]? = some t' → ∃ v, a.tmps[t']? = some v ∧ specAt (spTy V9 V10 V11 V12 X Z S D) ed.on v x) : Yld Try.prog R oTy_10 a x 33 (specAt (spTy V9 V10 V11 V12 X Z S D) 10) := by
  obtain ⟨k, s, p, L, C, e, m, b1, b2⟩ := E.n9.next q
  exact yld_run (x' := x) rfl (run_num (tmp_eval ((oth 9 (by decide)).trans E.h9)) b1) (Q.refl x) b2
theorem yTy_11 {a0 : Act} {w : World} {V9 V10 V11 V12 X Z S D : Nat} (E : EnvTy a0 w V9 V10 V11 V12 X Z S D) {R : Exit → Act → World → Prop} {a : Act} {x : World} (q : Q w x) (oth : ∀ j, j ∉ sTy → a.tmps[j]? = a0.tmps[j]?) (dep : ∀ ed ∈ oTy_11.after, Region.binds .any ed = true → ∀ t', sTy[ed.on]? = some t' → ∃ v, a.tmps[t']? = some v ∧ specAt (spTy V9 V10 V11 V12 X Z S D) ed.on v x) : Yld Try.prog R oTy_11 a x 34 (specAt (spTy V9 V10 V11 V12 X Z S D) 11) := by
  obtain ⟨k, s, p, L, C, e, m, b1, b2⟩ := E.n10.next q
  exact yld_run (x' := x) rfl (run_num (tmp_eval ((oth 10 (by decide)).trans E.h10)) b1) (Q.refl x) b2
theorem yTy_12 {a0 : Act} {w : World} {V9 V10 V11 V12 X Z S D : Nat} (E : EnvTy a0 w V9 V10 V11 V12 X Z S D) {R : Exit → Act → World → Prop} {a : Act} {x : World} (q : Q w x) (oth : ∀ j, j ∉ sTy → a.tmps[j]? = a0.tmps[j]?) (dep : ∀ ed ∈ oTy_12.after, Region.binds .any ed = true → ∀ t', sTy[ed.on]? = some t' → ∃ v, a.tmps[t']? = some v ∧ specAt (spTy V9 V10 V11 V12 X Z S D) ed.on v x) : Yld Try.prog R oTy_12 a x 35 (specAt (spTy V9 V10 V11 V12 X Z S D) 12) := by
  obtain ⟨v10, t10, f10⟩ := dep ⟨10, .data⟩ (by simp [oTy_12]) rfl 33 rfl
  have f10 : (numQ (numOf Ieee.double (X))).p v10 x := f10
  obtain ⟨v11, t11, f11⟩ := dep ⟨11, .data⟩ (by simp [oTy_12]) rfl 34 rfl
  have f11 : (numQ (numOf Ieee.double (Z))).p v11 x := f11
  refine yld_call (enters_of Try.func37 (by kernel_rfl) rfl) (args2 t10 t11) ((r7less _ _ _ _ x f10 f11).mono ?_)
  rintro u x' ⟨v, rfl, h, q'⟩
  exact ⟨v, rfl, q', h⟩
theorem yTy_13 {a0 : Act} {w : World} {V9 V10 V11 V12 X Z S D : Nat} (E : EnvTy a0 w V9 V10 V11 V12 X Z S D) {R : Exit → Act → World → Prop} {a : Act} {x : World} (q : Q w x) (oth : ∀ j, j ∉ sTy → a.tmps[j]? = a0.tmps[j]?) (dep : ∀ ed ∈ oTy_13.after, Region.binds .any ed = true → ∀ t', sTy[ed.on]? = some t' → ∃ v, a.tmps[t']? = some v ∧ specAt (spTy V9 V10 V11 V12 X Z S D) ed.on v x) : Yld Try.prog R oTy_13 a x 36 (specAt (spTy V9 V10 V11 V12 X Z S D) 13) := by
  obtain ⟨v12, t12, f12⟩ := dep ⟨12, .data⟩ (by simp [oTy_13]) rfl 35 rfl
  have f12 : (numQ (numOf Ieee.double (opT .sub X Z))).p v12 x := f12
  refine yld_call (enters_of Try.func35 (by kernel_rfl) rfl) (argsTC t12) ((r7times _ _ (-1) (by decide) (by decide) x f12).mono ?_)
  rintro u x' ⟨v, rfl, h, q'⟩
  exact ⟨v, rfl, q', h⟩
theorem yTy_14 {a0 : Act} {w : World} {V9 V10 V11 V12 X Z S D : Nat} (E : EnvTy a0 w V9 V10 V11 V12 X Z S D) {R : Exit → Act → World → Prop} {a : Act} {x : World} (q : Q w x) (oth : ∀ j, j ∉ sTy → a.tmps[j]? = a0.tmps[j]?) (dep : ∀ ed ∈ oTy_14.after, Region.binds .any ed = true → ∀ t', sTy[ed.on]? = some t' → ∃ v, a.tmps[t']? = some v ∧ specAt (spTy V9 V10 V11 V12 X Z S D) ed.on v x) : Yld Try.prog R oTy_14 a x 37 (specAt (spTy V9 V10 V11 V12 X Z S D) 14) := by
  obtain ⟨v13, t13, f13⟩ := dep ⟨13, .data⟩ (by simp [oTy_14]) rfl 36 rfl
  have f13 : (numQ (numOf Ieee.double (shfW (opT .sub X Z) (-1)))).p v13 x := f13
  refine yld_call (enters_of Try.func36 (by kernel_rfl) rfl) (args1 t13) ((told7_any _ _ (shfW_lt _ _) x f13).mono ?_)
  rintro u x' ⟨rfl, q'⟩
  exact ⟨_, rfl, q', rfl⟩
theorem yTy_15 {a0 : Act} {w : World} {V9 V10 V11 V12 X Z S D : Nat} (E : EnvTy a0 w V9 V10 V11 V12 X Z S D) {R : Exit → Act → World → Prop} {a : Act} {x : World} (q : Q w x) (oth : ∀ j, j ∉ sTy → a.tmps[j]? = a0.tmps[j]?) (dep : ∀ ed ∈ oTy_15.after, Region.binds .any ed = true → ∀ t', sTy[ed.on]? = some t' → ∃ v, a.tmps[t']? = some v ∧ specAt (spTy V9 V10 V11 V12 X Z S D) ed.on v x) : Yld Try.prog R oTy_15 a x 6 (specAt (spTy V9 V10 V11 V12 X Z S D) 15) := by
  obtain ⟨v4, t4, f4⟩ := dep ⟨4, .data⟩ (by simp [oTy_15]) rfl 27 rfl
  have f4 : v4 = (.int .u32 (narW (shfW (opT .add S D) (-2)) : Nat)) := f4
  subst f4
  exact yld_run (x' := x) rfl (by rw [← tmp_eval t4]; rfl) (Q.refl x) rfl
theorem yTy_16 {a0 : Act} {w : World} {V9 V10 V11 V12 X Z S D : Nat} (E : EnvTy a0 w V9 V10 V11 V12 X Z S D) {R : Exit → Act → World → Prop} {a : Act} {x : World} (q : Q w x) (oth : ∀ j, j ∉ sTy → a.tmps[j]? = a0.tmps[j]?) (dep : ∀ ed ∈ oTy_16.after, Region.binds .any ed = true → ∀ t', sTy[ed.on]? = some t' → ∃ v, a.tmps[t']? = some v ∧ specAt (spTy V9 V10 V11 V12 X Z S D) ed.on v x) : Yld Try.prog R oTy_16 a x 7 (specAt (spTy V9 V10 V11 V12 X Z S D) 16) := by
  obtain ⟨v9, t9, f9⟩ := dep ⟨9, .data⟩ (by simp [oTy_16]) rfl 32 rfl
  have f9 : v9 = (.int .u32 (narW (shfW (opT .sub D S) (-2)) : Nat)) := f9
  subst f9
  exact yld_run (x' := x) rfl (by rw [← tmp_eval t9]; rfl) (Q.refl x) rfl
theorem yTy_17 {a0 : Act} {w : World} {V9 V10 V11 V12 X Z S D : Nat} (E : EnvTy a0 w V9 V10 V11 V12 X Z S D) {R : Exit → Act → World → Prop} {a : Act} {x : World} (q : Q w x) (oth : ∀ j, j ∉ sTy → a.tmps[j]? = a0.tmps[j]?) (dep : ∀ ed ∈ oTy_17.after, Region.binds .any ed = true → ∀ t', sTy[ed.on]? = some t' → ∃ v, a.tmps[t']? = some v ∧ specAt (spTy V9 V10 V11 V12 X Z S D) ed.on v x) : Yld Try.prog R oTy_17 a x 8 (specAt (spTy V9 V10 V11 V12 X Z S D) 17) := by
  obtain ⟨v14, t14, f14⟩ := dep ⟨14, .data⟩ (by simp [oTy_17]) rfl 37 rfl
  have f14 : v14 = (.int .u32 (narW (shfW (opT .sub X Z) (-1)) : Nat)) := f14
  subst f14
  exact yld_run (x' := x) rfl (by rw [← tmp_eval t14]; rfl) (Q.refl x) rfl
theorem hopTy {a0 : Act} {w : World} {V9 V10 V11 V12 X Z S D : Nat} (E : EnvTy a0 w V9 V10 V11 V12 X Z S D) {R : Exit → Act → World → Prop} : ∀ (i t : Nat) (o : Oper) (a : Act) (x : World), skTy i = false → sTy[i]? = some t → opsTy[i]? = some o → Q w x → (∀ j, j ∉ sTy → a.tmps[j]? = a0.tmps[j]?) → (∀ ed ∈ o.after, Region.binds .any ed = true → ∀ t', sTy[ed.on]? = some t' → ∃ v, a.tmps[t']? = some v ∧ specAt (spTy V9 V10 V11 V12 X Z S D) ed.on v x) → Yld Try.prog R o a x t (specAt (spTy V9 V10 V11 V12 X Z S D) i)
  | 0, t, o, a, x, hi, ht, ho, q, oth, dep => by
    have e1 : oTy_0 = o := Option.some.inj ho
    have e2 : 23 = t := Option.some.inj ht
    subst e1 e2
    exact yTy_0 E q oth dep
  | 1, t, o, a, x, hi, ht, ho, q, oth, dep => by
    have e1 : oTy_1 = o := Option.some.inj ho
    have e2 : 24 = t := Option.some.inj ht
    subst e1 e2
    exact yTy_1 E q oth dep
  | 2, t, o, a, x, hi, ht, ho, q, oth, dep => by
    have e1 : oTy_2 = o := Option.some.inj ho
    have e2 : 25 = t := Option.some.inj ht
    subst e1 e2
    exact yTy_2 E q oth dep
  | 3, t, o, a, x, hi, ht, ho, q, oth, dep => by
    have e1 : oTy_3 = o := Option.some.inj ho
    have e2 : 26 = t := Option.some.inj ht
    subst e1 e2
    exact yTy_3 E q oth dep
  | 4, t, o, a, x, hi, ht, ho, q, oth, dep => by
    have e1 : oTy_4 = o := Option.some.inj ho
    have e2 : 27 = t := Option.some.inj ht
    subst e1 e2
    exact yTy_4 E q oth dep
  | 5, t, o, a, x, hi, ht, ho, q, oth, dep => by
    have e1 : oTy_5 = o := Option.some.inj ho
    have e2 : 28 = t := Option.some.inj ht
    subst e1 e2
    exact yTy_5 E q oth dep
  | 6, t, o, a, x, hi, ht, ho, q, oth, dep => by
    have e1 : oTy_6 = o := Option.some.inj ho
    have e2 : 29 = t := Option.some.inj ht
    subst e1 e2
    exact yTy_6 E q oth dep
  | 7, t, o, a, x, hi, ht, ho, q, oth, dep => by
    have e1 : oTy_7 = o := Option.some.inj ho
    have e2 : 30 = t := Option.some.inj ht
    subst e1 e2
    exact yTy_7 E q oth dep
  | 8, t, o, a, x, hi, ht, ho, q, oth, dep => by
    have e1 : oTy_8 = o := Option.some.inj ho
    have e2 : 31 = t := Option.some.inj ht
    subst e1 e2
    exact yTy_8 E q oth dep
  | 9, t, o, a, x, hi, ht, ho, q, oth, dep => by
    have e1 : oTy_9 = o := Option.some.inj ho
    have e2 : 32 = t := Option.some.inj ht
    subst e1 e2
    exact yTy_9 E q oth dep
  | 10, t, o, a, x, hi, ht, ho, q, oth, dep => by
    have e1 : oTy_10 = o := Option.some.inj ho
    have e2 : 33 = t := Option.some.inj ht
    subst e1 e2
    exact yTy_10 E q oth dep
  | 11, t, o, a, x, hi, ht, ho, q, oth, dep => by
    have e1 : oTy_11 = o := Option.some.inj ho
    have e2 : 34 = t := Option.some.inj ht
    subst e1 e2
    exact yTy_11 E q oth dep
  | 12, t, o, a, x, hi, ht, ho, q, oth, dep => by
    have e1 : oTy_12 = o := Option.some.inj ho
    have e2 : 35 = t := Option.some.inj ht
    subst e1 e2
    exact yTy_12 E q oth dep
  | 13, t, o, a, x, hi, ht, ho, q, oth, dep => by
    have e1 : oTy_13 = o := Option.some.inj ho
    have e2 : 36 = t := Option.some.inj ht
    subst e1 e2
    exact yTy_13 E q oth dep
  | 14, t, o, a, x, hi, ht, ho, q, oth, dep => by
    have e1 : oTy_14 = o := Option.some.inj ho
    have e2 : 37 = t := Option.some.inj ht
    subst e1 e2
    exact yTy_14 E q oth dep
  | 15, t, o, a, x, hi, ht, ho, q, oth, dep => by
    have e1 : oTy_15 = o := Option.some.inj ho
    have e2 : 6 = t := Option.some.inj ht
    subst e1 e2
    exact yTy_15 E q oth dep
  | 16, t, o, a, x, hi, ht, ho, q, oth, dep => by
    have e1 : oTy_16 = o := Option.some.inj ho
    have e2 : 7 = t := Option.some.inj ht
    subst e1 e2
    exact yTy_16 E q oth dep
  | 17, t, o, a, x, hi, ht, ho, q, oth, dep => by
    have e1 : oTy_17 = o := Option.some.inj ho
    have e2 : 8 = t := Option.some.inj ht
    subst e1 e2
    exact yTy_17 E q oth dep
  | i + 18, t, o, a, x, hi, ht, ho, q, oth, dep => by cases ho
theorem keyTy : ∀ i, i < 18 → ((opsTy[i]?).bind (fun o : Oper => o.guard) = none ∧ skTy i = false) := by decide +kernel
theorem hguTy {V9 V10 V11 V12 X Z S D : Nat} : ∀ (i : Nat) (o : Oper) (g : Nat) (b : Bool), opsTy[i]? = some o → o.guard = some (g, b) → ∀ v x, specAt (spTy V9 V10 V11 V12 X Z S D) g v x → (v = .bool b ↔ skTy i = false) := by
  intro i o g b ho hg v x hf
  have h := keyTy i (List.getElem?_eq_some_iff.1 ho).1
  rw [ho] at h
  simp only [Option.bind_some] at h
  rw [hg] at h
  rcases h with ⟨h, _⟩
  · cases h
theorem hgnTy : ∀ (i : Nat) (o : Oper), opsTy[i]? = some o → o.guard = none → skTy i = false := by
  intro i o ho hg
  have h := keyTy i (List.getElem?_eq_some_iff.1 ho).1
  rw [ho] at h
  simp only [Option.bind_some] at h
  rw [hg] at h
  rcases h with ⟨_, h⟩
  · exact h
theorem hskTy {V9 V10 V11 V12 X Z S D : Nat} : ∀ (i : Nat) (x : World), skTy i = true → specAt (spTy V9 V10 V11 V12 X Z S D) i undef x := by
  intro i x h
  cases h
theorem regionTy {id : Nat} {l : List Oper} {R : Exit → Act → World → Prop} {a0 : Act} {w : World} {V9 V10 V11 V12 X Z S D : Nat} (hl : l = opsTy) (hsz : a0.tmps.size = 38) (E : EnvTy a0 w V9 V10 V11 V12 X Z S D)
    (hR : ∀ (a : Act) x, Q w x → a.defers = a0.defers → a.tmps[6]? = some ((.int .u32 (narW (shfW (opT .add S D) (-2)) : Nat))) → a.tmps[7]? = some ((.int .u32 (narW (shfW (opT .sub D S) (-2)) : Nat))) → a.tmps[8]? = some ((.int .u32 (narW (shfW (opT .sub X Z) (-1)) : Nat))) → R .normal a x) :
    (Code.region id l.toArray true).wp Try.prog R a0 w := by
  subst hl
  refine wp_region_factsS sTy (specAt (spTy V9 V10 V11 V12 X Z S D)) skTy (by kernel_rfl) (by decide +kernel) (by decide) (fun t ht => ?_) specAt.next hguTy hgnTy hskTy (hopTy E) (fun a x q size defers other facts => ?_)
  · rw [hsz]
    revert t
    decide
  · obtain ⟨v15, t15, f15⟩ := facts 15 6 rfl
    have f15 : v15 = (.int .u32 (narW (shfW (opT .add S D) (-2)) : Nat)) := f15
    subst f15
    obtain ⟨v16, t16, f16⟩ := facts 16 7 rfl
    have f16 : v16 = (.int .u32 (narW (shfW (opT .sub D S) (-2)) : Nat)) := f16
    subst f16
    obtain ⟨v17, t17, f17⟩ := facts 17 8 rfl
    have f17 : v17 = (.int .u32 (narW (shfW (opT .sub X Z) (-1)) : Nat)) := f17
    subst f17
    exact ⟨hR a x q defers t15 t16 t17⟩
theorem opT_lt7 {op : BinOp} (x y : Nat) : opT op x y < 18446744073709551616 := by
  unfold opT
  cases h : opD op (Ieee.double.read x) (Ieee.double.read y) with
  | none => show 9221120237041090560 < 18446744073709551616; omega
  | some d => rw [told64_some (opD_num h)]; exact write64_lt d
def oFy_0 : Oper := { dst := some 15, op := .load 38 (.tmp 9), type := 38, pos := "halideref7.go:47", after := #[], guard := none }
def oFy_1 : Oper := { dst := some 16, op := .move (.tmp 2), type := 23, pos := "halideref7.go:47", after := #[], guard := none }
def oFy_2 : Oper := { dst := some 17, op := .call { callee := .value (.func 33), args := #[.tmp 16], argTypes := #[23] }, type := 38, pos := "halideref7.go:47", after := #[⟨1, .data⟩], guard := none }
def oFy_3 : Oper := { dst := some 18, op := .call { callee := .value (.func 34), args := #[.tmp 15, .tmp 17], argTypes := #[38, 38] }, type := 38, pos := "halideref7.go:47", after := #[⟨0, .data⟩, ⟨2, .data⟩, ⟨2, .chain⟩], guard := none }
def oFy_4 : Oper := { dst := some 19, op := .call { callee := .value (.func 36), args := #[.tmp 18], argTypes := #[38] }, type := 23, pos := "halideref7.go:47", after := #[⟨3, .data⟩, ⟨3, .chain⟩], guard := none }
def oFy_5 : Oper := { dst := some 20, op := .move (.tmp 0), type := 23, pos := "halideref7.go:47", after := #[], guard := none }
def oFy_6 : Oper := { dst := some 21, op := .call { callee := .value (.func 33), args := #[.tmp 20], argTypes := #[23] }, type := 38, pos := "halideref7.go:47", after := #[⟨5, .data⟩, ⟨4, .chain⟩], guard := none }
def oFy_7 : Oper := { dst := some 22, op := .move (.tmp 1), type := 23, pos := "halideref7.go:47", after := #[], guard := none }
def oFy_8 : Oper := { dst := some 23, op := .call { callee := .value (.func 33), args := #[.tmp 22], argTypes := #[23] }, type := 38, pos := "halideref7.go:47", after := #[⟨7, .data⟩, ⟨6, .chain⟩], guard := none }
def oFy_9 : Oper := { dst := some 24, op := .call { callee := .value (.func 34), args := #[.tmp 21, .tmp 23], argTypes := #[38, 38] }, type := 38, pos := "halideref7.go:47", after := #[⟨6, .data⟩, ⟨8, .data⟩, ⟨8, .chain⟩], guard := none }
def oFy_10 : Oper := { dst := some 25, op := .call { callee := .value (.func 36), args := #[.tmp 24], argTypes := #[38] }, type := 23, pos := "halideref7.go:47", after := #[⟨9, .data⟩, ⟨9, .chain⟩], guard := none }
def oFy_11 : Oper := { dst := some 26, op := .load 38 (.tmp 9), type := 38, pos := "halideref7.go:47", after := #[], guard := none }
def oFy_12 : Oper := { dst := some 27, op := .move (.tmp 2), type := 23, pos := "halideref7.go:47", after := #[], guard := none }
def oFy_13 : Oper := { dst := some 28, op := .call { callee := .value (.func 33), args := #[.tmp 27], argTypes := #[23] }, type := 38, pos := "halideref7.go:47", after := #[⟨12, .data⟩, ⟨10, .chain⟩], guard := none }
def oFy_14 : Oper := { dst := some 29, op := .call { callee := .value (.func 37), args := #[.tmp 26, .tmp 28], argTypes := #[38, 38] }, type := 38, pos := "halideref7.go:47", after := #[⟨11, .data⟩, ⟨13, .data⟩, ⟨13, .chain⟩], guard := none }
def oFy_15 : Oper := { dst := some 30, op := .call { callee := .value (.func 36), args := #[.tmp 29], argTypes := #[38] }, type := 23, pos := "halideref7.go:47", after := #[⟨14, .data⟩, ⟨14, .chain⟩], guard := none }
def oFy_16 : Oper := { dst := some 6, op := .assign (.tmp 19), type := 23, pos := "halideref7.go:47", after := #[⟨4, .data⟩, ⟨15, .chain⟩, ⟨0, .phase⟩, ⟨1, .phase⟩, ⟨2, .phase⟩, ⟨3, .phase⟩, ⟨4, .phase⟩, ⟨5, .textOnly .lateStores⟩, ⟨6, .textOnly .lateStoresUnsure⟩, ⟨7, .textOnly .lateStores⟩, ⟨8, .textOnly .lateStoresUnsure⟩, ⟨9, .textOnly .lateStoresUnsure⟩, ⟨10, .textOnly .lateStoresUnsure⟩, ⟨11, .textOnly .lateStores⟩, ⟨12, .textOnly .lateStores⟩, ⟨13, .textOnly .lateStoresUnsure⟩, ⟨14, .textOnly .lateStoresUnsure⟩, ⟨15, .textOnly .lateStoresUnsure⟩], guard := none }
def oFy_17 : Oper := { dst := some 7, op := .assign (.tmp 25), type := 23, pos := "halideref7.go:47", after := #[⟨10, .data⟩, ⟨16, .chain⟩, ⟨0, .phase⟩, ⟨1, .phase⟩, ⟨2, .phase⟩, ⟨3, .phase⟩, ⟨4, .phase⟩, ⟨5, .phase⟩, ⟨6, .phase⟩, ⟨7, .phase⟩, ⟨8, .phase⟩, ⟨9, .phase⟩, ⟨10, .phase⟩, ⟨11, .textOnly .lateStores⟩, ⟨12, .textOnly .lateStores⟩, ⟨13, .textOnly .lateStoresUnsure⟩, ⟨14, .textOnly .lateStoresUnsure⟩, ⟨15, .textOnly .lateStoresUnsure⟩, ⟨16, .phase⟩], guard := none }
def oFy_18 : Oper := { dst := some 8, op := .assign (.tmp 30), type := 23, pos := "halideref7.go:47", after := #[⟨15, .data⟩, ⟨17, .chain⟩, ⟨0, .phase⟩, ⟨1, .phase⟩, ⟨2, .phase⟩, ⟨3, .phase⟩, ⟨4, .phase⟩, ⟨5, .phase⟩, ⟨6, .phase⟩, ⟨7, .phase⟩, ⟨8, .phase⟩, ⟨9, .phase⟩, ⟨10, .phase⟩, ⟨11, .phase⟩, ⟨12, .phase⟩, ⟨13, .phase⟩, ⟨14, .phase⟩, ⟨15, .phase⟩, ⟨16, .phase⟩, ⟨17, .phase⟩], guard := none }
def opsFy : List Oper := [oFy_0, oFy_1, oFy_2, oFy_3, oFy_4, oFy_5, oFy_6, oFy_7, oFy_8, oFy_9, oFy_10, oFy_11, oFy_12, oFy_13, oFy_14, oFy_15, oFy_16, oFy_17, oFy_18]
def sFy : List Nat := [15, 16, 17, 18, 19, 20, 21, 22, 23, 24, 25, 26, 27, 28, 29, 30, 6, 7, 8]
def spFy (A B C V9 T : Nat) : List Spec := [numQ (numOf Ieee.double (T)), spV (.int .u32 (C : Nat)), numQ (numOf Ieee.double (wideW C)), numQ (numOf Ieee.double (opT .add T (wideW C))), spV (.int .u32 (narW (opT .add T (wideW C)) : Nat)), spV (.int .u32 (A : Nat)), numQ (numOf Ieee.double (wideW A)), spV (.int .u32 (B : Nat)), numQ (numOf Ieee.double (wideW B)), numQ (numOf Ieee.double (opT .add (wideW A) (wideW B))), spV (.int .u32 (narW (opT .add (wideW A) (wideW B)) : Nat)), numQ (numOf Ieee.double (T)), spV (.int .u32 (C : Nat)), numQ (numOf Ieee.double (wideW C)), numQ (numOf Ieee.double (opT .sub T (wideW C))), spV (.int .u32 (narW (opT .sub T (wideW C)) : Nat)), spV (.int .u32 (narW (opT .add T (wideW C)) : Nat)), spV (.int .u32 (narW (opT .add (wideW A) (wideW B)) : Nat)), spV (.int .u32 (narW (opT .sub T (wideW C)) : Nat))]
structure EnvFy (a0 : Act) (w : World) (A B C V9 T : Nat) : Prop where
  h0 : a0.tmps[0]? = some (.int .u32 (A : Nat))
  h1 : a0.tmps[1]? = some (.int .u32 (B : Nat))
  h2 : a0.tmps[2]? = some (.int .u32 (C : Nat))
  h9 : a0.tmps[9]? = some (ptrV V9)
  n9 : NBox w V9 (numOf Ieee.double T)
  lA : A < 4294967296
  lB : B < 4294967296
  lC : C < 4294967296
def skFy (i : Nat) : Bool := [].contains i
theorem yFy_0 {a0 : Act} {w : World} {A B C V9 T : Nat} (E : EnvFy a0 w A B C V9 T) {R : Exit → Act → World → Prop} {a : Act} {x : World} (q : Q w x) (oth : ∀ j, j ∉ sFy → a.tmps[j]? = a0.tmps[j]?) (dep : ∀ ed ∈ oFy_0.after, Region.binds .any ed = true → ∀ t', sFy[ed.on]? = some t' → ∃ v, a.tmps[t']? = some v ∧ specAt (spFy A B C V9 T) ed.on v x) : Yld Try.prog R oFy_0 a x 15 (specAt (spFy A B C V9 T) 0) := by
  obtain ⟨k, s, p, L, C, e, m, b1, b2⟩ := E.n9.next q
  exact yld_run (x' := x) rfl (run_num (tmp_eval ((oth 9 (by decide)).trans E.h9)) b1) (Q.refl x) b2
theorem yFy_1 {a0 : Act} {w : World} {A B C V9 T : Nat} (E : EnvFy a0 w A B C V9 T) {R : Exit → Act → World → Prop} {a : Act} {x : World} (q : Q w x) (oth : ∀ j, j ∉ sFy → a.tmps[j]? = a0.tmps[j]?) (dep : ∀ ed ∈ oFy_1.after, Region.binds .any ed = true → ∀ t', sFy[ed.on]? = some t' → ∃ v, a.tmps[t']? = some v ∧ specAt (spFy A B C V9 T) ed.on v x) : Yld Try.prog R oFy_1 a x 16 (specAt (spFy A B C V9 T) 1) := by
  exact yld_move ((oth 2 (by decide)).trans E.h2) rfl
theorem yFy_2 {a0 : Act} {w : World} {A B C V9 T : Nat} (E : EnvFy a0 w A B C V9 T) {R : Exit → Act → World → Prop} {a : Act} {x : World} (q : Q w x) (oth : ∀ j, j ∉ sFy → a.tmps[j]? = a0.tmps[j]?) (dep : ∀ ed ∈ oFy_2.after, Region.binds .any ed = true → ∀ t', sFy[ed.on]? = some t' → ∃ v, a.tmps[t']? = some v ∧ specAt (spFy A B C V9 T) ed.on v x) : Yld Try.prog R oFy_2 a x 17 (specAt (spFy A B C V9 T) 2) := by
  obtain ⟨v1, t1, f1⟩ := dep ⟨1, .data⟩ (by simp [oFy_2]) rfl 16 rfl
  have f1 : v1 = (.int .u32 (C : Nat)) := f1
  subst f1
  refine yld_call (enters_of Try.func33 (by kernel_rfl) rfl) (args1 t1) ((num7_any C E.lC x).mono ?_)
  rintro u x' ⟨v, rfl, h, q'⟩
  exact ⟨v, rfl, q', h⟩
theorem yFy_3 {a0 : Act} {w : World} {A B C V9 T : Nat} (E : EnvFy a0 w A B C V9 T) {R : Exit → Act → World → Prop} {a : Act} {x : World} (q : Q w x) (oth : ∀ j, j ∉ sFy → a.tmps[j]? = a0.tmps[j]?) (dep : ∀ ed ∈ oFy_3.after, Region.binds .any ed = true → ∀ t', sFy[ed.on]? = some t' → ∃ v, a.tmps[t']? = some v ∧ specAt (spFy A B C V9 T) ed.on v x) : Yld Try.prog R oFy_3 a x 18 (specAt (spFy A B C V9 T) 3) := by
  obtain ⟨v0, t0, f0⟩ := dep ⟨0, .data⟩ (by simp [oFy_3]) rfl 15 rfl
  have f0 : (numQ (numOf Ieee.double (T))).p v0 x := f0
  obtain ⟨v2, t2, f2⟩ := dep ⟨2, .data⟩ (by simp [oFy_3]) rfl 17 rfl
  have f2 : (numQ (numOf Ieee.double (wideW C))).p v2 x := f2
  refine yld_call (enters_of Try.func34 (by kernel_rfl) rfl) (args2 t0 t2) ((r7plus _ _ _ _ x f0 f2).mono ?_)
  rintro u x' ⟨v, rfl, h, q'⟩
  exact ⟨v, rfl, q', h⟩
theorem yFy_4 {a0 : Act} {w : World} {A B C V9 T : Nat} (E : EnvFy a0 w A B C V9 T) {R : Exit → Act → World → Prop} {a : Act} {x : World} (q : Q w x) (oth : ∀ j, j ∉ sFy → a.tmps[j]? = a0.tmps[j]?) (dep : ∀ ed ∈ oFy_4.after, Region.binds .any ed = true → ∀ t', sFy[ed.on]? = some t' → ∃ v, a.tmps[t']? = some v ∧ specAt (spFy A B C V9 T) ed.on v x) : Yld Try.prog R oFy_4 a x 19 (specAt (spFy A B C V9 T) 4) := by
  obtain ⟨v3, t3, f3⟩ := dep ⟨3, .data⟩ (by simp [oFy_4]) rfl 18 rfl
  have f3 : (numQ (numOf Ieee.double (opT .add T (wideW C)))).p v3 x := f3
  refine yld_call (enters_of Try.func36 (by kernel_rfl) rfl) (args1 t3) ((told7_any _ _ (opT_lt7 _ _) x f3).mono ?_)
  rintro u x' ⟨rfl, q'⟩
  exact ⟨_, rfl, q', rfl⟩
theorem yFy_5 {a0 : Act} {w : World} {A B C V9 T : Nat} (E : EnvFy a0 w A B C V9 T) {R : Exit → Act → World → Prop} {a : Act} {x : World} (q : Q w x) (oth : ∀ j, j ∉ sFy → a.tmps[j]? = a0.tmps[j]?) (dep : ∀ ed ∈ oFy_5.after, Region.binds .any ed = true → ∀ t', sFy[ed.on]? = some t' → ∃ v, a.tmps[t']? = some v ∧ specAt (spFy A B C V9 T) ed.on v x) : Yld Try.prog R oFy_5 a x 20 (specAt (spFy A B C V9 T) 5) := by
  exact yld_move ((oth 0 (by decide)).trans E.h0) rfl
theorem yFy_6 {a0 : Act} {w : World} {A B C V9 T : Nat} (E : EnvFy a0 w A B C V9 T) {R : Exit → Act → World → Prop} {a : Act} {x : World} (q : Q w x) (oth : ∀ j, j ∉ sFy → a.tmps[j]? = a0.tmps[j]?) (dep : ∀ ed ∈ oFy_6.after, Region.binds .any ed = true → ∀ t', sFy[ed.on]? = some t' → ∃ v, a.tmps[t']? = some v ∧ specAt (spFy A B C V9 T) ed.on v x) : Yld Try.prog R oFy_6 a x 21 (specAt (spFy A B C V9 T) 6) := by
  obtain ⟨v5, t5, f5⟩ := dep ⟨5, .data⟩ (by simp [oFy_6]) rfl 20 rfl
  have f5 : v5 = (.int .u32 (A : Nat)) := f5
  subst f5
  refine yld_call (enters_of Try.func33 (by kernel_rfl) rfl) (args1 t5) ((num7_any A E.lA x).mono ?_)
  rintro u x' ⟨v, rfl, h, q'⟩
  exact ⟨v, rfl, q', h⟩
theorem yFy_7 {a0 : Act} {w : World} {A B C V9 T : Nat} (E : EnvFy a0 w A B C V9 T) {R : Exit → Act → World → Prop} {a : Act} {x : World} (q : Q w x) (oth : ∀ j, j ∉ sFy → a.tmps[j]? = a0.tmps[j]?) (dep : ∀ ed ∈ oFy_7.after, Region.binds .any ed = true → ∀ t', sFy[ed.on]? = some t' → ∃ v, a.tmps[t']? = some v ∧ specAt (spFy A B C V9 T) ed.on v x) : Yld Try.prog R oFy_7 a x 22 (specAt (spFy A B C V9 T) 7) := by
  exact yld_move ((oth 1 (by decide)).trans E.h1) rfl
theorem yFy_8 {a0 : Act} {w : World} {A B C V9 T : Nat} (E : EnvFy a0 w A B C V9 T) {R : Exit → Act → World → Prop} {a : Act} {x : World} (q : Q w x) (oth : ∀ j, j ∉ sFy → a.tmps[j]? = a0.tmps[j]?) (dep : ∀ ed ∈ oFy_8.after, Region.binds .any ed = true → ∀ t', sFy[ed.on]? = some t' → ∃ v, a.tmps[t']? = some v ∧ specAt (spFy A B C V9 T) ed.on v x) : Yld Try.prog R oFy_8 a x 23 (specAt (spFy A B C V9 T) 8) := by
  obtain ⟨v7, t7, f7⟩ := dep ⟨7, .data⟩ (by simp [oFy_8]) rfl 22 rfl
  have f7 : v7 = (.int .u32 (B : Nat)) := f7
  subst f7
  refine yld_call (enters_of Try.func33 (by kernel_rfl) rfl) (args1 t7) ((num7_any B E.lB x).mono ?_)
  rintro u x' ⟨v, rfl, h, q'⟩
  exact ⟨v, rfl, q', h⟩
theorem yFy_9 {a0 : Act} {w : World} {A B C V9 T : Nat} (E : EnvFy a0 w A B C V9 T) {R : Exit → Act → World → Prop} {a : Act} {x : World} (q : Q w x) (oth : ∀ j, j ∉ sFy → a.tmps[j]? = a0.tmps[j]?) (dep : ∀ ed ∈ oFy_9.after, Region.binds .any ed = true → ∀ t', sFy[ed.on]? = some t' → ∃ v, a.tmps[t']? = some v ∧ specAt (spFy A B C V9 T) ed.on v x) : Yld Try.prog R oFy_9 a x 24 (specAt (spFy A B C V9 T) 9) := by
  obtain ⟨v6, t6, f6⟩ := dep ⟨6, .data⟩ (by simp [oFy_9]) rfl 21 rfl
  have f6 : (numQ (numOf Ieee.double (wideW A))).p v6 x := f6
  obtain ⟨v8, t8, f8⟩ := dep ⟨8, .data⟩ (by simp [oFy_9]) rfl 23 rfl
  have f8 : (numQ (numOf Ieee.double (wideW B))).p v8 x := f8
  refine yld_call (enters_of Try.func34 (by kernel_rfl) rfl) (args2 t6 t8) ((r7plus _ _ _ _ x f6 f8).mono ?_)
  rintro u x' ⟨v, rfl, h, q'⟩
  exact ⟨v, rfl, q', h⟩
theorem yFy_10 {a0 : Act} {w : World} {A B C V9 T : Nat} (E : EnvFy a0 w A B C V9 T) {R : Exit → Act → World → Prop} {a : Act} {x : World} (q : Q w x) (oth : ∀ j, j ∉ sFy → a.tmps[j]? = a0.tmps[j]?) (dep : ∀ ed ∈ oFy_10.after, Region.binds .any ed = true → ∀ t', sFy[ed.on]? = some t' → ∃ v, a.tmps[t']? = some v ∧ specAt (spFy A B C V9 T) ed.on v x) : Yld Try.prog R oFy_10 a x 25 (specAt (spFy A B C V9 T) 10) := by
  obtain ⟨v9, t9, f9⟩ := dep ⟨9, .data⟩ (by simp [oFy_10]) rfl 24 rfl
  have f9 : (numQ (numOf Ieee.double (opT .add (wideW A) (wideW B)))).p v9 x := f9
  refine yld_call (enters_of Try.func36 (by kernel_rfl) rfl) (args1 t9) ((told7_any _ _ (opT_lt7 _ _) x f9).mono ?_)
  rintro u x' ⟨rfl, q'⟩
  exact ⟨_, rfl, q', rfl⟩
theorem yFy_11 {a0 : Act} {w : World} {A B C V9 T : Nat} (E : EnvFy a0 w A B C V9 T) {R : Exit → Act → World → Prop} {a : Act} {x : World} (q : Q w x) (oth : ∀ j, j ∉ sFy → a.tmps[j]? = a0.tmps[j]?) (dep : ∀ ed ∈ oFy_11.after, Region.binds .any ed = true → ∀ t', sFy[ed.on]? = some t' → ∃ v, a.tmps[t']? = some v ∧ specAt (spFy A B C V9 T) ed.on v x) : Yld Try.prog R oFy_11 a x 26 (specAt (spFy A B C V9 T) 11) := by
  obtain ⟨k, s, p, L, C, e, m, b1, b2⟩ := E.n9.next q
  exact yld_run (x' := x) rfl (run_num (tmp_eval ((oth 9 (by decide)).trans E.h9)) b1) (Q.refl x) b2
theorem yFy_12 {a0 : Act} {w : World} {A B C V9 T : Nat} (E : EnvFy a0 w A B C V9 T) {R : Exit → Act → World → Prop} {a : Act} {x : World} (q : Q w x) (oth : ∀ j, j ∉ sFy → a.tmps[j]? = a0.tmps[j]?) (dep : ∀ ed ∈ oFy_12.after, Region.binds .any ed = true → ∀ t', sFy[ed.on]? = some t' → ∃ v, a.tmps[t']? = some v ∧ specAt (spFy A B C V9 T) ed.on v x) : Yld Try.prog R oFy_12 a x 27 (specAt (spFy A B C V9 T) 12) := by
  exact yld_move ((oth 2 (by decide)).trans E.h2) rfl
theorem yFy_13 {a0 : Act} {w : World} {A B C V9 T : Nat} (E : EnvFy a0 w A B C V9 T) {R : Exit → Act → World → Prop} {a : Act} {x : World} (q : Q w x) (oth : ∀ j, j ∉ sFy → a.tmps[j]? = a0.tmps[j]?) (dep : ∀ ed ∈ oFy_13.after, Region.binds .any ed = true → ∀ t', sFy[ed.on]? = some t' → ∃ v, a.tmps[t']? = some v ∧ specAt (spFy A B C V9 T) ed.on v x) : Yld Try.prog R oFy_13 a x 28 (specAt (spFy A B C V9 T) 13) := by
  obtain ⟨v12, t12, f12⟩ := dep ⟨12, .data⟩ (by simp [oFy_13]) rfl 27 rfl
  have f12 : v12 = (.int .u32 (C : Nat)) := f12
  subst f12
  refine yld_call (enters_of Try.func33 (by kernel_rfl) rfl) (args1 t12) ((num7_any C E.lC x).mono ?_)
  rintro u x' ⟨v, rfl, h, q'⟩
  exact ⟨v, rfl, q', h⟩
theorem yFy_14 {a0 : Act} {w : World} {A B C V9 T : Nat} (E : EnvFy a0 w A B C V9 T) {R : Exit → Act → World → Prop} {a : Act} {x : World} (q : Q w x) (oth : ∀ j, j ∉ sFy → a.tmps[j]? = a0.tmps[j]?) (dep : ∀ ed ∈ oFy_14.after, Region.binds .any ed = true → ∀ t', sFy[ed.on]? = some t' → ∃ v, a.tmps[t']? = some v ∧ specAt (spFy A B C V9 T) ed.on v x) : Yld Try.prog R oFy_14 a x 29 (specAt (spFy A B C V9 T) 14) := by
  obtain ⟨v11, t11, f11⟩ := dep ⟨11, .data⟩ (by simp [oFy_14]) rfl 26 rfl
  have f11 : (numQ (numOf Ieee.double (T))).p v11 x := f11
  obtain ⟨v13, t13, f13⟩ := dep ⟨13, .data⟩ (by simp [oFy_14]) rfl 28 rfl
  have f13 : (numQ (numOf Ieee.double (wideW C))).p v13 x := f13
  refine yld_call (enters_of Try.func37 (by kernel_rfl) rfl) (args2 t11 t13) ((r7less _ _ _ _ x f11 f13).mono ?_)
  rintro u x' ⟨v, rfl, h, q'⟩
  exact ⟨v, rfl, q', h⟩
theorem yFy_15 {a0 : Act} {w : World} {A B C V9 T : Nat} (E : EnvFy a0 w A B C V9 T) {R : Exit → Act → World → Prop} {a : Act} {x : World} (q : Q w x) (oth : ∀ j, j ∉ sFy → a.tmps[j]? = a0.tmps[j]?) (dep : ∀ ed ∈ oFy_15.after, Region.binds .any ed = true → ∀ t', sFy[ed.on]? = some t' → ∃ v, a.tmps[t']? = some v ∧ specAt (spFy A B C V9 T) ed.on v x) : Yld Try.prog R oFy_15 a x 30 (specAt (spFy A B C V9 T) 15) := by
  obtain ⟨v14, t14, f14⟩ := dep ⟨14, .data⟩ (by simp [oFy_15]) rfl 29 rfl
  have f14 : (numQ (numOf Ieee.double (opT .sub T (wideW C)))).p v14 x := f14
  refine yld_call (enters_of Try.func36 (by kernel_rfl) rfl) (args1 t14) ((told7_any _ _ (opT_lt7 _ _) x f14).mono ?_)
  rintro u x' ⟨rfl, q'⟩
  exact ⟨_, rfl, q', rfl⟩
theorem yFy_16 {a0 : Act} {w : World} {A B C V9 T : Nat} (E : EnvFy a0 w A B C V9 T) {R : Exit → Act → World → Prop} {a : Act} {x : World} (q : Q w x) (oth : ∀ j, j ∉ sFy → a.tmps[j]? = a0.tmps[j]?) (dep : ∀ ed ∈ oFy_16.after, Region.binds .any ed = true → ∀ t', sFy[ed.on]? = some t' → ∃ v, a.tmps[t']? = some v ∧ specAt (spFy A B C V9 T) ed.on v x) : Yld Try.prog R oFy_16 a x 6 (specAt (spFy A B C V9 T) 16) := by
  obtain ⟨v4, t4, f4⟩ := dep ⟨4, .data⟩ (by simp [oFy_16]) rfl 19 rfl
  have f4 : v4 = (.int .u32 (narW (opT .add T (wideW C)) : Nat)) := f4
  subst f4
  exact yld_run (x' := x) rfl (by rw [← tmp_eval t4]; rfl) (Q.refl x) rfl
theorem yFy_17 {a0 : Act} {w : World} {A B C V9 T : Nat} (E : EnvFy a0 w A B C V9 T) {R : Exit → Act → World → Prop} {a : Act} {x : World} (q : Q w x) (oth : ∀ j, j ∉ sFy → a.tmps[j]? = a0.tmps[j]?) (dep : ∀ ed ∈ oFy_17.after, Region.binds .any ed = true → ∀ t', sFy[ed.on]? = some t' → ∃ v, a.tmps[t']? = some v ∧ specAt (spFy A B C V9 T) ed.on v x) : Yld Try.prog R oFy_17 a x 7 (specAt (spFy A B C V9 T) 17) := by
  obtain ⟨v10, t10, f10⟩ := dep ⟨10, .data⟩ (by simp [oFy_17]) rfl 25 rfl
  have f10 : v10 = (.int .u32 (narW (opT .add (wideW A) (wideW B)) : Nat)) := f10
  subst f10
  exact yld_run (x' := x) rfl (by rw [← tmp_eval t10]; rfl) (Q.refl x) rfl
theorem yFy_18 {a0 : Act} {w : World} {A B C V9 T : Nat} (E : EnvFy a0 w A B C V9 T) {R : Exit → Act → World → Prop} {a : Act} {x : World} (q : Q w x) (oth : ∀ j, j ∉ sFy → a.tmps[j]? = a0.tmps[j]?) (dep : ∀ ed ∈ oFy_18.after, Region.binds .any ed = true → ∀ t', sFy[ed.on]? = some t' → ∃ v, a.tmps[t']? = some v ∧ specAt (spFy A B C V9 T) ed.on v x) : Yld Try.prog R oFy_18 a x 8 (specAt (spFy A B C V9 T) 18) := by
  obtain ⟨v15, t15, f15⟩ := dep ⟨15, .data⟩ (by simp [oFy_18]) rfl 30 rfl
  have f15 : v15 = (.int .u32 (narW (opT .sub T (wideW C)) : Nat)) := f15
  subst f15
  exact yld_run (x' := x) rfl (by rw [← tmp_eval t15]; rfl) (Q.refl x) rfl
theorem hopFy {a0 : Act} {w : World} {A B C V9 T : Nat} (E : EnvFy a0 w A B C V9 T) {R : Exit → Act → World → Prop} : ∀ (i t : Nat) (o : Oper) (a : Act) (x : World), skFy i = false → sFy[i]? = some t → opsFy[i]? = some o → Q w x → (∀ j, j ∉ sFy → a.tmps[j]? = a0.tmps[j]?) → (∀ ed ∈ o.after, Region.binds .any ed = true → ∀ t', sFy[ed.on]? = some t' → ∃ v, a.tmps[t']? = some v ∧ specAt (spFy A B C V9 T) ed.on v x) → Yld Try.prog R o a x t (specAt (spFy A B C V9 T) i)
  | 0, t, o, a, x, hi, ht, ho, q, oth, dep => by
    have e1 : oFy_0 = o := Option.some.inj ho
    have e2 : 15 = t := Option.some.inj ht
    subst e1 e2
    exact yFy_0 E q oth dep
  | 1, t, o, a, x, hi, ht, ho, q, oth, dep => by
    have e1 : oFy_1 = o := Option.some.inj ho
    have e2 : 16 = t := Option.some.inj ht
    subst e1 e2
    exact yFy_1 E q oth dep
  | 2, t, o, a, x, hi, ht, ho, q, oth, dep => by
    have e1 : oFy_2 = o := Option.some.inj ho
    have e2 : 17 = t := Option.some.inj ht
    subst e1 e2
    exact yFy_2 E q oth dep
  | 3, t, o, a, x, hi, ht, ho, q, oth, dep => by
    have e1 : oFy_3 = o := Option.some.inj ho
    have e2 : 18 = t := Option.some.inj ht
    subst e1 e2
    exact yFy_3 E q oth dep
  | 4, t, o, a, x, hi, ht, ho, q, oth, dep => by
    have e1 : oFy_4 = o := Option.some.inj ho
    have e2 : 19 = t := Option.some.inj ht
    subst e1 e2
    exact yFy_4 E q oth dep
  | 5, t, o, a, x, hi, ht, ho, q, oth, dep => by
    have e1 : oFy_5 = o := Option.some.inj ho
    have e2 : 20 = t := Option.some.inj ht
    subst e1 e2
    exact yFy_5 E q oth dep
  | 6, t, o, a, x, hi, ht, ho, q, oth, dep => by
    have e1 : oFy_6 = o := Option.some.inj ho
    have e2 : 21 = t := Option.some.inj ht
    subst e1 e2
    exact yFy_6 E q oth dep
  | 7, t, o, a, x, hi, ht, ho, q, oth, dep => by
    have e1 : oFy_7 = o := Option.some.inj ho
    have e2 : 22 = t := Option.some.inj ht
    subst e1 e2
    exact yFy_7 E q oth dep
  | 8, t, o, a, x, hi, ht, ho, q, oth, dep => by
    have e1 : oFy_8 = o := Option.some.inj ho
    have e2 : 23 = t := Option.some.inj ht
    subst e1 e2
    exact yFy_8 E q oth dep
  | 9, t, o, a, x, hi, ht, ho, q, oth, dep => by
    have e1 : oFy_9 = o := Option.some.inj ho
    have e2 : 24 = t := Option.some.inj ht
    subst e1 e2
    exact yFy_9 E q oth dep
  | 10, t, o, a, x, hi, ht, ho, q, oth, dep => by
    have e1 : oFy_10 = o := Option.some.inj ho
    have e2 : 25 = t := Option.some.inj ht
    subst e1 e2
    exact yFy_10 E q oth dep
  | 11, t, o, a, x, hi, ht, ho, q, oth, dep => by
    have e1 : oFy_11 = o := Option.some.inj ho
    have e2 : 26 = t := Option.some.inj ht
    subst e1 e2
    exact yFy_11 E q oth dep
  | 12, t, o, a, x, hi, ht, ho, q, oth, dep => by
    have e1 : oFy_12 = o := Option.some.inj ho
    have e2 : 27 = t := Option.some.inj ht
    subst e1 e2
    exact yFy_12 E q oth dep
  | 13, t, o, a, x, hi, ht, ho, q, oth, dep => by
    have e1 : oFy_13 = o := Option.some.inj ho
    have e2 : 28 = t := Option.some.inj ht
    subst e1 e2
    exact yFy_13 E q oth dep
  | 14, t, o, a, x, hi, ht, ho, q, oth, dep => by
    have e1 : oFy_14 = o := Option.some.inj ho
    have e2 : 29 = t := Option.some.inj ht
    subst e1 e2
    exact yFy_14 E q oth dep
  | 15, t, o, a, x, hi, ht, ho, q, oth, dep => by
    have e1 : oFy_15 = o := Option.some.inj ho
    have e2 : 30 = t := Option.some.inj ht
    subst e1 e2
    exact yFy_15 E q oth dep
  | 16, t, o, a, x, hi, ht, ho, q, oth, dep => by
    have e1 : oFy_16 = o := Option.some.inj ho
    have e2 : 6 = t := Option.some.inj ht
    subst e1 e2
    exact yFy_16 E q oth dep
  | 17, t, o, a, x, hi, ht, ho, q, oth, dep => by
    have e1 : oFy_17 = o := Option.some.inj ho
    have e2 : 7 = t := Option.some.inj ht
    subst e1 e2
    exact yFy_17 E q oth dep
  | 18, t, o, a, x, hi, ht, ho, q, oth, dep => by
    have e1 : oFy_18 = o := Option.some.inj ho
    have e2 : 8 = t := Option.some.inj ht
    subst e1 e2
    exact yFy_18 E q oth dep
  | i + 19, t, o, a, x, hi, ht, ho, q, oth, dep => by cases ho
theorem keyFy : ∀ i, i < 19 → ((opsFy[i]?).bind (fun o : Oper => o.guard) = none ∧ skFy i = false) := by decide +kernel
theorem hguFy {A B C V9 T : Nat} : ∀ (i : Nat) (o : Oper) (g : Nat) (b : Bool), opsFy[i]? = some o → o.guard = some (g, b) → ∀ v x, specAt (spFy A B C V9 T) g v x → (v = .bool b ↔ skFy i = false) := by
  intro i o g b ho hg v x hf
  have h := keyFy i (List.getElem?_eq_some_iff.1 ho).1
  rw [ho] at h
  simp only [Option.bind_some] at h
  rw [hg] at h
  rcases h with ⟨h, _⟩
  · cases h
theorem hgnFy : ∀ (i : Nat) (o : Oper), opsFy[i]? = some o → o.guard = none → skFy i = false := by
  intro i o ho hg
  have h := keyFy i (List.getElem?_eq_some_iff.1 ho).1
  rw [ho] at h
  simp only [Option.bind_some] at h
  rw [hg] at h
  rcases h with ⟨_, h⟩
  · exact h
theorem hskFy {A B C V9 T : Nat} : ∀ (i : Nat) (x : World), skFy i = true → specAt (spFy A B C V9 T) i undef x := by
  intro i x h
  cases h
theorem regionFy {id : Nat} {l : List Oper} {R : Exit → Act → World → Prop} {a0 : Act} {w : World} {A B C V9 T : Nat} (hl : l = opsFy) (hsz : a0.tmps.size = 31) (E : EnvFy a0 w A B C V9 T)
    (hR : ∀ (a : Act) x, Q w x → a.defers = a0.defers → a.tmps[6]? = some ((.int .u32 (narW (opT .add T (wideW C)) : Nat))) → a.tmps[7]? = some ((.int .u32 (narW (opT .add (wideW A) (wideW B)) : Nat))) → a.tmps[8]? = some ((.int .u32 (narW (opT .sub T (wideW C)) : Nat))) → R .normal a x) :
    (Code.region id l.toArray true).wp Try.prog R a0 w := by
  subst hl
  refine wp_region_factsS sFy (specAt (spFy A B C V9 T)) skFy (by kernel_rfl) (by decide +kernel) (by decide) (fun t ht => ?_) specAt.next hguFy hgnFy hskFy (hopFy E) (fun a x q size defers other facts => ?_)
  · rw [hsz]
    revert t
    decide
  · obtain ⟨v16, t16, f16⟩ := facts 16 6 rfl
    have f16 : v16 = (.int .u32 (narW (opT .add T (wideW C)) : Nat)) := f16
    subst f16
    obtain ⟨v17, t17, f17⟩ := facts 17 7 rfl
    have f17 : v17 = (.int .u32 (narW (opT .add (wideW A) (wideW B)) : Nat)) := f17
    subst f17
    obtain ⟨v18, t18, f18⟩ := facts 18 8 rfl
    have f18 : v18 = (.int .u32 (narW (opT .sub T (wideW C)) : Nat)) := f18
    subst f18
    exact ⟨hR a x q defers t16 t17 t18⟩
theorem ret_tm {tm : Array Value} {j : Nat} {v : Value} (h : tm[j]? = some v) : tm.getD j undef = v := by rw [Array.getD_eq_getD_getElem?, h]; rfl
set_option maxHeartbeats 2000000 in
theorem rtoycc_any (r g b : Nat) (hr : r < 4294967296) (hg : g < 4294967296) (hb : b < 4294967296) (w : World) : Calls Try.prog 11 #[.int .u32 (r : Int), .int .u32 (g : Int), .int .u32 (b : Int)] w fun e w' => e = .returned (t3 (ycc0 r g b) (ycc1 r g b) (ycc2 r g b)) ∧ Q w w' := by
  go_enter Try.func11, Try.ntmps11
  go_wp2_with fail
  refine (num7_any r hr _).mono ?_
  rintro e' w1 ⟨v, rfl, hv1, q1⟩
  obtain ⟨k1, s1, p1, L1, C1, e1, m1, rfl⟩ := hv1.made
  go_wp2_with fail
  refine (num7_any b hb _).mono ?_
  rintro e' w2 ⟨v, rfl, hv2, q2⟩
  obtain ⟨k2, s2, p2, L2, C2, e2, m2, rfl⟩ := hv2.made
  have H1 : Hid (NBox ((w2.alloc (.cells #[.int .i64 k1, .bool s1, .slice p1 L1 C1, .int .i64 e1, .bool m1] 38)).alloc (.cells #[.int .i64 k2, .bool s2, .slice p2 L2 C2, .int .i64 e2, .bool m2] 38)) (w2.heap.size) (numOf Ieee.double (wideW r))) := ⟨k1, s1, p1, L1, C1, e1, m1, ⟨by simp [go_sem], by simp [go_sem], by simp [go_sem], by simp [go_sem], by simp [go_sem]⟩, (((Q.refl w2).cells _ _).cells _ _).num (q2.num hv1)⟩
  have H2 : Hid (NBox ((w2.alloc (.cells #[.int .i64 k1, .bool s1, .slice p1 L1 C1, .int .i64 e1, .bool m1] 38)).alloc (.cells #[.int .i64 k2, .bool s2, .slice p2 L2 C2, .int .i64 e2, .bool m2] 38)) (w2.heap.size + 1) (numOf Ieee.double (wideW b))) := ⟨k2, s2, p2, L2, C2, e2, m2, ⟨by simp [go_sem], by simp [go_sem], by simp [go_sem], by simp [go_sem], by simp [go_sem]⟩, (((Q.refl w2).cells _ _).cells _ _).num hv2⟩
  have HV1 : Hid _ := (((Q.refl w2).cells #[.int .i64 k1, .bool s1, .slice p1 L1 C1, .int .i64 e1, .bool m1] 38).cells #[.int .i64 k2, .bool s2, .slice p2 L2 C2, .int .i64 e2, .bool m2] 38).num (q2.num hv1)
  have HV2 : Hid _ := (((Q.refl w2).cells #[.int .i64 k1, .bool s1, .slice p1 L1 C1, .int .i64 e1, .bool m1] 38).cells #[.int .i64 k2, .bool s2, .slice p2 L2 C2, .int .i64 e2, .bool m2] 38).num hv2
  have HQ : Hid (Q w ((w2.alloc (.cells #[.int .i64 k1, .bool s1, .slice p1 L1 C1, .int .i64 e1, .bool m1] 38)).alloc (.cells #[.int .i64 k2, .bool s2, .slice p2 L2 C2, .int .i64 e2, .bool m2] 38))) := ((q1.trans q2).cells _ _).cells _ _
  clear hv1 hv2 q1 q2
  go_wp2_with fail
  generalize (w2.alloc (.cells #[.int .i64 k1, .bool s1, .slice p1 L1 C1, .int .i64 e1, .bool m1] 38)).alloc (.cells #[.int .i64 k2, .bool s2, .slice p2 L2 C2, .int .i64 e2, .bool m2] 38) = wz at H1 H2 HV1 HV2 HQ ⊢
  refine (r7plus _ _ (wideW r) (wideW b) _ HV1.out HV2.out).mono ?_
  rintro e' w3 ⟨v, rfl, hv3, q3⟩
  obtain ⟨k3, s3, p3, L3, C3, e3, m3, rfl⟩ := hv3.made
  replace HQ : Hid (Q w (w3.alloc (.cells #[.int .i64 k3, .bool s3, .slice p3 L3 C3, .int .i64 e3, .bool m3] 38))) := (HQ.out.trans q3).cells _ _
  have H3 : Hid (NBox (w3.alloc (.cells #[.int .i64 k3, .bool s3, .slice p3 L3 C3, .int .i64 e3, .bool m3] 38)) (w3.heap.size) (numOf Ieee.double (yS r b))) := ⟨k3, s3, p3, L3, C3, e3, m3, ⟨by simp [go_sem], by simp [go_sem], by simp [go_sem], by simp [go_sem], by simp [go_sem]⟩, ((Q.refl w3).cells _ _).num hv3⟩
  replace H1 : Hid (NBox (w3.alloc (.cells #[.int .i64 k3, .bool s3, .slice p3 L3 C3, .int .i64 e3, .bool m3] 38)) w2.heap.size (numOf Ieee.double (wideW r))) := (H1.out.next q3).next ((Q.refl w3).cells #[.int .i64 k3, .bool s3, .slice p3 L3 C3, .int .i64 e3, .bool m3] 38)
  replace H2 : Hid (NBox (w3.alloc (.cells #[.int .i64 k3, .bool s3, .slice p3 L3 C3, .int .i64 e3, .bool m3] 38)) (w2.heap.size + 1) (numOf Ieee.double (wideW b))) := (H2.out.next q3).next ((Q.refl w3).cells #[.int .i64 k3, .bool s3, .slice p3 L3 C3, .int .i64 e3, .bool m3] 38)
  clear hv3 q3 HV1 HV2
  go_wp2_with fail
  generalize w3.alloc (.cells #[.int .i64 k3, .bool s3, .slice p3 L3 C3, .int .i64 e3, .bool m3] 38) = wy at H1 H2 H3 HQ ⊢
  refine (num7_any g hg _).mono ?_
  rintro e' w4 ⟨v, rfl, hv4, q4⟩
  go_wp2_with fail
  refine (r7times _ _ 1 (by decide) (by decide) _ hv4).mono ?_
  rintro e' w5 ⟨v, rfl, hv5, q5⟩
  obtain ⟨k5, s5, p5, L5, C5, e5, m5, rfl⟩ := hv5.made
  have q6 := q4.trans q5
  replace HQ : Hid (Q w (w5.alloc (.cells #[.int .i64 k5, .bool s5, .slice p5 L5 C5, .int .i64 e5, .bool m5] 38))) := (HQ.out.trans q6).cells _ _
  have H5 : Hid (NBox (w5.alloc (.cells #[.int .i64 k5, .bool s5, .slice p5 L5 C5, .int .i64 e5, .bool m5] 38)) (w5.heap.size) (numOf Ieee.double (yD g))) := ⟨k5, s5, p5, L5, C5, e5, m5, ⟨by simp [go_sem], by simp [go_sem], by simp [go_sem], by simp [go_sem], by simp [go_sem]⟩, ((Q.refl w5).cells _ _).num (by unfold yD; rw [mul_2]; exact hv5)⟩
  replace H1 : Hid (NBox (w5.alloc (.cells #[.int .i64 k5, .bool s5, .slice p5 L5 C5, .int .i64 e5, .bool m5] 38)) w2.heap.size (numOf Ieee.double (wideW r))) := (H1.out.next q6).next ((Q.refl w5).cells #[.int .i64 k5, .bool s5, .slice p5 L5 C5, .int .i64 e5, .bool m5] 38)
  replace H2 : Hid (NBox (w5.alloc (.cells #[.int .i64 k5, .bool s5, .slice p5 L5 C5, .int .i64 e5, .bool m5] 38)) (w2.heap.size + 1) (numOf Ieee.double (wideW b))) := (H2.out.next q6).next ((Q.refl w5).cells #[.int .i64 k5, .bool s5, .slice p5 L5 C5, .int .i64 e5, .bool m5] 38)
  replace H3 : Hid (NBox (w5.alloc (.cells #[.int .i64 k5, .bool s5, .slice p5 L5 C5, .int .i64 e5, .bool m5] 38)) w3.heap.size (numOf Ieee.double (yS r b))) := (H3.out.next q6).next ((Q.refl w5).cells #[.int .i64 k5, .bool s5, .slice p5 L5 C5, .int .i64 e5, .bool m5] 38)
  clear hv4 hv5 q4 q5 q6
  go_wp2_with fail
  refine regionTy rfl rfl ⟨rfl, rfl, rfl, rfl, H1.out, H2.out, H3.out, H5.out⟩ ?_
  intro a9 x9 q9 df t6 t7 t8
  have HQ9 : Hid (Q w x9) := HQ.out.trans q9
  clear q9 HQ H1 H2 H3 H5
  go_wp2_with fail
  obtain ⟨tm, dfs⟩ := a9
  have df : dfs = [] := df
  subst df
  have t6 : tm[6]? = some _ := t6
  have t7 : tm[7]? = some _ := t7
  have t8 : tm[8]? = some _ := t8
  go_ret3
  rw [ret_tm t6, ret_tm t7, ret_tm t8]
  refine ⟨congrArg Ending.returned ?_, HQ9.out⟩
  unfold t3 ycc0 ycc1 ycc2
  rw [quo_4, quo_4, quo_2]
set_option maxHeartbeats 2000000 in
theorem rfromycc_any (r g b : Nat) (hr : r < 4294967296) (hg : g < 4294967296) (hb : b < 4294967296) (w : World) : Calls Try.prog 13 #[.int .u32 (r : Int), .int .u32 (g : Int), .int .u32 (b : Int)] w fun e w' => e = .returned (t3 (rgb0 r g b) (rgb1 r g b) (rgb2 r g b)) ∧ Q w w' := by
  go_enter Try.func13, Try.ntmps13
  go_wp2_with fail
  refine (num7_any r hr _).mono ?_
  rintro e' w1 ⟨v1, rfl, hv1, q1⟩
  go_wp2_with fail
  refine (num7_any g hg _).mono ?_
  rintro e' w2 ⟨v2, rfl, hv2, q2⟩
  go_wp2_with fail
  refine (r7less _ _ (wideW r) (wideW g) _ (q2.num hv1) hv2).mono ?_
  rintro e' w3 ⟨v, rfl, hv3, q3⟩
  obtain ⟨k3, s3, p3, L3, C3, e3, m3, rfl⟩ := hv3.made
  have HQ : Hid (Q w (w3.alloc (.cells #[.int .i64 k3, .bool s3, .slice p3 L3 C3, .int .i64 e3, .bool m3] 38))) := ((q1.trans q2).trans q3).cells _ _
  have H3 : Hid (NBox (w3.alloc (.cells #[.int .i64 k3, .bool s3, .slice p3 L3 C3, .int .i64 e3, .bool m3] 38)) (w3.heap.size) (numOf Ieee.double (rT r g))) := ⟨k3, s3, p3, L3, C3, e3, m3, ⟨by simp [go_sem], by simp [go_sem], by simp [go_sem], by simp [go_sem], by simp [go_sem]⟩, ((Q.refl w3).cells _ _).num hv3⟩
  clear hv3 hv1 hv2 q1 q2 q3
  go_wp2_with fail
  refine regionFy rfl rfl ⟨rfl, rfl, rfl, rfl, H3.out, hr, hg, hb⟩ ?_
  intro a9 x9 q9 df t6 t7 t8
  have HQ9 : Hid (Q w x9) := HQ.out.trans q9
  clear q9 HQ H3
  go_wp2_with fail
  obtain ⟨tm, dfs⟩ := a9
  have df : dfs = [] := df
  subst df
  have t6 : tm[6]? = some _ := t6
  have t7 : tm[7]? = some _ := t7
  have t8 : tm[8]? = some _ := t8
  go_ret3
  rw [ret_tm t6, ret_tm t7, ret_tm t8]
  exact ⟨rfl, HQ9.out⟩
end Go.Proofs.Ytedafbbpcpebbaa
