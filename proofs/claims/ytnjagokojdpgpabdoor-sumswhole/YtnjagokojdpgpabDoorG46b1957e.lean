/- The document's sums in binary64: the same as the program's. -/
import Derived.Test.YtnjagokojdpgpabDoorG099a54dd
import Derived.Test.YtnjagokojdpgpabDoorG48dbb172
import Derived.Test.YtnjagokojdpgpabDoorGb3d1a1c5
import Derived.Test.YtnjagokojdpgpabDoorGc08c871d
namespace Go.Proofs.YtnjagokojdpgpabDoor
open Go.RowKit
set_option linter.unusedVariables false
set_option linter.unusedSimpArgs false

theorem told64_eq (o : Option Ieee.Datum) : told64 o = toldW o := by
  cases o with
  | none => rfl
  | some d => cases d <;> rfl
/-- Numbers of binary64. -/
def dblR : RNum → Prop
  | ⟨some (.inr (_, n, e, m))⟩ => n < 9007199254740992 ∧ -1074 ≤ e ∧ e ≤ 1000 ∧ m = false
  | _ => True
theorem dblR_of (a : Nat) : dblR (numOf Ieee.double a) := by
  rw [numOf_datum]
  rcases Nat.lt_trichotomy (rung64 a) 9218868437227405312 with h | h | h
  · rw [read_fin64 h]
    have hp : plc64 (rung64 a) ≤ 2045 := by unfold plc64; omega
    exact ⟨mag_lt64 _, by omega, by omega, rfl⟩
  · rw [read_inf64 h]; exact trivial
  · rw [read_nan64 h]; exact trivial
theorem dblR_small {x : RNum} (h : dblR x) : small x := by
  cases x using RNum.rec3 with
  | nan => exact trivial
  | inf s => exact trivial
  | fin s n e m =>
    obtain ⟨h1, h2, h3, h4⟩ := h
    exact ⟨Nat.le_trans (blen_le (k := 53) h1) (by decide), by omega, by omega⟩
theorem dbl_fits {x y : RNum} (hx : dblR x) (hy : dblR y) : fitsD (plusR x y) := by
  cases x using RNum.rec3 with
  | nan => exact trivial
  | inf s =>
    cases y using RNum.rec3 with
    | nan => exact trivial
    | inf t => show fitsD (if s = t then .inf s else .nan); split <;> exact trivial
    | fin t k f g => exact trivial
  | fin s n e m =>
    cases y using RNum.rec3 with
    | nan => exact trivial
    | inf t => exact trivial
    | fin t k f g =>
      obtain ⟨a1, a2, a3, rfl⟩ := hx
      obtain ⟨b1, b2, b3, rfl⟩ := hy
      have hX : n * 2 ^ (e - min e f).toNat < 2 ^ 2500 := shifted_lt (k := 2500) n _ (by have := blen_le (k := 53) a1; omega)
      have hY : k * 2 ^ (f - min e f).toNat < 2 ^ 2500 := shifted_lt (k := 2500) k _ (by have := blen_le (k := 53) b1; omega)
      show fitsD (plusFin s t (n * 2 ^ (e - min e f).toNat) (k * 2 ^ (f - min e f).toNat) (min e f))
      obtain ⟨j, hj⟩ : ∃ j : Nat, j = 2500 := ⟨_, rfl⟩
      rw [← hj] at hX hY
      generalize n * 2 ^ (e - min e f).toNat = X at hX
      generalize k * 2 ^ (f - min e f).toNat = Y at hY
      have key : ∀ (σ : Bool) (Z : Nat), Z < 2 ^ (j + 1) → fitsD (.fin σ Z (min e f) false) := fun σ Z hZ => ⟨Nat.le_trans (blen_le hZ) (by omega), by omega, by omega, fun h => by cases h⟩
      have e2 : 2 ^ (j + 1) = 2 * 2 ^ j := by rw [Nat.pow_succ, Nat.mul_comm]
      unfold plusFin
      rw [e2] at key
      generalize 2 ^ j = G at *
      split
      · exact key _ _ (by omega)
      · split
        · exact key _ _ (by omega)
        · split
          · exact key _ _ (by omega)
          · exact key _ _ (by omega)
theorem add64_told (a b : Nat) : roundD (plusR (numOf Ieee.double a) (numOf Ieee.double b)) = add64V a b := by
  rw [numOf_datum, numOf_datum, sum_opt, roundD_opt]
  exact (told64_eq _).symm
theorem add64V_lt (a b : Nat) : add64V a b < 18446744073709551616 := by
  unfold add64V
  cases h : (Ieee.double.read a).sum (Ieee.double.read b) with
  | none => decide
  | some d =>
    cases d with
    | nan s t => show 9221120237041090560 < _; decide
    | infinity s => rw [told64_some rfl]; exact write64_lt _
    | number s m p => rw [told64_some rfl]; exact write64_lt _
def numD (X : RNum) : Spec := ⟨fun v x => NumAt x v X, fun h q => q.num h⟩
def oA6_0 : Oper := { dst := some 7, op := .load 40 (.tmp 5), type := 40, pos := "halideref3.go:37", after := #[], guard := none }
def oA6_1 : Oper := { dst := some 8, op := .load 40 (.tmp 5), type := 40, pos := "halideref3.go:37", after := #[], guard := none }
def oA6_2 : Oper := { dst := some 9, op := .move (.tmp 0), type := 43, pos := "halideref3.go:37", after := #[], guard := none }
def oA6_3 : Oper := { dst := some 10, op := .call { callee := .value (.func 18), args := #[.tmp 8, .tmp 9], argTypes := #[40, 43] }, type := 38, pos := "halideref3.go:37", after := #[⟨1, .data⟩, ⟨2, .data⟩], guard := none }
def oA6_4 : Oper := { dst := some 11, op := .load 40 (.tmp 5), type := 40, pos := "halideref3.go:37", after := #[], guard := none }
def oA6_5 : Oper := { dst := some 12, op := .move (.tmp 1), type := 43, pos := "halideref3.go:37", after := #[], guard := none }
def oA6_6 : Oper := { dst := some 13, op := .call { callee := .value (.func 18), args := #[.tmp 11, .tmp 12], argTypes := #[40, 43] }, type := 38, pos := "halideref3.go:37", after := #[⟨4, .data⟩, ⟨5, .data⟩, ⟨3, .chain⟩], guard := none }
def oA6_7 : Oper := { dst := some 14, op := .call { callee := .value (.func 20), args := #[.tmp 10, .tmp 13], argTypes := #[38, 38] }, type := 38, pos := "halideref3.go:37", after := #[⟨3, .data⟩, ⟨6, .data⟩, ⟨6, .chain⟩], guard := none }
def oA6_8 : Oper := { dst := some 15, op := .call { callee := .value (.func 32), args := #[.tmp 7, .tmp 14], argTypes := #[40, 38] }, type := 43, pos := "halideref3.go:37", after := #[⟨0, .data⟩, ⟨7, .data⟩, ⟨7, .chain⟩], guard := none }
def oA6_9 : Oper := { dst := some 4, op := .assign (.tmp 15), type := 43, pos := "halideref3.go:37", after := #[⟨8, .data⟩, ⟨8, .chain⟩, ⟨0, .phase⟩, ⟨1, .phase⟩, ⟨2, .phase⟩, ⟨3, .phase⟩, ⟨4, .phase⟩, ⟨5, .phase⟩, ⟨6, .phase⟩, ⟨7, .phase⟩, ⟨8, .phase⟩], guard := none }
def opsA6 : List Oper := [oA6_0, oA6_1, oA6_2, oA6_3, oA6_4, oA6_5, oA6_6, oA6_7, oA6_8, oA6_9]
def sA6 : List Nat := [7, 8, 9, 10, 11, 12, 13, 14, 15, 4]
def spA6 (A B Vf : Nat) : List Spec := [spV formV, spV formV, spV (.int .u64 (A : Nat)), numD (numOf Ieee.double A), spV formV, spV (.int .u64 (B : Nat)), numD (numOf Ieee.double B), numD (plusR (numOf Ieee.double A) (numOf Ieee.double B)), spV (.int .u64 (add64V A B : Nat)), spV (.int .u64 (add64V A B : Nat))]
structure EnvA6 (a0 : Act) (w : World) (A B Vf : Nat) : Prop where
  h0 : a0.tmps[0]? = some (.int .u64 (A : Nat))
  h1 : a0.tmps[1]? = some (.int .u64 (B : Nat))
  h5 : a0.tmps[5]? = some (ptrV Vf)
  fb : FBox w Vf
  lA : A < 18446744073709551616
  lB : B < 18446744073709551616
def skA6 (i : Nat) : Bool := [].contains i
theorem yA6_0 {a0 : Act} {w : World} {A B Vf : Nat} (E : EnvA6 a0 w A B Vf) {R : Exit → Act → World → Prop} {a : Act} {x : World} (q : Q w x) (oth : ∀ j, j ∉ sA6 → a.tmps[j]? = a0.tmps[j]?) (dep : ∀ ed ∈ oA6_0.after, Region.binds .any ed = true → ∀ t', sA6[ed.on]? = some t' → ∃ v, a.tmps[t']? = some v ∧ specAt (spA6 A B Vf) ed.on v x) : Yld Tryd.prog R oA6_0 a x 7 (specAt (spA6 A B Vf) 0) := by
  exact yld_run (x' := x) rfl (run_form (tmp_eval ((oth 5 (by decide)).trans E.h5)) (E.fb.next q)) (Q.refl x) rfl
theorem yA6_1 {a0 : Act} {w : World} {A B Vf : Nat} (E : EnvA6 a0 w A B Vf) {R : Exit → Act → World → Prop} {a : Act} {x : World} (q : Q w x) (oth : ∀ j, j ∉ sA6 → a.tmps[j]? = a0.tmps[j]?) (dep : ∀ ed ∈ oA6_1.after, Region.binds .any ed = true → ∀ t', sA6[ed.on]? = some t' → ∃ v, a.tmps[t']? = some v ∧ specAt (spA6 A B Vf) ed.on v x) : Yld Tryd.prog R oA6_1 a x 8 (specAt (spA6 A B Vf) 1) := by
  exact yld_run (x' := x) rfl (run_form (tmp_eval ((oth 5 (by decide)).trans E.h5)) (E.fb.next q)) (Q.refl x) rfl
theorem yA6_2 {a0 : Act} {w : World} {A B Vf : Nat} (E : EnvA6 a0 w A B Vf) {R : Exit → Act → World → Prop} {a : Act} {x : World} (q : Q w x) (oth : ∀ j, j ∉ sA6 → a.tmps[j]? = a0.tmps[j]?) (dep : ∀ ed ∈ oA6_2.after, Region.binds .any ed = true → ∀ t', sA6[ed.on]? = some t' → ∃ v, a.tmps[t']? = some v ∧ specAt (spA6 A B Vf) ed.on v x) : Yld Tryd.prog R oA6_2 a x 9 (specAt (spA6 A B Vf) 2) := by
  exact yld_move ((oth 0 (by decide)).trans E.h0) rfl
theorem yA6_3 {a0 : Act} {w : World} {A B Vf : Nat} (E : EnvA6 a0 w A B Vf) {R : Exit → Act → World → Prop} {a : Act} {x : World} (q : Q w x) (oth : ∀ j, j ∉ sA6 → a.tmps[j]? = a0.tmps[j]?) (dep : ∀ ed ∈ oA6_3.after, Region.binds .any ed = true → ∀ t', sA6[ed.on]? = some t' → ∃ v, a.tmps[t']? = some v ∧ specAt (spA6 A B Vf) ed.on v x) : Yld Tryd.prog R oA6_3 a x 10 (specAt (spA6 A B Vf) 3) := by
  obtain ⟨v1, t1, f1⟩ := dep ⟨1, .data⟩ (by simp [oA6_3]) rfl 8 rfl
  have f1 : v1 = formV := f1
  subst f1
  obtain ⟨v2, t2, f2⟩ := dep ⟨2, .data⟩ (by simp [oA6_3]) rfl 9 rfl
  have f2 : v2 = (.int .u64 (A : Nat)) := f2
  subst f2
  refine yld_call (enters_of Tryd.func18 (by kernel_rfl) rfl) (args2 t1 t2) ((of64_any A x E.lA).mono ?_)
  rintro y x' ⟨v, rfl, h, q'⟩
  exact ⟨v, rfl, q', h⟩
theorem yA6_4 {a0 : Act} {w : World} {A B Vf : Nat} (E : EnvA6 a0 w A B Vf) {R : Exit → Act → World → Prop} {a : Act} {x : World} (q : Q w x) (oth : ∀ j, j ∉ sA6 → a.tmps[j]? = a0.tmps[j]?) (dep : ∀ ed ∈ oA6_4.after, Region.binds .any ed = true → ∀ t', sA6[ed.on]? = some t' → ∃ v, a.tmps[t']? = some v ∧ specAt (spA6 A B Vf) ed.on v x) : Yld Tryd.prog R oA6_4 a x 11 (specAt (spA6 A B Vf) 4) := by
  exact yld_run (x' := x) rfl (run_form (tmp_eval ((oth 5 (by decide)).trans E.h5)) (E.fb.next q)) (Q.refl x) rfl
theorem yA6_5 {a0 : Act} {w : World} {A B Vf : Nat} (E : EnvA6 a0 w A B Vf) {R : Exit → Act → World → Prop} {a : Act} {x : World} (q : Q w x) (oth : ∀ j, j ∉ sA6 → a.tmps[j]? = a0.tmps[j]?) (dep : ∀ ed ∈ oA6_5.after, Region.binds .any ed = true → ∀ t', sA6[ed.on]? = some t' → ∃ v, a.tmps[t']? = some v ∧ specAt (spA6 A B Vf) ed.on v x) : Yld Tryd.prog R oA6_5 a x 12 (specAt (spA6 A B Vf) 5) := by
  exact yld_move ((oth 1 (by decide)).trans E.h1) rfl
theorem yA6_6 {a0 : Act} {w : World} {A B Vf : Nat} (E : EnvA6 a0 w A B Vf) {R : Exit → Act → World → Prop} {a : Act} {x : World} (q : Q w x) (oth : ∀ j, j ∉ sA6 → a.tmps[j]? = a0.tmps[j]?) (dep : ∀ ed ∈ oA6_6.after, Region.binds .any ed = true → ∀ t', sA6[ed.on]? = some t' → ∃ v, a.tmps[t']? = some v ∧ specAt (spA6 A B Vf) ed.on v x) : Yld Tryd.prog R oA6_6 a x 13 (specAt (spA6 A B Vf) 6) := by
  obtain ⟨v4, t4, f4⟩ := dep ⟨4, .data⟩ (by simp [oA6_6]) rfl 11 rfl
  have f4 : v4 = formV := f4
  subst f4
  obtain ⟨v5, t5, f5⟩ := dep ⟨5, .data⟩ (by simp [oA6_6]) rfl 12 rfl
  have f5 : v5 = (.int .u64 (B : Nat)) := f5
  subst f5
  refine yld_call (enters_of Tryd.func18 (by kernel_rfl) rfl) (args2 t4 t5) ((of64_any B x E.lB).mono ?_)
  rintro y x' ⟨v, rfl, h, q'⟩
  exact ⟨v, rfl, q', h⟩
theorem yA6_7 {a0 : Act} {w : World} {A B Vf : Nat} (E : EnvA6 a0 w A B Vf) {R : Exit → Act → World → Prop} {a : Act} {x : World} (q : Q w x) (oth : ∀ j, j ∉ sA6 → a.tmps[j]? = a0.tmps[j]?) (dep : ∀ ed ∈ oA6_7.after, Region.binds .any ed = true → ∀ t', sA6[ed.on]? = some t' → ∃ v, a.tmps[t']? = some v ∧ specAt (spA6 A B Vf) ed.on v x) : Yld Tryd.prog R oA6_7 a x 14 (specAt (spA6 A B Vf) 7) := by
  obtain ⟨v3, t3, f3⟩ := dep ⟨3, .data⟩ (by simp [oA6_7]) rfl 10 rfl
  have f3 : (numD (numOf Ieee.double A)).p v3 x := f3
  obtain ⟨v6, t6, f6⟩ := dep ⟨6, .data⟩ (by simp [oA6_7]) rfl 13 rfl
  have f6 : (numD (numOf Ieee.double B)).p v6 x := f6
  refine yld_call (enters_of Tryd.func20 (by kernel_rfl) rfl) (args2 t3 t6) ((plusnum_any _ _ _ _ x f3 f6 (dblR_small (dblR_of A)) (dblR_small (dblR_of B))).mono ?_)
  rintro y x' ⟨v, rfl, h, q'⟩
  exact ⟨v, rfl, q', h⟩
theorem yA6_8 {a0 : Act} {w : World} {A B Vf : Nat} (E : EnvA6 a0 w A B Vf) {R : Exit → Act → World → Prop} {a : Act} {x : World} (q : Q w x) (oth : ∀ j, j ∉ sA6 → a.tmps[j]? = a0.tmps[j]?) (dep : ∀ ed ∈ oA6_8.after, Region.binds .any ed = true → ∀ t', sA6[ed.on]? = some t' → ∃ v, a.tmps[t']? = some v ∧ specAt (spA6 A B Vf) ed.on v x) : Yld Tryd.prog R oA6_8 a x 15 (specAt (spA6 A B Vf) 8) := by
  obtain ⟨v0, t0, f0⟩ := dep ⟨0, .data⟩ (by simp [oA6_8]) rfl 7 rfl
  have f0 : v0 = formV := f0
  subst f0
  obtain ⟨v7, t7, f7⟩ := dep ⟨7, .data⟩ (by simp [oA6_8]) rfl 14 rfl
  have f7 : (numD (plusR (numOf Ieee.double A) (numOf Ieee.double B))).p v7 x := f7
  have hr := round64_any _ _ x f7 (dbl_fits (dblR_of A) (dblR_of B))
  rw [add64_told] at hr
  refine yld_call (enters_of Tryd.func32 (by kernel_rfl) rfl) (args2 t0 t7) (hr.mono ?_)
  rintro y x' ⟨rfl, q'⟩
  exact ⟨_, rfl, q', rfl⟩
theorem yA6_9 {a0 : Act} {w : World} {A B Vf : Nat} (E : EnvA6 a0 w A B Vf) {R : Exit → Act → World → Prop} {a : Act} {x : World} (q : Q w x) (oth : ∀ j, j ∉ sA6 → a.tmps[j]? = a0.tmps[j]?) (dep : ∀ ed ∈ oA6_9.after, Region.binds .any ed = true → ∀ t', sA6[ed.on]? = some t' → ∃ v, a.tmps[t']? = some v ∧ specAt (spA6 A B Vf) ed.on v x) : Yld Tryd.prog R oA6_9 a x 4 (specAt (spA6 A B Vf) 9) := by
  obtain ⟨v8, t8, f8⟩ := dep ⟨8, .data⟩ (by simp [oA6_9]) rfl 15 rfl
  have f8 : v8 = (.int .u64 (add64V A B : Nat)) := f8
  subst f8
  exact yld_run (x' := x) rfl (by rw [← tmp_eval t8]; rfl) (Q.refl x) rfl
theorem hopA6 {a0 : Act} {w : World} {A B Vf : Nat} (E : EnvA6 a0 w A B Vf) {R : Exit → Act → World → Prop} : ∀ (i t : Nat) (o : Oper) (a : Act) (x : World), skA6 i = false → sA6[i]? = some t → opsA6[i]? = some o → Q w x → (∀ j, j ∉ sA6 → a.tmps[j]? = a0.tmps[j]?) → (∀ ed ∈ o.after, Region.binds .any ed = true → ∀ t', sA6[ed.on]? = some t' → ∃ v, a.tmps[t']? = some v ∧ specAt (spA6 A B Vf) ed.on v x) → Yld Tryd.prog R o a x t (specAt (spA6 A B Vf) i)
  | 0, t, o, a, x, hi, ht, ho, q, oth, dep => by
    have e1 : oA6_0 = o := Option.some.inj ho
    have e2 : 7 = t := Option.some.inj ht
    subst e1 e2
    exact yA6_0 E q oth dep
  | 1, t, o, a, x, hi, ht, ho, q, oth, dep => by
    have e1 : oA6_1 = o := Option.some.inj ho
    have e2 : 8 = t := Option.some.inj ht
    subst e1 e2
    exact yA6_1 E q oth dep
  | 2, t, o, a, x, hi, ht, ho, q, oth, dep => by
    have e1 : oA6_2 = o := Option.some.inj ho
    have e2 : 9 = t := Option.some.inj ht
    subst e1 e2
    exact yA6_2 E q oth dep
  | 3, t, o, a, x, hi, ht, ho, q, oth, dep => by
    have e1 : oA6_3 = o := Option.some.inj ho
    have e2 : 10 = t := Option.some.inj ht
    subst e1 e2
    exact yA6_3 E q oth dep
  | 4, t, o, a, x, hi, ht, ho, q, oth, dep => by
    have e1 : oA6_4 = o := Option.some.inj ho
    have e2 : 11 = t := Option.some.inj ht
    subst e1 e2
    exact yA6_4 E q oth dep
  | 5, t, o, a, x, hi, ht, ho, q, oth, dep => by
    have e1 : oA6_5 = o := Option.some.inj ho
    have e2 : 12 = t := Option.some.inj ht
    subst e1 e2
    exact yA6_5 E q oth dep
  | 6, t, o, a, x, hi, ht, ho, q, oth, dep => by
    have e1 : oA6_6 = o := Option.some.inj ho
    have e2 : 13 = t := Option.some.inj ht
    subst e1 e2
    exact yA6_6 E q oth dep
  | 7, t, o, a, x, hi, ht, ho, q, oth, dep => by
    have e1 : oA6_7 = o := Option.some.inj ho
    have e2 : 14 = t := Option.some.inj ht
    subst e1 e2
    exact yA6_7 E q oth dep
  | 8, t, o, a, x, hi, ht, ho, q, oth, dep => by
    have e1 : oA6_8 = o := Option.some.inj ho
    have e2 : 15 = t := Option.some.inj ht
    subst e1 e2
    exact yA6_8 E q oth dep
  | 9, t, o, a, x, hi, ht, ho, q, oth, dep => by
    have e1 : oA6_9 = o := Option.some.inj ho
    have e2 : 4 = t := Option.some.inj ht
    subst e1 e2
    exact yA6_9 E q oth dep
  | i + 10, t, o, a, x, hi, ht, ho, q, oth, dep => by cases ho
theorem keyA6 : ∀ i, i < 10 → ((opsA6[i]?).bind (fun o : Oper => o.guard) = none ∧ skA6 i = false) := by decide +kernel
theorem hguA6 {A B Vf : Nat} : ∀ (i : Nat) (o : Oper) (g : Nat) (b : Bool), opsA6[i]? = some o → o.guard = some (g, b) → ∀ v x, specAt (spA6 A B Vf) g v x → (v = .bool b ↔ skA6 i = false) := by
  intro i o g b ho hg v x hf
  have h := keyA6 i (List.getElem?_eq_some_iff.1 ho).1
  rw [ho] at h
  simp only [Option.bind_some] at h
  rw [hg] at h
  rcases h with ⟨h, _⟩
  · cases h
theorem hgnA6 : ∀ (i : Nat) (o : Oper), opsA6[i]? = some o → o.guard = none → skA6 i = false := by
  intro i o ho hg
  have h := keyA6 i (List.getElem?_eq_some_iff.1 ho).1
  rw [ho] at h
  simp only [Option.bind_some] at h
  rw [hg] at h
  rcases h with ⟨_, h⟩
  · exact h
theorem hskA6 {A B Vf : Nat} : ∀ (i : Nat) (x : World), skA6 i = true → specAt (spA6 A B Vf) i undef x := by
  intro i x h
  cases h
theorem regionA6 {id : Nat} {l : List Oper} {R : Exit → Act → World → Prop} {a0 : Act} {w : World} {A B Vf : Nat} (hl : l = opsA6) (hsz : a0.tmps.size = 16) (E : EnvA6 a0 w A B Vf)
    (hR : ∀ a x, Q w x → a.defers = a0.defers → a.tmps[4]? = some (.int .u64 (add64V A B : Nat)) → R .normal a x) :
    (Code.region id l.toArray true).wp Tryd.prog R a0 w := by
  subst hl
  refine wp_region_factsS sA6 (specAt (spA6 A B Vf)) skA6 (by kernel_rfl) (by decide +kernel) (by decide) (fun t ht => ?_) specAt.next hguA6 hgnA6 hskA6 (hopA6 E) (fun a x q size defers other facts => ?_)
  · rw [hsz]
    revert t
    decide
  · obtain ⟨v, tl, fl⟩ := facts 9 4 rfl
    have fl : v = .int .u64 (add64V A B : Nat) := fl
    subst fl
    exact ⟨hR a x q defers tl⟩
theorem wideW_lt (a : Nat) : wideW a < 18446744073709551616 := by
  unfold wideW wideN; split
  · decide
  · exact write64_lt _
/-- The first one of a sum in binary64. -/
theorem first64 {a : Nat} (ha : a < 4294967296) : add64V 9223372036854775808 (wideW a) = wideW a := by
  cases hn : nanN a
  · have hw : wideW a = wideN a := by unfold wideW; rw [hn]; rfl
    rw [hw]
    rcases cases32 hn with fa | fa
    · obtain ⟨w1, w2, w3⟩ := wide_fin fa
      have h := add_fin (x := 9223372036854775808) (y := wideN a) (by decide) w1
      have hz : sval64 9223372036854775808 = 0 := by decide +kernel
      have hs : sgn64 9223372036854775808 = true := by decide
      rw [hz, hs, w2, w3, Int.zero_add] at h
      have e : wordOf (sg true (sgn32 a) (sampleZ a)) (sampleZ a) = wideN a := by
        rw [wide_units fa]
        congr 1
        by_cases z : sampleZ a = 0
        · unfold sg; rw [if_pos z]; rfl
        · rw [sg_of z]; exact (signed_sign z).symm
      rw [e] at h
      have h' : ((Ieee.double.read 9223372036854775808).sum (Ieee.double.read (wideN a))).map Ieee.double.write = some (wideN a) := h
      unfold add64V
      cases hd : (Ieee.double.read 9223372036854775808).sum (Ieee.double.read (wideN a)) with
      | none => rw [hd] at h'; cases h'
      | some d =>
        rw [hd] at h'
        rw [told64_some (sum_num hd)]
        exact Option.some.inj h'
    · unfold add64V
      rw [wide_read_inf fa]
      have e : (Ieee.double.read 9223372036854775808).sum (.infinity (sgn32 a)) = some (.infinity (sgn32 a)) := by
        rw [show Ieee.double.read 9223372036854775808 = .number true 0 (-1074) by decide +kernel]; rfl
      rw [e, told64_some rfl, write_inf, wide_inf fa]
  · have hw : wideW a = 9221120237041090560 := by unfold wideW; rw [hn]; rfl
    rw [hw]
    decide +kernel
end Go.Proofs.YtnjagokojdpgpabDoor
