/- The first values of BlurRises, whatever the sample is. -/
import Derived.Test.YtedaacddnahjkaaG08374a75
import Derived.Test.YtedaacddnahjkaaGbbd83d79
import Derived.Test.YtedaacddnahjkaaG90d19833
namespace Go.Proofs.Ytedaacddnahjkaa
open Go.RowKit
set_option linter.unusedVariables false
set_option linter.unusedSimpArgs false

set_option maxHeartbeats 400000 in
theorem lvalue_all (a : Nat) (ha : a < 4294967296) (w : World) : Calls Try.prog 25 #[.int .u32 (a : Int)] w fun e w' => ∃ v, e = .returned v ∧ (∃ X, v = .float .f64 X ∧ (nanN a = false → X = wideN a)) ∧ Q w w' := by
  cases h : nanN a
  · refine (lvalue_any a h w).mono ?_
    rintro e w' ⟨rfl, rfl⟩
    exact ⟨_, rfl, ⟨_, rfl, fun _ => rfl⟩, Q.refl _⟩
  · have l2 := f32from
    have l1 := fun w => run_conv_nan (P := Try.prog) 95 61 .f32 .f64 a (by decide) (by kernel_rfl) Try.underlying61 (read32_nan h) w
    clear h
    go_enter Try.func25, Try.ntmps25
    go_wp2_with fail
    go_ret
    exact ⟨_, rfl, ⟨_, rfl, fun h => by cases h⟩, (by first | exact Q.refl _ | exact (Q.refl _).drew | exact Q.drew _)⟩
def VlS (a : Nat) : Spec := ⟨fun v x => ∃ X, v = .float .f64 X ∧ (nanN a = false → X = wideN a), fun h _ => h⟩
def oBq6_0 : Oper := { dst := some 54, op := .fieldAddr 43 (.tmp 5) 2, type := 0, pos := "whatfor.go:68", after := #[], guard := none }
def oBq6_1 : Oper := { dst := some 55, op := .load 41 (.tmp 54), type := 41, pos := "whatfor.go:68", after := #[⟨0, .data⟩], guard := none }
def oBq6_2 : Oper := { dst := some 56, op := .indexAddr 41 (.tmp 55) (.const (.int .i64 0)), type := 0, pos := "whatfor.go:68", after := #[⟨1, .data⟩], guard := none }
def oBq6_3 : Oper := { dst := some 57, op := .load 63 (.tmp 56), type := 63, pos := "whatfor.go:68", after := #[⟨2, .data⟩], guard := none }
def oBq6_4 : Oper := { dst := some 58, op := .call { callee := .value (.func 25), args := #[.tmp 57], argTypes := #[63] }, type := 61, pos := "whatfor.go:68", after := #[⟨3, .data⟩], guard := none }
def oBq6_5 : Oper := { dst := some 59, op := .fieldAddr 43 (.tmp 5) 2, type := 0, pos := "whatfor.go:68", after := #[], guard := none }
def oBq6_6 : Oper := { dst := some 60, op := .load 41 (.tmp 59), type := 41, pos := "whatfor.go:68", after := #[⟨5, .data⟩], guard := none }
def oBq6_7 : Oper := { dst := some 61, op := .indexAddr 41 (.tmp 60) (.const (.int .i64 0)), type := 0, pos := "whatfor.go:68", after := #[⟨6, .data⟩], guard := none }
def oBq6_8 : Oper := { dst := some 62, op := .load 63 (.tmp 61), type := 63, pos := "whatfor.go:68", after := #[⟨7, .data⟩], guard := none }
def oBq6_9 : Oper := { dst := some 63, op := .call { callee := .value (.func 25), args := #[.tmp 62], argTypes := #[63] }, type := 61, pos := "whatfor.go:68", after := #[⟨8, .data⟩, ⟨4, .chain⟩], guard := none }
def oBq6_10 : Oper := { dst := some 13, op := .assign (.tmp 58), type := 61, pos := "whatfor.go:68", after := #[⟨4, .data⟩, ⟨9, .chain⟩, ⟨0, .phase⟩, ⟨1, .phase⟩, ⟨2, .phase⟩, ⟨3, .phase⟩, ⟨4, .phase⟩, ⟨5, .textOnly .lateStores⟩, ⟨6, .textOnly .lateStores⟩, ⟨7, .textOnly .lateStores⟩, ⟨8, .textOnly .lateStores⟩, ⟨9, .textOnly .lateStoresUnsure⟩], guard := none }
def oBq6_11 : Oper := { dst := some 14, op := .assign (.tmp 63), type := 61, pos := "whatfor.go:68", after := #[⟨9, .data⟩, ⟨10, .chain⟩, ⟨0, .phase⟩, ⟨1, .phase⟩, ⟨2, .phase⟩, ⟨3, .phase⟩, ⟨4, .phase⟩, ⟨5, .phase⟩, ⟨6, .phase⟩, ⟨7, .phase⟩, ⟨8, .phase⟩, ⟨9, .phase⟩, ⟨10, .phase⟩], guard := none }
def opsBq6 : List Oper := [oBq6_0, oBq6_1, oBq6_2, oBq6_3, oBq6_4, oBq6_5, oBq6_6, oBq6_7, oBq6_8, oBq6_9, oBq6_10, oBq6_11]
def sBq6 : List Nat := [54, 55, 56, 57, 58, 59, 60, 61, 62, 63, 13, 14]
def spBq6 (V5 g0 o0 n c s0 : Nat) : List Spec := [spV (.pointer (some ⟨V5, 2, none⟩)), spV (.slice (some ⟨g0, o0, none⟩) n c), spV (.pointer (some ⟨g0, o0, none⟩)), spV (.int .u32 (s0 : Int)), VlS s0, spV (.pointer (some ⟨V5, 2, none⟩)), spV (.slice (some ⟨g0, o0, none⟩) n c), spV (.pointer (some ⟨g0, o0, none⟩)), spV (.int .u32 (s0 : Int)), VlS s0, VlS s0, VlS s0]
structure EnvBq6 (a0 : Act) (w : World) (V5 g0 o0 n c s0 : Nat) : Prop where
  h5 : a0.tmps[5]? = some (ptrV V5)
  c2 : w.cell? ⟨V5, 2, none⟩ = some (.slice (some ⟨g0, o0, none⟩) n c)
  c0 : w.cell? ⟨g0, o0, none⟩ = some (.int .u32 (s0 : Int))
  n1 : 0 < n
  lt : s0 < 4294967296
def skBq6 (i : Nat) : Bool := [].contains i
theorem yBq6_0 {a0 : Act} {w : World} {V5 g0 o0 n c s0 : Nat} (E : EnvBq6 a0 w V5 g0 o0 n c s0) {R : Exit → Act → World → Prop} {a : Act} {x : World} (q : Q w x) (oth : ∀ j, j ∉ sBq6 → a.tmps[j]? = a0.tmps[j]?) (dep : ∀ ed ∈ oBq6_0.after, Region.binds .any ed = true → ∀ t', sBq6[ed.on]? = some t' → ∃ v, a.tmps[t']? = some v ∧ specAt (spBq6 V5 g0 o0 n c s0) ed.on v x) : Yld Try.prog R oBq6_0 a x 54 (specAt (spBq6 V5 g0 o0 n c s0) 0) := by
  have hs := (oth 5 (by decide)).trans E.h5
  exact yld_run (x' := x) rfl (by simp [oBq6_0, execOp, go_sem, hs, ptrV]) (Q.refl x) rfl
theorem yBq6_1 {a0 : Act} {w : World} {V5 g0 o0 n c s0 : Nat} (E : EnvBq6 a0 w V5 g0 o0 n c s0) {R : Exit → Act → World → Prop} {a : Act} {x : World} (q : Q w x) (oth : ∀ j, j ∉ sBq6 → a.tmps[j]? = a0.tmps[j]?) (dep : ∀ ed ∈ oBq6_1.after, Region.binds .any ed = true → ∀ t', sBq6[ed.on]? = some t' → ∃ v, a.tmps[t']? = some v ∧ specAt (spBq6 V5 g0 o0 n c s0) ed.on v x) : Yld Try.prog R oBq6_1 a x 55 (specAt (spBq6 V5 g0 o0 n c s0) 1) := by
  obtain ⟨v0, t0, f0⟩ := dep ⟨0, .data⟩ (by simp [oBq6_1]) rfl 54 rfl
  have f0 : v0 = (.pointer (some ⟨V5, 2, none⟩)) := f0
  subst f0
  have h0 := tmp_eval t0
  have hc := q.cell E.c2
  exact yld_run (x' := x) rfl (by simp [oBq6_1, execOp, go_sem, t0, hc]) (Q.refl x) rfl
theorem yBq6_2 {a0 : Act} {w : World} {V5 g0 o0 n c s0 : Nat} (E : EnvBq6 a0 w V5 g0 o0 n c s0) {R : Exit → Act → World → Prop} {a : Act} {x : World} (q : Q w x) (oth : ∀ j, j ∉ sBq6 → a.tmps[j]? = a0.tmps[j]?) (dep : ∀ ed ∈ oBq6_2.after, Region.binds .any ed = true → ∀ t', sBq6[ed.on]? = some t' → ∃ v, a.tmps[t']? = some v ∧ specAt (spBq6 V5 g0 o0 n c s0) ed.on v x) : Yld Try.prog R oBq6_2 a x 56 (specAt (spBq6 V5 g0 o0 n c s0) 2) := by
  obtain ⟨v1, t1, f1⟩ := dep ⟨1, .data⟩ (by simp [oBq6_2]) rfl 55 rfl
  have f1 : v1 = (.slice (some ⟨g0, o0, none⟩) n c) := f1
  subst f1
  have h1 := tmp_eval t1
  have hn := E.n1
  exact yld_run (x' := x) rfl (by simp [oBq6_2, execOp, go_sem, t1, hn]) (Q.refl x) rfl
theorem yBq6_3 {a0 : Act} {w : World} {V5 g0 o0 n c s0 : Nat} (E : EnvBq6 a0 w V5 g0 o0 n c s0) {R : Exit → Act → World → Prop} {a : Act} {x : World} (q : Q w x) (oth : ∀ j, j ∉ sBq6 → a.tmps[j]? = a0.tmps[j]?) (dep : ∀ ed ∈ oBq6_3.after, Region.binds .any ed = true → ∀ t', sBq6[ed.on]? = some t' → ∃ v, a.tmps[t']? = some v ∧ specAt (spBq6 V5 g0 o0 n c s0) ed.on v x) : Yld Try.prog R oBq6_3 a x 57 (specAt (spBq6 V5 g0 o0 n c s0) 3) := by
  obtain ⟨v2, t2, f2⟩ := dep ⟨2, .data⟩ (by simp [oBq6_3]) rfl 56 rfl
  have f2 : v2 = (.pointer (some ⟨g0, o0, none⟩)) := f2
  subst f2
  have h2 := tmp_eval t2
  have hc := q.cell E.c0
  exact yld_run (x' := x) rfl (by simp [oBq6_3, execOp, go_sem, t2, hc]) (Q.refl x) rfl
theorem yBq6_4 {a0 : Act} {w : World} {V5 g0 o0 n c s0 : Nat} (E : EnvBq6 a0 w V5 g0 o0 n c s0) {R : Exit → Act → World → Prop} {a : Act} {x : World} (q : Q w x) (oth : ∀ j, j ∉ sBq6 → a.tmps[j]? = a0.tmps[j]?) (dep : ∀ ed ∈ oBq6_4.after, Region.binds .any ed = true → ∀ t', sBq6[ed.on]? = some t' → ∃ v, a.tmps[t']? = some v ∧ specAt (spBq6 V5 g0 o0 n c s0) ed.on v x) : Yld Try.prog R oBq6_4 a x 58 (specAt (spBq6 V5 g0 o0 n c s0) 4) := by
  obtain ⟨v3, t3, f3⟩ := dep ⟨3, .data⟩ (by simp [oBq6_4]) rfl 57 rfl
  have f3 : v3 = (.int .u32 (s0 : Int)) := f3
  subst f3
  have h3 := tmp_eval t3
  refine yld_call (enters_of Try.func25 (by kernel_rfl) rfl) (vs := #[.int .u32 (s0 : Int)]) (by simp [h3]) ((lvalue_all s0 E.lt x).mono ?_)
  rintro u x' ⟨v, rfl, hv, q'⟩
  exact ⟨_, rfl, q', hv⟩
theorem yBq6_5 {a0 : Act} {w : World} {V5 g0 o0 n c s0 : Nat} (E : EnvBq6 a0 w V5 g0 o0 n c s0) {R : Exit → Act → World → Prop} {a : Act} {x : World} (q : Q w x) (oth : ∀ j, j ∉ sBq6 → a.tmps[j]? = a0.tmps[j]?) (dep : ∀ ed ∈ oBq6_5.after, Region.binds .any ed = true → ∀ t', sBq6[ed.on]? = some t' → ∃ v, a.tmps[t']? = some v ∧ specAt (spBq6 V5 g0 o0 n c s0) ed.on v x) : Yld Try.prog R oBq6_5 a x 59 (specAt (spBq6 V5 g0 o0 n c s0) 5) := by
  have hs := (oth 5 (by decide)).trans E.h5
  exact yld_run (x' := x) rfl (by simp [oBq6_5, execOp, go_sem, hs, ptrV]) (Q.refl x) rfl
theorem yBq6_6 {a0 : Act} {w : World} {V5 g0 o0 n c s0 : Nat} (E : EnvBq6 a0 w V5 g0 o0 n c s0) {R : Exit → Act → World → Prop} {a : Act} {x : World} (q : Q w x) (oth : ∀ j, j ∉ sBq6 → a.tmps[j]? = a0.tmps[j]?) (dep : ∀ ed ∈ oBq6_6.after, Region.binds .any ed = true → ∀ t', sBq6[ed.on]? = some t' → ∃ v, a.tmps[t']? = some v ∧ specAt (spBq6 V5 g0 o0 n c s0) ed.on v x) : Yld Try.prog R oBq6_6 a x 60 (specAt (spBq6 V5 g0 o0 n c s0) 6) := by
  obtain ⟨v5, t5, f5⟩ := dep ⟨5, .data⟩ (by simp [oBq6_6]) rfl 59 rfl
  have f5 : v5 = (.pointer (some ⟨V5, 2, none⟩)) := f5
  subst f5
  have h5 := tmp_eval t5
  have hc := q.cell E.c2
  exact yld_run (x' := x) rfl (by simp [oBq6_6, execOp, go_sem, t5, hc]) (Q.refl x) rfl
theorem yBq6_7 {a0 : Act} {w : World} {V5 g0 o0 n c s0 : Nat} (E : EnvBq6 a0 w V5 g0 o0 n c s0) {R : Exit → Act → World → Prop} {a : Act} {x : World} (q : Q w x) (oth : ∀ j, j ∉ sBq6 → a.tmps[j]? = a0.tmps[j]?) (dep : ∀ ed ∈ oBq6_7.after, Region.binds .any ed = true → ∀ t', sBq6[ed.on]? = some t' → ∃ v, a.tmps[t']? = some v ∧ specAt (spBq6 V5 g0 o0 n c s0) ed.on v x) : Yld Try.prog R oBq6_7 a x 61 (specAt (spBq6 V5 g0 o0 n c s0) 7) := by
  obtain ⟨v6, t6, f6⟩ := dep ⟨6, .data⟩ (by simp [oBq6_7]) rfl 60 rfl
  have f6 : v6 = (.slice (some ⟨g0, o0, none⟩) n c) := f6
  subst f6
  have h6 := tmp_eval t6
  have hn := E.n1
  exact yld_run (x' := x) rfl (by simp [oBq6_7, execOp, go_sem, t6, hn]) (Q.refl x) rfl
theorem yBq6_8 {a0 : Act} {w : World} {V5 g0 o0 n c s0 : Nat} (E : EnvBq6 a0 w V5 g0 o0 n c s0) {R : Exit → Act → World → Prop} {a : Act} {x : World} (q : Q w x) (oth : ∀ j, j ∉ sBq6 → a.tmps[j]? = a0.tmps[j]?) (dep : ∀ ed ∈ oBq6_8.after, Region.binds .any ed = true → ∀ t', sBq6[ed.on]? = some t' → ∃ v, a.tmps[t']? = some v ∧ specAt (spBq6 V5 g0 o0 n c s0) ed.on v x) : Yld Try.prog R oBq6_8 a x 62 (specAt (spBq6 V5 g0 o0 n c s0) 8) := by
  obtain ⟨v7, t7, f7⟩ := dep ⟨7, .data⟩ (by simp [oBq6_8]) rfl 61 rfl
  have f7 : v7 = (.pointer (some ⟨g0, o0, none⟩)) := f7
  subst f7
  have h7 := tmp_eval t7
  have hc := q.cell E.c0
  exact yld_run (x' := x) rfl (by simp [oBq6_8, execOp, go_sem, t7, hc]) (Q.refl x) rfl
theorem yBq6_9 {a0 : Act} {w : World} {V5 g0 o0 n c s0 : Nat} (E : EnvBq6 a0 w V5 g0 o0 n c s0) {R : Exit → Act → World → Prop} {a : Act} {x : World} (q : Q w x) (oth : ∀ j, j ∉ sBq6 → a.tmps[j]? = a0.tmps[j]?) (dep : ∀ ed ∈ oBq6_9.after, Region.binds .any ed = true → ∀ t', sBq6[ed.on]? = some t' → ∃ v, a.tmps[t']? = some v ∧ specAt (spBq6 V5 g0 o0 n c s0) ed.on v x) : Yld Try.prog R oBq6_9 a x 63 (specAt (spBq6 V5 g0 o0 n c s0) 9) := by
  obtain ⟨v8, t8, f8⟩ := dep ⟨8, .data⟩ (by simp [oBq6_9]) rfl 62 rfl
  have f8 : v8 = (.int .u32 (s0 : Int)) := f8
  subst f8
  have h8 := tmp_eval t8
  refine yld_call (enters_of Try.func25 (by kernel_rfl) rfl) (vs := #[.int .u32 (s0 : Int)]) (by simp [h8]) ((lvalue_all s0 E.lt x).mono ?_)
  rintro u x' ⟨v, rfl, hv, q'⟩
  exact ⟨_, rfl, q', hv⟩
theorem yBq6_10 {a0 : Act} {w : World} {V5 g0 o0 n c s0 : Nat} (E : EnvBq6 a0 w V5 g0 o0 n c s0) {R : Exit → Act → World → Prop} {a : Act} {x : World} (q : Q w x) (oth : ∀ j, j ∉ sBq6 → a.tmps[j]? = a0.tmps[j]?) (dep : ∀ ed ∈ oBq6_10.after, Region.binds .any ed = true → ∀ t', sBq6[ed.on]? = some t' → ∃ v, a.tmps[t']? = some v ∧ specAt (spBq6 V5 g0 o0 n c s0) ed.on v x) : Yld Try.prog R oBq6_10 a x 13 (specAt (spBq6 V5 g0 o0 n c s0) 10) := by
  obtain ⟨v4, t4, f4⟩ := dep ⟨4, .data⟩ (by simp [oBq6_10]) rfl 58 rfl
  have f4 : (VlS s0).p v4 x := f4
  exact yld_run (x' := x) rfl (run_asgq (tmp_eval t4)) (Q.refl x) f4
theorem yBq6_11 {a0 : Act} {w : World} {V5 g0 o0 n c s0 : Nat} (E : EnvBq6 a0 w V5 g0 o0 n c s0) {R : Exit → Act → World → Prop} {a : Act} {x : World} (q : Q w x) (oth : ∀ j, j ∉ sBq6 → a.tmps[j]? = a0.tmps[j]?) (dep : ∀ ed ∈ oBq6_11.after, Region.binds .any ed = true → ∀ t', sBq6[ed.on]? = some t' → ∃ v, a.tmps[t']? = some v ∧ specAt (spBq6 V5 g0 o0 n c s0) ed.on v x) : Yld Try.prog R oBq6_11 a x 14 (specAt (spBq6 V5 g0 o0 n c s0) 11) := by
  obtain ⟨v9, t9, f9⟩ := dep ⟨9, .data⟩ (by simp [oBq6_11]) rfl 63 rfl
  have f9 : (VlS s0).p v9 x := f9
  exact yld_run (x' := x) rfl (run_asgq (tmp_eval t9)) (Q.refl x) f9
theorem hopBq6 {a0 : Act} {w : World} {V5 g0 o0 n c s0 : Nat} (E : EnvBq6 a0 w V5 g0 o0 n c s0) {R : Exit → Act → World → Prop} : ∀ (i t : Nat) (o : Oper) (a : Act) (x : World), skBq6 i = false → sBq6[i]? = some t → opsBq6[i]? = some o → Q w x → (∀ j, j ∉ sBq6 → a.tmps[j]? = a0.tmps[j]?) → (∀ ed ∈ o.after, Region.binds .any ed = true → ∀ t', sBq6[ed.on]? = some t' → ∃ v, a.tmps[t']? = some v ∧ specAt (spBq6 V5 g0 o0 n c s0) ed.on v x) → Yld Try.prog R o a x t (specAt (spBq6 V5 g0 o0 n c s0) i)
  | 0, t, o, a, x, hi, ht, ho, q, oth, dep => by
    have e1 : oBq6_0 = o := Option.some.inj ho
    have e2 : 54 = t := Option.some.inj ht
    subst e1 e2
    exact yBq6_0 E q oth dep
  | 1, t, o, a, x, hi, ht, ho, q, oth, dep => by
    have e1 : oBq6_1 = o := Option.some.inj ho
    have e2 : 55 = t := Option.some.inj ht
    subst e1 e2
    exact yBq6_1 E q oth dep
  | 2, t, o, a, x, hi, ht, ho, q, oth, dep => by
    have e1 : oBq6_2 = o := Option.some.inj ho
    have e2 : 56 = t := Option.some.inj ht
    subst e1 e2
    exact yBq6_2 E q oth dep
  | 3, t, o, a, x, hi, ht, ho, q, oth, dep => by
    have e1 : oBq6_3 = o := Option.some.inj ho
    have e2 : 57 = t := Option.some.inj ht
    subst e1 e2
    exact yBq6_3 E q oth dep
  | 4, t, o, a, x, hi, ht, ho, q, oth, dep => by
    have e1 : oBq6_4 = o := Option.some.inj ho
    have e2 : 58 = t := Option.some.inj ht
    subst e1 e2
    exact yBq6_4 E q oth dep
  | 5, t, o, a, x, hi, ht, ho, q, oth, dep => by
    have e1 : oBq6_5 = o := Option.some.inj ho
    have e2 : 59 = t := Option.some.inj ht
    subst e1 e2
    exact yBq6_5 E q oth dep
  | 6, t, o, a, x, hi, ht, ho, q, oth, dep => by
    have e1 : oBq6_6 = o := Option.some.inj ho
    have e2 : 60 = t := Option.some.inj ht
    subst e1 e2
    exact yBq6_6 E q oth dep
  | 7, t, o, a, x, hi, ht, ho, q, oth, dep => by
    have e1 : oBq6_7 = o := Option.some.inj ho
    have e2 : 61 = t := Option.some.inj ht
    subst e1 e2
    exact yBq6_7 E q oth dep
  | 8, t, o, a, x, hi, ht, ho, q, oth, dep => by
    have e1 : oBq6_8 = o := Option.some.inj ho
    have e2 : 62 = t := Option.some.inj ht
    subst e1 e2
    exact yBq6_8 E q oth dep
  | 9, t, o, a, x, hi, ht, ho, q, oth, dep => by
    have e1 : oBq6_9 = o := Option.some.inj ho
    have e2 : 63 = t := Option.some.inj ht
    subst e1 e2
    exact yBq6_9 E q oth dep
  | 10, t, o, a, x, hi, ht, ho, q, oth, dep => by
    have e1 : oBq6_10 = o := Option.some.inj ho
    have e2 : 13 = t := Option.some.inj ht
    subst e1 e2
    exact yBq6_10 E q oth dep
  | 11, t, o, a, x, hi, ht, ho, q, oth, dep => by
    have e1 : oBq6_11 = o := Option.some.inj ho
    have e2 : 14 = t := Option.some.inj ht
    subst e1 e2
    exact yBq6_11 E q oth dep
  | i + 12, t, o, a, x, hi, ht, ho, q, oth, dep => by cases ho
theorem keyBq6 : ∀ i, i < 12 → ((opsBq6[i]?).bind (fun o : Oper => o.guard) = none ∧ skBq6 i = false) := by decide +kernel
theorem hguBq6 {V5 g0 o0 n c s0 : Nat} : ∀ (i : Nat) (o : Oper) (g : Nat) (b : Bool), opsBq6[i]? = some o → o.guard = some (g, b) → ∀ v x, specAt (spBq6 V5 g0 o0 n c s0) g v x → (v = .bool b ↔ skBq6 i = false) := by
  intro i o g b ho hg v x hf
  have h := keyBq6 i (List.getElem?_eq_some_iff.1 ho).1
  rw [ho] at h
  simp only [Option.bind_some] at h
  rw [hg] at h
  rcases h with ⟨h, _⟩
  · cases h
theorem hgnBq6 : ∀ (i : Nat) (o : Oper), opsBq6[i]? = some o → o.guard = none → skBq6 i = false := by
  intro i o ho hg
  have h := keyBq6 i (List.getElem?_eq_some_iff.1 ho).1
  rw [ho] at h
  simp only [Option.bind_some] at h
  rw [hg] at h
  rcases h with ⟨_, h⟩
  · exact h
theorem hskBq6 {V5 g0 o0 n c s0 : Nat} : ∀ (i : Nat) (x : World), skBq6 i = true → specAt (spBq6 V5 g0 o0 n c s0) i undef x := by
  intro i x h
  cases h
theorem regionBq6 {id : Nat} {l : List Oper} {R : Exit → Act → World → Prop} {a0 : Act} {w : World} {V5 g0 o0 n c s0 : Nat} (hl : l = opsBq6) (hsz : a0.tmps.size = 207) (E : EnvBq6 a0 w V5 g0 o0 n c s0)
    (hR : ∀ x v4 v9 v10 v11, (∃ X, v10 = .float .f64 X ∧ (nanN s0 = false → X = wideN s0)) → (∃ X, v11 = .float .f64 X ∧ (nanN s0 = false → X = wideN s0)) → Q w x → R .normal (putAll a0 [(54, (.pointer (some ⟨V5, 2, none⟩))), (55, (.slice (some ⟨g0, o0, none⟩) n c)), (56, (.pointer (some ⟨g0, o0, none⟩))), (57, (.int .u32 (s0 : Int))), (58, v4), (59, (.pointer (some ⟨V5, 2, none⟩))), (60, (.slice (some ⟨g0, o0, none⟩) n c)), (61, (.pointer (some ⟨g0, o0, none⟩))), (62, (.int .u32 (s0 : Int))), (63, v9), (13, v10), (14, v11)]) x) :
    (Code.region id l.toArray true).wp Try.prog R a0 w := by
  subst hl
  refine wp_region_factsS sBq6 (specAt (spBq6 V5 g0 o0 n c s0)) skBq6 (by kernel_rfl) (by decide +kernel) (by decide) (fun t ht => ?_) specAt.next hguBq6 hgnBq6 hskBq6 (hopBq6 E) (fun a x q size defers other facts => ?_)
  · rw [hsz]
    revert t
    decide
  · obtain ⟨v0, t0, f0⟩ := facts 0 54 rfl
    have f0 : v0 = (.pointer (some ⟨V5, 2, none⟩)) := f0
    subst f0
    obtain ⟨v1, t1, f1⟩ := facts 1 55 rfl
    have f1 : v1 = (.slice (some ⟨g0, o0, none⟩) n c) := f1
    subst f1
    obtain ⟨v2, t2, f2⟩ := facts 2 56 rfl
    have f2 : v2 = (.pointer (some ⟨g0, o0, none⟩)) := f2
    subst f2
    obtain ⟨v3, t3, f3⟩ := facts 3 57 rfl
    have f3 : v3 = (.int .u32 (s0 : Int)) := f3
    subst f3
    obtain ⟨v4, t4, f4⟩ := facts 4 58 rfl
    obtain ⟨v5, t5, f5⟩ := facts 5 59 rfl
    have f5 : v5 = (.pointer (some ⟨V5, 2, none⟩)) := f5
    subst f5
    obtain ⟨v6, t6, f6⟩ := facts 6 60 rfl
    have f6 : v6 = (.slice (some ⟨g0, o0, none⟩) n c) := f6
    subst f6
    obtain ⟨v7, t7, f7⟩ := facts 7 61 rfl
    have f7 : v7 = (.pointer (some ⟨g0, o0, none⟩)) := f7
    subst f7
    obtain ⟨v8, t8, f8⟩ := facts 8 62 rfl
    have f8 : v8 = (.int .u32 (s0 : Int)) := f8
    subst f8
    obtain ⟨v9, t9, f9⟩ := facts 9 63 rfl
    obtain ⟨v10, t10, f10⟩ := facts 10 13 rfl
    obtain ⟨v11, t11, f11⟩ := facts 11 14 rfl
    have hA := act_puts (a := a) (a0 := a0) [(54, (.pointer (some ⟨V5, 2, none⟩))), (55, (.slice (some ⟨g0, o0, none⟩) n c)), (56, (.pointer (some ⟨g0, o0, none⟩))), (57, (.int .u32 (s0 : Int))), (58, v4), (59, (.pointer (some ⟨V5, 2, none⟩))), (60, (.slice (some ⟨g0, o0, none⟩) n c)), (61, (.pointer (some ⟨g0, o0, none⟩))), (62, (.int .u32 (s0 : Int))), (63, v9), (13, v10), (14, v11)] (by show [54, 55, 56, 57, 58, 59, 60, 61, 62, 63, 13, 14].Nodup; decide) size defers (fun j hj => other j (fun hk => hj hk)) (fun r hr => by
      simp only [List.mem_cons, List.not_mem_nil, or_false] at hr
      rcases hr with rfl | rfl | rfl | rfl | rfl | rfl | rfl | rfl | rfl | rfl | rfl | rfl
      · exact t0
      · exact t1
      · exact t2
      · exact t3
      · exact t4
      · exact t5
      · exact t6
      · exact t7
      · exact t8
      · exact t9
      · exact t10
      · exact t11)
    rw [hA]
    exact ⟨hR x v4 v9 v10 v11 f10 f11 q⟩
end Go.Proofs.Ytedaacddnahjkaa
/- BlurRises: the lesser and the greater of two planes, sample by sample, in two copies (as LawSRise's). -/
namespace Go.Proofs.Ytedaacddnahjkaa
open Go.RowKit
set_option linter.unusedVariables false
set_option linter.unusedSimpArgs false

def loF (S O : List Nat) (j : Nat) : Nat := if srung32 (O.getD j 0) < srung32 (S.getD j 0) then O.getD j 0 else S.getD j 0
def hiF (S O : List Nat) (j : Nat) : Nat := if srung32 (O.getD j 0) < srung32 (S.getD j 0) then S.getD j 0 else O.getD j 0
/-- What lies there by now. -/
def mixF (F : Nat → Nat) (S : List Nat) (i : Nat) (j : Nat) : Nat := if j < i then F j else S.getD j 0
structure Ris (W0 x : World) (B g1 g2 : Nat) (pw ph : Int) (sv : Value) (n : Nat) (S O : List Nat) (a1 a2 : Option Addr) (c1 c2 : Nat) (i : Nat) : Prop where
  p : Pbb W0 x B pw ph sv
  lo : Pbb W0 x g1 pw ph (.slice a1 n c1)
  hi : Pbb W0 x g2 pw ph (.slice a2 n c2)
  two : n = 0 ∨ ∃ b1 b2, a1 = some ⟨b1, 0, none⟩ ∧ a2 = some ⟨b2, 0, none⟩ ∧ W0.heap.size < b1 ∧ W0.heap.size < b2 ∧ b1 ≠ b2 ∧ b1 ≠ g1 ∧ b1 ≠ g2 ∧ b2 ≠ g1 ∧ b2 ≠ g2 ∧ (∀ j, j < n → x.cell? ⟨b1, j, none⟩ = some (.int .u32 ((mixF (loF S O) S i j : Nat) : Int))) ∧ (∀ j, j < n → x.cell? ⟨b2, j, none⟩ = some (.int .u32 ((mixF (hiF S O) S i j : Nat) : Int))) ∧ (∀ j, x.frozen? ⟨b1, j, none⟩ = false) ∧ (∀ j, x.frozen? ⟨b2, j, none⟩ = false)
  fin : ∀ j, j < i → rung32 (S.getD j 0) < 2139095040 ∧ rung32 (O.getD j 0) < 2139095040
  gb : W0.heap.size = B
theorem Ris.next {W0 x y : World} {B g1 g2 : Nat} {pw ph : Int} {sv : Value} {n : Nat} {S O : List Nat} {a1 a2 : Option Addr} {c1 c2 i : Nat} (h : Ris W0 x B g1 g2 pw ph sv n S O a1 a2 c1 c2 i) (q : Q x y) : Ris W0 y B g1 g2 pw ph sv n S O a1 a2 c1 c2 i :=
  ⟨h.p.next q, h.lo.next q, h.hi.next q, h.two.imp id fun ⟨b1, b2, e1, e2, e3, e4, e5, e6, e7, e8, e9, r1, r2, f1, f2⟩ => ⟨b1, b2, e1, e2, e3, e4, e5, e6, e7, e8, e9, fun j hj => q.cell (r1 j hj), fun j hj => q.cell (r2 j hj), fun j => by rw [q.2]; exact f1 j, fun j => by rw [q.2]; exact f2 j⟩, h.fin, h.gb⟩
theorem Pbb.setR {W0 x : World} {B : Nat} {pw ph : Int} {sv : Value} (h : Pbb W0 x B pw ph sv) {p : Addr} (hb : p.block ≠ B) (hl : W0.heap.size ≤ p.block) (v : Value) : Pbb W0 (x.setCell p v) B pw ph sv := by
  have ne : ∀ j, (⟨B, j, none⟩ : Addr) ≠ p := fun j e => hb (by rw [← e])
  exact ⟨(World.cell?_setCell_other _ _ _ _ (fun e => ne 0 e.symm)).trans h.c0, (World.cell?_setCell_other _ _ _ _ (fun e => ne 1 e.symm)).trans h.c1, (World.cell?_setCell_other _ _ _ _ (fun e => ne 2 e.symm)).trans h.c2, h.q.set hl _⟩
/-- A store of one sample. -/
theorem Ris.put {W0 x : World} {B g1 g2 : Nat} {pw ph : Int} {sv : Value} {n : Nat} {S O : List Nat} {a1 a2 : Option Addr} {c1 c2 i : Nat} (h : Ris W0 x B g1 g2 pw ph sv n S O a1 a2 c1 c2 i) {b1 b2 : Nat} (e1 : a1 = some ⟨b1, 0, none⟩) (e2 : a2 = some ⟨b2, 0, none⟩) (hi : i < n) (hf : rung32 (S.getD i 0) < 2139095040) (hg : rung32 (O.getD i 0) < 2139095040) :
    (srung32 (O.getD i 0) < srung32 (S.getD i 0) → Ris W0 (x.setCell ⟨b1, i, none⟩ (.int .u32 ((O.getD i 0 : Nat) : Int))) B g1 g2 pw ph sv n S O a1 a2 c1 c2 (i + 1)) ∧ (¬ srung32 (O.getD i 0) < srung32 (S.getD i 0) → Ris W0 (x.setCell ⟨b2, i, none⟩ (.int .u32 ((O.getD i 0 : Nat) : Int))) B g1 g2 pw ph sv n S O a1 a2 c1 c2 (i + 1)) := by
  obtain ⟨p1, p2, p3, two, fin, gb⟩ := h
  rcases two with h0 | ⟨d1, d2, e1', e2', l1, l2, n12, n3, n4, n5, n6, r1, r2, f1, f2⟩
  · omega
  rw [e1] at e1'
  rw [e2] at e2'
  injection e1' with e1'
  injection e1' with e1'
  injection e2' with e2'
  injection e2' with e2'
  subst e1' e2'
  have fin' : ∀ j, j < i + 1 → rung32 (S.getD j 0) < 2139095040 ∧ rung32 (O.getD j 0) < 2139095040 := fun j hj => by
    by_cases e : j = i
    · subst e; exact ⟨hf, hg⟩
    · exact fin j (by omega)
  have mix_ne : ∀ (F : Nat → Nat) (j : Nat), j ≠ i → mixF F S (i + 1) j = mixF F S i j := fun F j hj => by
    unfold mixF
    by_cases h : j < i
    · rw [if_pos h, if_pos (by omega)]
    · rw [if_neg h, if_neg (by omega)]
  have mix_eq : ∀ (F : Nat → Nat), mixF F S (i + 1) i = F i := fun F => by unfold mixF; rw [if_pos (by omega)]
  have mix_old : ∀ (F : Nat → Nat), mixF F S i i = S.getD i 0 := fun F => by unfold mixF; rw [if_neg (by omega)]
  have hc1 := r1 i hi
  have hc2 := r2 i hi
  constructor
  · intro hlt
    refine ⟨p1.setR (by show b1 ≠ _; omega) (by show _ ≤ b1; omega) _, p2.setR (by show b1 ≠ _; omega) (by show _ ≤ b1; omega) _, p3.setR (by show b1 ≠ _; omega) (by show _ ≤ b1; omega) _, Or.inr ⟨b1, b2, e1, e2, l1, l2, n12, n3, n4, n5, n6, fun j hj => ?_, fun j hj => ?_, fun j => by rw [World.frozen?_setCell]; exact f1 j, fun j => by rw [World.frozen?_setCell]; exact f2 j⟩, fin', gb⟩
    · by_cases e : j = i
      · subst e
        rw [mix_eq, show loF S O j = O.getD j 0 by unfold loF; rw [if_pos hlt]]
        exact World.cell?_setCell_same _ _ _ hc1
      · rw [mix_ne _ _ e]
        exact (World.cell?_setCell_other _ _ _ _ (fun h => e (by injection h with _ h; exact h.symm))).trans (r1 j hj)
    · have hd : mixF (hiF S O) S (i + 1) j = mixF (hiF S O) S i j := by
        by_cases e : j = i
        · subst e
          rw [mix_eq, mix_old]; unfold hiF; rw [if_pos hlt]
        · exact mix_ne _ _ e
      rw [hd]
      exact (World.cell?_setCell_other _ _ _ _ (fun h => n12 (by injection h))).trans (r2 j hj)
  · intro hlt
    refine ⟨p1.setR (by show b2 ≠ _; omega) (by show _ ≤ b2; omega) _, p2.setR (by show b2 ≠ _; omega) (by show _ ≤ b2; omega) _, p3.setR (by show b2 ≠ _; omega) (by show _ ≤ b2; omega) _, Or.inr ⟨b1, b2, e1, e2, l1, l2, n12, n3, n4, n5, n6, fun j hj => ?_, fun j hj => ?_, fun j => by rw [World.frozen?_setCell]; exact f1 j, fun j => by rw [World.frozen?_setCell]; exact f2 j⟩, fin', gb⟩
    · have hd : mixF (loF S O) S (i + 1) j = mixF (loF S O) S i j := by
        by_cases e : j = i
        · subst e
          rw [mix_eq, mix_old]; unfold loF; rw [if_neg hlt]
        · exact mix_ne _ _ e
      rw [hd]
      exact (World.cell?_setCell_other _ _ _ _ (fun h => n12 (by injection h with h; exact h.symm))).trans (r1 j hj)
    · by_cases e : j = i
      · subst e
        rw [mix_eq, show hiF S O j = O.getD j 0 by unfold hiF; rw [if_neg hlt]]
        exact World.cell?_setCell_same _ _ _ hc2
      · rw [mix_ne _ _ e]
        exact (World.cell?_setCell_other _ _ _ _ (fun h => e (by injection h with _ h; exact h.symm))).trans (r2 j hj)
theorem lohi_facts {S O : List Nat} {j : Nat} (h1 : rung32 (S.getD j 0) < 2139095040) (h2 : rung32 (O.getD j 0) < 2139095040) : rung32 (loF S O j) < 2139095040 ∧ rung32 (hiF S O j) < 2139095040 ∧ srung32 (loF S O j) ≤ srung32 (hiF S O j) := by
  unfold loF hiF
  split
  · exact ⟨h2, h1, by omega⟩
  · exact ⟨h1, h2, by omega⟩
end Go.Proofs.Ytedaacddnahjkaa
/- BlurRises: the least and the greatest value so far. -/
namespace Go.Proofs.Ytedaacddnahjkaa
open Go.RowKit
set_option linter.unusedVariables false
set_option linter.unusedSimpArgs false

def Fnt (x : Nat) : Prop := rung32 x < 2139095040 ∧ x < 4294967296
/-- What 'least' and 'most' are. -/
def LstP (S O : List Nat) (i : Nat) (X Y : Nat) : Prop := rung32 (S.getD 0 0) < 2139095040 → ∃ lw mw, X = wideN lw ∧ Y = wideN mw ∧ Fnt lw ∧ Fnt mw ∧ ∀ j, j < i → srung32 lw ≤ srung32 (loF S O j) ∧ srung32 (hiF S O j) ≤ srung32 mw
theorem nan_fin {x : Nat} (h : rung32 x < 2139095040) : nanN x = false := by
  unfold nanN
  unfold rung32 at h
  exact decide_eq_false (by omega)
theorem LstP.start {S O : List Nat} {X Y s0 : Nat} (hs : S.getD 0 0 = s0) (hb : s0 < 4294967296) (hX : nanN s0 = false → X = wideN s0) (hY : nanN s0 = false → Y = wideN s0) : LstP S O 0 X Y := fun h => by
  rw [hs] at h
  exact ⟨s0, s0, hX (nan_fin h), hY (nan_fin h), ⟨h, hb⟩, ⟨h, hb⟩, fun j hj => by omega⟩
theorem LstP.step {S O : List Nat} {i lw mw c d : Nat} (hall : ∀ j, j < i → srung32 lw ≤ srung32 (loF S O j) ∧ srung32 (hiF S O j) ≤ srung32 mw) (hc : Fnt c) (hd : Fnt d) (c1 : srung32 c ≤ srung32 lw) (c2 : srung32 c ≤ srung32 (loF S O i)) (d1 : srung32 mw ≤ srung32 d) (d2 : srung32 (hiF S O i) ≤ srung32 d) : LstP S O (i + 1) (wideN c) (wideN d) := fun _ =>
  ⟨c, d, rfl, rfl, hc, hd, fun j hj => by
    by_cases e : j = i
    · subst e; exact ⟨c2, d2⟩
    · have := hall j (by omega); omega⟩
theorem ord_lt {a b : Nat} (ha : rung32 a < 2139095040) (hb : rung32 b < 2139095040) : (Ieee.double.order (wideN a) (wideN b) == some Ordering.lt) = decide (srung32 a < srung32 b) := by
  rw [ord_fin ha hb]
  by_cases h : srung32 a < srung32 b
  · rw [decide_eq_true h]
    have : compare (srung32 a) (srung32 b) = .lt := by simp [compare, compareOfLessAndEq, h]
    rw [this]; rfl
  · rw [decide_eq_false h]
    have : compare (srung32 a) (srung32 b) ≠ .lt := by
      simp only [compare, compareOfLessAndEq, if_neg h]
      split <;> decide
    cases hc : compare (srung32 a) (srung32 b)
    · exact absurd hc this
    · rfl
    · rfl
theorem ord_gt {a b : Nat} (ha : rung32 a < 2139095040) (hb : rung32 b < 2139095040) (h : srung32 a ≤ srung32 b) : Ieee.double.order (wideN a) (wideN b) = some Ordering.lt ∨ Ieee.double.order (wideN a) (wideN b) = some Ordering.eq := by
  rw [ord_fin ha hb]
  by_cases h2 : srung32 a < srung32 b
  · left
    have : compare (srung32 a) (srung32 b) = .lt := by simp [compare, compareOfLessAndEq, h2]
    rw [this]
  · right
    have e : srung32 a = srung32 b := by omega
    have : compare (srung32 a) (srung32 b) = .eq := by simp [compare, compareOfLessAndEq, e]
    rw [this]
end Go.Proofs.Ytedaacddnahjkaa
