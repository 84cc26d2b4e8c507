/- The first values of PyramidRises, whatever the sample is. -/
import Derived.Test.YtgaolakfgjmeiabGf0ce332d
import Derived.Test.YtgaolakfgjmeiabGe2f133e3
import Derived.Test.YtgaolakfgjmeiabG45b3ecec
import Derived.Test.YtgaolakfgjmeiabG29e89a62
namespace Go.Proofs.Ytgaolakfgjmeiab
open Go.RowKit
set_option linter.unusedVariables false
set_option linter.unusedSimpArgs false

theorem ord_fin {a b : Nat} (ha : rung32 a < 2139095040) (hb : rung32 b < 2139095040) : Ieee.double.order (wideN a) (wideN b) = some (compare (srung32 a) (srung32 b)) := by
  rw [order_fin64 (wide_fin ha).1 (wide_fin hb).1, ← sval_srung64, (wide_fin ha).2.2, (wide_fin hb).2.2, samp_eq a rfl, samp_eq b rfl, cmp_scale (by exact Int.pow_pos (by decide)), sval_srung32]
theorem run_minw {a b : Nat} (ha : rung32 a < 2139095040) (hb : rung32 b < 2139095040) : ∃ c, (c = a ∨ c = b) ∧ srung32 c ≤ srung32 a ∧ srung32 c ≤ srung32 b ∧ ∀ (at' : Array TypeId) (ty : TypeId) (w : World), (Builtin.min_ at' ty #[.float .f64 (wideN a), .float .f64 (wideN b)]).run Try.prog w = .ok (.float .f64 (wideN c)) w := by
  have h := ord_fin ha hb
  have h' : FloatKind.f64.format.order (wideN a) (wideN b) = some (compare (srung32 a) (srung32 b)) := h
  cases hc : compare (srung32 a) (srung32 b) with
  | lt =>
    have := Int.compare_eq_lt.1 hc
    refine ⟨a, Or.inl rfl, by omega, by omega, fun at' ty w => ?_⟩
    simp [Builtin.min_, Builtin.min2, h', hc, go_sem]
  | gt =>
    have := Int.compare_eq_gt.1 hc
    refine ⟨b, Or.inr rfl, by omega, by omega, fun at' ty w => ?_⟩
    simp [Builtin.min_, Builtin.min2, h', hc, go_sem]
  | eq =>
    have := Int.compare_eq_eq.1 hc
    by_cases hn : (FloatKind.f64.decode (wideN a)).neg = true
    · refine ⟨a, Or.inl rfl, by omega, by omega, fun at' ty w => ?_⟩
      simp [Builtin.min_, Builtin.min2, h', hc, hn, go_sem]
    · refine ⟨b, Or.inr rfl, by omega, by omega, fun at' ty w => ?_⟩
      simp [Builtin.min_, Builtin.min2, h', hc, hn, go_sem]
theorem run_maxw {a b : Nat} (ha : rung32 a < 2139095040) (hb : rung32 b < 2139095040) : ∃ c, (c = a ∨ c = b) ∧ srung32 a ≤ srung32 c ∧ srung32 b ≤ srung32 c ∧ ∀ (at' : Array TypeId) (ty : TypeId) (w : World), (Builtin.max_ at' ty #[.float .f64 (wideN a), .float .f64 (wideN b)]).run Try.prog w = .ok (.float .f64 (wideN c)) w := by
  have h := ord_fin ha hb
  have h' : FloatKind.f64.format.order (wideN a) (wideN b) = some (compare (srung32 a) (srung32 b)) := h
  cases hc : compare (srung32 a) (srung32 b) with
  | lt =>
    have := Int.compare_eq_lt.1 hc
    refine ⟨b, Or.inr rfl, by omega, by omega, fun at' ty w => ?_⟩
    simp [Builtin.max_, Builtin.max2, h', hc, go_sem]
  | gt =>
    have := Int.compare_eq_gt.1 hc
    refine ⟨a, Or.inl rfl, by omega, by omega, fun at' ty w => ?_⟩
    simp [Builtin.max_, Builtin.max2, h', hc, go_sem]
  | eq =>
    have := Int.compare_eq_eq.1 hc
    by_cases hn : (FloatKind.f64.decode (wideN a)).neg = true
    · refine ⟨b, Or.inr rfl, by omega, by omega, fun at' ty w => ?_⟩
      simp [Builtin.max_, Builtin.max2, h', hc, hn, go_sem]
    · refine ⟨a, Or.inl rfl, by omega, by omega, fun at' ty w => ?_⟩
      simp [Builtin.max_, Builtin.max2, h', hc, hn, go_sem]
theorem fin_word (x : Nat) (hx : x < 4294967296) : ((x : Int) / 8388608 % 256 == 255) = decide (¬ rung32 x < 2139095040) := by
  unfold rung32
  by_cases h : (x : Int) / 8388608 % 256 = 255
  · rw [decide_eq_true (by omega)]; simpa using h
  · rw [decide_eq_false (by omega)]; simpa using h
set_option maxHeartbeats 400000 in
theorem v14_any (a : Nat) (h : nanN a = false) (w : World) : Calls Try.prog 8 #[.int .u32 (a : Int)] w fun e w' => e = .returned (.float .f64 (wideN a)) ∧ w' = w := by
  have l2 := f32from
  have l1 := fun w => run_convert_float_float (P := Try.prog) w 45 28 .f32 .f64 a _ (by kernel_rfl) Try.underlying28 (wide_conv h)
  clear h
  go_enter Try.func8, Try.ntmps8
  go_wp2_with fail
  go_ret
  exact ⟨rfl, rfl⟩
set_option maxHeartbeats 400000 in
theorem v14_all (a : Nat) (ha : a < 4294967296) (w : World) : Calls Try.prog 8 #[.int .u32 (a : Int)] w fun e w' => ∃ v, e = .returned v ∧ (∃ X, v = .float .f64 X ∧ (nanN a = false → X = wideN a)) ∧ Q w w' := by
  cases h : nanN a
  · refine (v14_any a h w).mono ?_
    rintro e w' ⟨rfl, rfl⟩
    exact ⟨_, rfl, ⟨_, rfl, fun _ => rfl⟩, Q.refl _⟩
  · have l2 := f32from
    have l1 := fun w => run_conv_nan (P := Try.prog) 45 28 .f32 .f64 a (by decide) (by kernel_rfl) Try.underlying28 (read32_nan h) w
    clear h
    go_enter Try.func8, Try.ntmps8
    go_wp2_with fail
    go_ret
    exact ⟨_, rfl, ⟨_, rfl, fun h => by cases h⟩, (by first | exact Q.refl _ | exact (Q.refl _).drew | exact Q.drew _)⟩
def VlS (a : Nat) : Spec := ⟨fun v x => ∃ X, v = .float .f64 X ∧ (nanN a = false → X = wideN a), fun h _ => h⟩
def oPq6_0 : Oper := { dst := some 71, op := .fieldAddr 24 (.tmp 3) 2, type := 0, pos := "whatfor.go:118", after := #[], guard := none }
def oPq6_1 : Oper := { dst := some 72, op := .load 22 (.tmp 71), type := 22, pos := "whatfor.go:118", after := #[⟨0, .data⟩], guard := none }
def oPq6_2 : Oper := { dst := some 73, op := .indexAddr 22 (.tmp 72) (.const (.int .i64 0)), type := 0, pos := "whatfor.go:118", after := #[⟨1, .data⟩], guard := none }
def oPq6_3 : Oper := { dst := some 74, op := .load 30 (.tmp 73), type := 30, pos := "whatfor.go:118", after := #[⟨2, .data⟩], guard := none }
def oPq6_4 : Oper := { dst := some 75, op := .call { callee := .value (.func 8), args := #[.tmp 74], argTypes := #[30] }, type := 28, pos := "whatfor.go:118", after := #[⟨3, .data⟩], guard := none }
def oPq6_5 : Oper := { dst := some 76, op := .fieldAddr 24 (.tmp 3) 2, type := 0, pos := "whatfor.go:118", after := #[], guard := none }
def oPq6_6 : Oper := { dst := some 77, op := .load 22 (.tmp 76), type := 22, pos := "whatfor.go:118", after := #[⟨5, .data⟩], guard := none }
def oPq6_7 : Oper := { dst := some 78, op := .indexAddr 22 (.tmp 77) (.const (.int .i64 0)), type := 0, pos := "whatfor.go:118", after := #[⟨6, .data⟩], guard := none }
def oPq6_8 : Oper := { dst := some 79, op := .load 30 (.tmp 78), type := 30, pos := "whatfor.go:118", after := #[⟨7, .data⟩], guard := none }
def oPq6_9 : Oper := { dst := some 80, op := .call { callee := .value (.func 8), args := #[.tmp 79], argTypes := #[30] }, type := 28, pos := "whatfor.go:118", after := #[⟨8, .data⟩, ⟨4, .chain⟩], guard := none }
def oPq6_10 : Oper := { dst := some 9, op := .assign (.tmp 75), type := 28, pos := "whatfor.go:118", after := #[⟨4, .data⟩, ⟨9, .chain⟩, ⟨0, .phase⟩, ⟨1, .phase⟩, ⟨2, .phase⟩, ⟨3, .phase⟩, ⟨4, .phase⟩, ⟨5, .textOnly .lateStores⟩, ⟨6, .textOnly .lateStores⟩, ⟨7, .textOnly .lateStores⟩, ⟨8, .textOnly .lateStores⟩, ⟨9, .textOnly .lateStoresUnsure⟩], guard := none }
def oPq6_11 : Oper := { dst := some 10, op := .assign (.tmp 80), type := 28, pos := "whatfor.go:118", after := #[⟨9, .data⟩, ⟨10, .chain⟩, ⟨0, .phase⟩, ⟨1, .phase⟩, ⟨2, .phase⟩, ⟨3, .phase⟩, ⟨4, .phase⟩, ⟨5, .phase⟩, ⟨6, .phase⟩, ⟨7, .phase⟩, ⟨8, .phase⟩, ⟨9, .phase⟩, ⟨10, .phase⟩], guard := none }
def opsPq6 : List Oper := [oPq6_0, oPq6_1, oPq6_2, oPq6_3, oPq6_4, oPq6_5, oPq6_6, oPq6_7, oPq6_8, oPq6_9, oPq6_10, oPq6_11]
def sPq6 : List Nat := [71, 72, 73, 74, 75, 76, 77, 78, 79, 80, 9, 10]
def spPq6 (V5 g0 o0 n c s0 : Nat) : List Spec := [spV (.pointer (some ⟨V5, 2, none⟩)), spV (.slice (some ⟨g0, o0, none⟩) n c), spV (.pointer (some ⟨g0, o0, none⟩)), spV (.int .u32 (s0 : Int)), VlS s0, spV (.pointer (some ⟨V5, 2, none⟩)), spV (.slice (some ⟨g0, o0, none⟩) n c), spV (.pointer (some ⟨g0, o0, none⟩)), spV (.int .u32 (s0 : Int)), VlS s0, VlS s0, VlS s0]
structure EnvPq6 (a0 : Act) (w : World) (V5 g0 o0 n c s0 : Nat) : Prop where
  h3 : a0.tmps[3]? = some (ptrV V5)
  c2 : w.cell? ⟨V5, 2, none⟩ = some (.slice (some ⟨g0, o0, none⟩) n c)
  c0 : w.cell? ⟨g0, o0, none⟩ = some (.int .u32 (s0 : Int))
  n1 : 0 < n
  lt : s0 < 4294967296
def skPq6 (i : Nat) : Bool := [].contains i
theorem yPq6_0 {a0 : Act} {w : World} {V5 g0 o0 n c s0 : Nat} (E : EnvPq6 a0 w V5 g0 o0 n c s0) {R : Exit → Act → World → Prop} {a : Act} {x : World} (q : Q w x) (oth : ∀ j, j ∉ sPq6 → a.tmps[j]? = a0.tmps[j]?) (dep : ∀ ed ∈ oPq6_0.after, Region.binds .any ed = true → ∀ t', sPq6[ed.on]? = some t' → ∃ v, a.tmps[t']? = some v ∧ specAt (spPq6 V5 g0 o0 n c s0) ed.on v x) : Yld Try.prog R oPq6_0 a x 71 (specAt (spPq6 V5 g0 o0 n c s0) 0) := by
  have hs := (oth 3 (by decide)).trans E.h3
  exact yld_run (x' := x) rfl (by simp [oPq6_0, execOp, go_sem, hs, ptrV]) (Q.refl x) rfl
theorem yPq6_1 {a0 : Act} {w : World} {V5 g0 o0 n c s0 : Nat} (E : EnvPq6 a0 w V5 g0 o0 n c s0) {R : Exit → Act → World → Prop} {a : Act} {x : World} (q : Q w x) (oth : ∀ j, j ∉ sPq6 → a.tmps[j]? = a0.tmps[j]?) (dep : ∀ ed ∈ oPq6_1.after, Region.binds .any ed = true → ∀ t', sPq6[ed.on]? = some t' → ∃ v, a.tmps[t']? = some v ∧ specAt (spPq6 V5 g0 o0 n c s0) ed.on v x) : Yld Try.prog R oPq6_1 a x 72 (specAt (spPq6 V5 g0 o0 n c s0) 1) := by
  obtain ⟨v0, t0, f0⟩ := dep ⟨0, .data⟩ (by simp [oPq6_1]) rfl 71 rfl
  have f0 : v0 = (.pointer (some ⟨V5, 2, none⟩)) := f0
  subst f0
  have h0 := tmp_eval t0
  have hc := q.cell E.c2
  exact yld_run (x' := x) rfl (by simp [oPq6_1, execOp, go_sem, t0, hc]) (Q.refl x) rfl
theorem yPq6_2 {a0 : Act} {w : World} {V5 g0 o0 n c s0 : Nat} (E : EnvPq6 a0 w V5 g0 o0 n c s0) {R : Exit → Act → World → Prop} {a : Act} {x : World} (q : Q w x) (oth : ∀ j, j ∉ sPq6 → a.tmps[j]? = a0.tmps[j]?) (dep : ∀ ed ∈ oPq6_2.after, Region.binds .any ed = true → ∀ t', sPq6[ed.on]? = some t' → ∃ v, a.tmps[t']? = some v ∧ specAt (spPq6 V5 g0 o0 n c s0) ed.on v x) : Yld Try.prog R oPq6_2 a x 73 (specAt (spPq6 V5 g0 o0 n c s0) 2) := by
  obtain ⟨v1, t1, f1⟩ := dep ⟨1, .data⟩ (by simp [oPq6_2]) rfl 72 rfl
  have f1 : v1 = (.slice (some ⟨g0, o0, none⟩) n c) := f1
  subst f1
  have h1 := tmp_eval t1
  have hn := E.n1
  exact yld_run (x' := x) rfl (by simp [oPq6_2, execOp, go_sem, t1, hn]) (Q.refl x) rfl
theorem yPq6_3 {a0 : Act} {w : World} {V5 g0 o0 n c s0 : Nat} (E : EnvPq6 a0 w V5 g0 o0 n c s0) {R : Exit → Act → World → Prop} {a : Act} {x : World} (q : Q w x) (oth : ∀ j, j ∉ sPq6 → a.tmps[j]? = a0.tmps[j]?) (dep : ∀ ed ∈ oPq6_3.after, Region.binds .any ed = true → ∀ t', sPq6[ed.on]? = some t' → ∃ v, a.tmps[t']? = some v ∧ specAt (spPq6 V5 g0 o0 n c s0) ed.on v x) : Yld Try.prog R oPq6_3 a x 74 (specAt (spPq6 V5 g0 o0 n c s0) 3) := by
  obtain ⟨v2, t2, f2⟩ := dep ⟨2, .data⟩ (by simp [oPq6_3]) rfl 73 rfl
  have f2 : v2 = (.pointer (some ⟨g0, o0, none⟩)) := f2
  subst f2
  have h2 := tmp_eval t2
  have hc := q.cell E.c0
  exact yld_run (x' := x) rfl (by simp [oPq6_3, execOp, go_sem, t2, hc]) (Q.refl x) rfl
theorem yPq6_4 {a0 : Act} {w : World} {V5 g0 o0 n c s0 : Nat} (E : EnvPq6 a0 w V5 g0 o0 n c s0) {R : Exit → Act → World → Prop} {a : Act} {x : World} (q : Q w x) (oth : ∀ j, j ∉ sPq6 → a.tmps[j]? = a0.tmps[j]?) (dep : ∀ ed ∈ oPq6_4.after, Region.binds .any ed = true → ∀ t', sPq6[ed.on]? = some t' → ∃ v, a.tmps[t']? = some v ∧ specAt (spPq6 V5 g0 o0 n c s0) ed.on v x) : Yld Try.prog R oPq6_4 a x 75 (specAt (spPq6 V5 g0 o0 n c s0) 4) := by
  obtain ⟨v3, t3, f3⟩ := dep ⟨3, .data⟩ (by simp [oPq6_4]) rfl 74 rfl
  have f3 : v3 = (.int .u32 (s0 : Int)) := f3
  subst f3
  have h3 := tmp_eval t3
  refine yld_call (enters_of Try.func8 (by kernel_rfl) rfl) (vs := #[.int .u32 (s0 : Int)]) (by simp [h3]) ((v14_all s0 E.lt x).mono ?_)
  rintro u x' ⟨v, rfl, hv, q'⟩
  exact ⟨_, rfl, q', hv⟩
theorem yPq6_5 {a0 : Act} {w : World} {V5 g0 o0 n c s0 : Nat} (E : EnvPq6 a0 w V5 g0 o0 n c s0) {R : Exit → Act → World → Prop} {a : Act} {x : World} (q : Q w x) (oth : ∀ j, j ∉ sPq6 → a.tmps[j]? = a0.tmps[j]?) (dep : ∀ ed ∈ oPq6_5.after, Region.binds .any ed = true → ∀ t', sPq6[ed.on]? = some t' → ∃ v, a.tmps[t']? = some v ∧ specAt (spPq6 V5 g0 o0 n c s0) ed.on v x) : Yld Try.prog R oPq6_5 a x 76 (specAt (spPq6 V5 g0 o0 n c s0) 5) := by
  have hs := (oth 3 (by decide)).trans E.h3
  exact yld_run (x' := x) rfl (by simp [oPq6_5, execOp, go_sem, hs, ptrV]) (Q.refl x) rfl
theorem yPq6_6 {a0 : Act} {w : World} {V5 g0 o0 n c s0 : Nat} (E : EnvPq6 a0 w V5 g0 o0 n c s0) {R : Exit → Act → World → Prop} {a : Act} {x : World} (q : Q w x) (oth : ∀ j, j ∉ sPq6 → a.tmps[j]? = a0.tmps[j]?) (dep : ∀ ed ∈ oPq6_6.after, Region.binds .any ed = true → ∀ t', sPq6[ed.on]? = some t' → ∃ v, a.tmps[t']? = some v ∧ specAt (spPq6 V5 g0 o0 n c s0) ed.on v x) : Yld Try.prog R oPq6_6 a x 77 (specAt (spPq6 V5 g0 o0 n c s0) 6) := by
  obtain ⟨v5, t5, f5⟩ := dep ⟨5, .data⟩ (by simp [oPq6_6]) rfl 76 rfl
  have f5 : v5 = (.pointer (some ⟨V5, 2, none⟩)) := f5
  subst f5
  have h5 := tmp_eval t5
  have hc := q.cell E.c2
  exact yld_run (x' := x) rfl (by simp [oPq6_6, execOp, go_sem, t5, hc]) (Q.refl x) rfl
theorem yPq6_7 {a0 : Act} {w : World} {V5 g0 o0 n c s0 : Nat} (E : EnvPq6 a0 w V5 g0 o0 n c s0) {R : Exit → Act → World → Prop} {a : Act} {x : World} (q : Q w x) (oth : ∀ j, j ∉ sPq6 → a.tmps[j]? = a0.tmps[j]?) (dep : ∀ ed ∈ oPq6_7.after, Region.binds .any ed = true → ∀ t', sPq6[ed.on]? = some t' → ∃ v, a.tmps[t']? = some v ∧ specAt (spPq6 V5 g0 o0 n c s0) ed.on v x) : Yld Try.prog R oPq6_7 a x 78 (specAt (spPq6 V5 g0 o0 n c s0) 7) := by
  obtain ⟨v6, t6, f6⟩ := dep ⟨6, .data⟩ (by simp [oPq6_7]) rfl 77 rfl
  have f6 : v6 = (.slice (some ⟨g0, o0, none⟩) n c) := f6
  subst f6
  have h6 := tmp_eval t6
  have hn := E.n1
  exact yld_run (x' := x) rfl (by simp [oPq6_7, execOp, go_sem, t6, hn]) (Q.refl x) rfl
theorem yPq6_8 {a0 : Act} {w : World} {V5 g0 o0 n c s0 : Nat} (E : EnvPq6 a0 w V5 g0 o0 n c s0) {R : Exit → Act → World → Prop} {a : Act} {x : World} (q : Q w x) (oth : ∀ j, j ∉ sPq6 → a.tmps[j]? = a0.tmps[j]?) (dep : ∀ ed ∈ oPq6_8.after, Region.binds .any ed = true → ∀ t', sPq6[ed.on]? = some t' → ∃ v, a.tmps[t']? = some v ∧ specAt (spPq6 V5 g0 o0 n c s0) ed.on v x) : Yld Try.prog R oPq6_8 a x 79 (specAt (spPq6 V5 g0 o0 n c s0) 8) := by
  obtain ⟨v7, t7, f7⟩ := dep ⟨7, .data⟩ (by simp [oPq6_8]) rfl 78 rfl
  have f7 : v7 = (.pointer (some ⟨g0, o0, none⟩)) := f7
  subst f7
  have h7 := tmp_eval t7
  have hc := q.cell E.c0
  exact yld_run (x' := x) rfl (by simp [oPq6_8, execOp, go_sem, t7, hc]) (Q.refl x) rfl
theorem yPq6_9 {a0 : Act} {w : World} {V5 g0 o0 n c s0 : Nat} (E : EnvPq6 a0 w V5 g0 o0 n c s0) {R : Exit → Act → World → Prop} {a : Act} {x : World} (q : Q w x) (oth : ∀ j, j ∉ sPq6 → a.tmps[j]? = a0.tmps[j]?) (dep : ∀ ed ∈ oPq6_9.after, Region.binds .any ed = true → ∀ t', sPq6[ed.on]? = some t' → ∃ v, a.tmps[t']? = some v ∧ specAt (spPq6 V5 g0 o0 n c s0) ed.on v x) : Yld Try.prog R oPq6_9 a x 80 (specAt (spPq6 V5 g0 o0 n c s0) 9) := by
  obtain ⟨v8, t8, f8⟩ := dep ⟨8, .data⟩ (by simp [oPq6_9]) rfl 79 rfl
  have f8 : v8 = (.int .u32 (s0 : Int)) := f8
  subst f8
  have h8 := tmp_eval t8
  refine yld_call (enters_of Try.func8 (by kernel_rfl) rfl) (vs := #[.int .u32 (s0 : Int)]) (by simp [h8]) ((v14_all s0 E.lt x).mono ?_)
  rintro u x' ⟨v, rfl, hv, q'⟩
  exact ⟨_, rfl, q', hv⟩
theorem yPq6_10 {a0 : Act} {w : World} {V5 g0 o0 n c s0 : Nat} (E : EnvPq6 a0 w V5 g0 o0 n c s0) {R : Exit → Act → World → Prop} {a : Act} {x : World} (q : Q w x) (oth : ∀ j, j ∉ sPq6 → a.tmps[j]? = a0.tmps[j]?) (dep : ∀ ed ∈ oPq6_10.after, Region.binds .any ed = true → ∀ t', sPq6[ed.on]? = some t' → ∃ v, a.tmps[t']? = some v ∧ specAt (spPq6 V5 g0 o0 n c s0) ed.on v x) : Yld Try.prog R oPq6_10 a x 9 (specAt (spPq6 V5 g0 o0 n c s0) 10) := by
  obtain ⟨v4, t4, f4⟩ := dep ⟨4, .data⟩ (by simp [oPq6_10]) rfl 75 rfl
  have f4 : (VlS s0).p v4 x := f4
  exact yld_run (x' := x) rfl (run_asgq (tmp_eval t4)) (Q.refl x) f4
theorem yPq6_11 {a0 : Act} {w : World} {V5 g0 o0 n c s0 : Nat} (E : EnvPq6 a0 w V5 g0 o0 n c s0) {R : Exit → Act → World → Prop} {a : Act} {x : World} (q : Q w x) (oth : ∀ j, j ∉ sPq6 → a.tmps[j]? = a0.tmps[j]?) (dep : ∀ ed ∈ oPq6_11.after, Region.binds .any ed = true → ∀ t', sPq6[ed.on]? = some t' → ∃ v, a.tmps[t']? = some v ∧ specAt (spPq6 V5 g0 o0 n c s0) ed.on v x) : Yld Try.prog R oPq6_11 a x 10 (specAt (spPq6 V5 g0 o0 n c s0) 11) := by
  obtain ⟨v9, t9, f9⟩ := dep ⟨9, .data⟩ (by simp [oPq6_11]) rfl 80 rfl
  have f9 : (VlS s0).p v9 x := f9
  exact yld_run (x' := x) rfl (run_asgq (tmp_eval t9)) (Q.refl x) f9
theorem hopPq6 {a0 : Act} {w : World} {V5 g0 o0 n c s0 : Nat} (E : EnvPq6 a0 w V5 g0 o0 n c s0) {R : Exit → Act → World → Prop} : ∀ (i t : Nat) (o : Oper) (a : Act) (x : World), skPq6 i = false → sPq6[i]? = some t → opsPq6[i]? = some o → Q w x → (∀ j, j ∉ sPq6 → a.tmps[j]? = a0.tmps[j]?) → (∀ ed ∈ o.after, Region.binds .any ed = true → ∀ t', sPq6[ed.on]? = some t' → ∃ v, a.tmps[t']? = some v ∧ specAt (spPq6 V5 g0 o0 n c s0) ed.on v x) → Yld Try.prog R o a x t (specAt (spPq6 V5 g0 o0 n c s0) i)
  | 0, t, o, a, x, hi, ht, ho, q, oth, dep => by
    have e1 : oPq6_0 = o := Option.some.inj ho
    have e2 : 71 = t := Option.some.inj ht
    subst e1 e2
    exact yPq6_0 E q oth dep
  | 1, t, o, a, x, hi, ht, ho, q, oth, dep => by
    have e1 : oPq6_1 = o := Option.some.inj ho
    have e2 : 72 = t := Option.some.inj ht
    subst e1 e2
    exact yPq6_1 E q oth dep
  | 2, t, o, a, x, hi, ht, ho, q, oth, dep => by
    have e1 : oPq6_2 = o := Option.some.inj ho
    have e2 : 73 = t := Option.some.inj ht
    subst e1 e2
    exact yPq6_2 E q oth dep
  | 3, t, o, a, x, hi, ht, ho, q, oth, dep => by
    have e1 : oPq6_3 = o := Option.some.inj ho
    have e2 : 74 = t := Option.some.inj ht
    subst e1 e2
    exact yPq6_3 E q oth dep
  | 4, t, o, a, x, hi, ht, ho, q, oth, dep => by
    have e1 : oPq6_4 = o := Option.some.inj ho
    have e2 : 75 = t := Option.some.inj ht
    subst e1 e2
    exact yPq6_4 E q oth dep
  | 5, t, o, a, x, hi, ht, ho, q, oth, dep => by
    have e1 : oPq6_5 = o := Option.some.inj ho
    have e2 : 76 = t := Option.some.inj ht
    subst e1 e2
    exact yPq6_5 E q oth dep
  | 6, t, o, a, x, hi, ht, ho, q, oth, dep => by
    have e1 : oPq6_6 = o := Option.some.inj ho
    have e2 : 77 = t := Option.some.inj ht
    subst e1 e2
    exact yPq6_6 E q oth dep
  | 7, t, o, a, x, hi, ht, ho, q, oth, dep => by
    have e1 : oPq6_7 = o := Option.some.inj ho
    have e2 : 78 = t := Option.some.inj ht
    subst e1 e2
    exact yPq6_7 E q oth dep
  | 8, t, o, a, x, hi, ht, ho, q, oth, dep => by
    have e1 : oPq6_8 = o := Option.some.inj ho
    have e2 : 79 = t := Option.some.inj ht
    subst e1 e2
    exact yPq6_8 E q oth dep
  | 9, t, o, a, x, hi, ht, ho, q, oth, dep => by
    have e1 : oPq6_9 = o := Option.some.inj ho
    have e2 : 80 = t := Option.some.inj ht
    subst e1 e2
    exact yPq6_9 E q oth dep
  | 10, t, o, a, x, hi, ht, ho, q, oth, dep => by
    have e1 : oPq6_10 = o := Option.some.inj ho
    have e2 : 9 = t := Option.some.inj ht
    subst e1 e2
    exact yPq6_10 E q oth dep
  | 11, t, o, a, x, hi, ht, ho, q, oth, dep => by
    have e1 : oPq6_11 = o := Option.some.inj ho
    have e2 : 10 = t := Option.some.inj ht
    subst e1 e2
    exact yPq6_11 E q oth dep
  | i + 12, t, o, a, x, hi, ht, ho, q, oth, dep => by cases ho
theorem keyPq6 : ∀ i, i < 12 → ((opsPq6[i]?).bind (fun o : Oper => o.guard) = none ∧ skPq6 i = false) := by decide +kernel
theorem hguPq6 {V5 g0 o0 n c s0 : Nat} : ∀ (i : Nat) (o : Oper) (g : Nat) (b : Bool), opsPq6[i]? = some o → o.guard = some (g, b) → ∀ v x, specAt (spPq6 V5 g0 o0 n c s0) g v x → (v = .bool b ↔ skPq6 i = false) := by
  intro i o g b ho hg v x hf
  have h := keyPq6 i (List.getElem?_eq_some_iff.1 ho).1
  rw [ho] at h
  simp only [Option.bind_some] at h
  rw [hg] at h
  rcases h with ⟨h, _⟩
  · cases h
theorem hgnPq6 : ∀ (i : Nat) (o : Oper), opsPq6[i]? = some o → o.guard = none → skPq6 i = false := by
  intro i o ho hg
  have h := keyPq6 i (List.getElem?_eq_some_iff.1 ho).1
  rw [ho] at h
  simp only [Option.bind_some] at h
  rw [hg] at h
  rcases h with ⟨_, h⟩
  · exact h
theorem hskPq6 {V5 g0 o0 n c s0 : Nat} : ∀ (i : Nat) (x : World), skPq6 i = true → specAt (spPq6 V5 g0 o0 n c s0) i undef x := by
  intro i x h
  cases h
theorem regionPq6 {id : Nat} {l : List Oper} {R : Exit → Act → World → Prop} {a0 : Act} {w : World} {V5 g0 o0 n c s0 : Nat} (hl : l = opsPq6) (hsz : a0.tmps.size = 214) (E : EnvPq6 a0 w V5 g0 o0 n c s0)
    (hR : ∀ x v4 v9 v10 v11, (∃ X, v10 = .float .f64 X ∧ (nanN s0 = false → X = wideN s0)) → (∃ X, v11 = .float .f64 X ∧ (nanN s0 = false → X = wideN s0)) → Q w x → R .normal (putAll a0 [(71, (.pointer (some ⟨V5, 2, none⟩))), (72, (.slice (some ⟨g0, o0, none⟩) n c)), (73, (.pointer (some ⟨g0, o0, none⟩))), (74, (.int .u32 (s0 : Int))), (75, v4), (76, (.pointer (some ⟨V5, 2, none⟩))), (77, (.slice (some ⟨g0, o0, none⟩) n c)), (78, (.pointer (some ⟨g0, o0, none⟩))), (79, (.int .u32 (s0 : Int))), (80, v9), (9, v10), (10, v11)]) x) :
    (Code.region id l.toArray true).wp Try.prog R a0 w := by
  subst hl
  refine wp_region_factsS sPq6 (specAt (spPq6 V5 g0 o0 n c s0)) skPq6 (by kernel_rfl) (by decide +kernel) (by decide) (fun t ht => ?_) specAt.next hguPq6 hgnPq6 hskPq6 (hopPq6 E) (fun a x q size defers other facts => ?_)
  · rw [hsz]
    revert t
    decide
  · obtain ⟨v0, t0, f0⟩ := facts 0 71 rfl
    have f0 : v0 = (.pointer (some ⟨V5, 2, none⟩)) := f0
    subst f0
    obtain ⟨v1, t1, f1⟩ := facts 1 72 rfl
    have f1 : v1 = (.slice (some ⟨g0, o0, none⟩) n c) := f1
    subst f1
    obtain ⟨v2, t2, f2⟩ := facts 2 73 rfl
    have f2 : v2 = (.pointer (some ⟨g0, o0, none⟩)) := f2
    subst f2
    obtain ⟨v3, t3, f3⟩ := facts 3 74 rfl
    have f3 : v3 = (.int .u32 (s0 : Int)) := f3
    subst f3
    obtain ⟨v4, t4, f4⟩ := facts 4 75 rfl
    obtain ⟨v5, t5, f5⟩ := facts 5 76 rfl
    have f5 : v5 = (.pointer (some ⟨V5, 2, none⟩)) := f5
    subst f5
    obtain ⟨v6, t6, f6⟩ := facts 6 77 rfl
    have f6 : v6 = (.slice (some ⟨g0, o0, none⟩) n c) := f6
    subst f6
    obtain ⟨v7, t7, f7⟩ := facts 7 78 rfl
    have f7 : v7 = (.pointer (some ⟨g0, o0, none⟩)) := f7
    subst f7
    obtain ⟨v8, t8, f8⟩ := facts 8 79 rfl
    have f8 : v8 = (.int .u32 (s0 : Int)) := f8
    subst f8
    obtain ⟨v9, t9, f9⟩ := facts 9 80 rfl
    obtain ⟨v10, t10, f10⟩ := facts 10 9 rfl
    obtain ⟨v11, t11, f11⟩ := facts 11 10 rfl
    have hA := act_puts (a := a) (a0 := a0) [(71, (.pointer (some ⟨V5, 2, none⟩))), (72, (.slice (some ⟨g0, o0, none⟩) n c)), (73, (.pointer (some ⟨g0, o0, none⟩))), (74, (.int .u32 (s0 : Int))), (75, v4), (76, (.pointer (some ⟨V5, 2, none⟩))), (77, (.slice (some ⟨g0, o0, none⟩) n c)), (78, (.pointer (some ⟨g0, o0, none⟩))), (79, (.int .u32 (s0 : Int))), (80, v9), (9, v10), (10, v11)] (by show [71, 72, 73, 74, 75, 76, 77, 78, 79, 80, 9, 10].Nodup; decide) size defers (fun j hj => other j (fun hk => hj hk)) (fun r hr => by
      simp only [List.mem_cons, List.not_mem_nil, or_false] at hr
      rcases hr with rfl | rfl | rfl | rfl | rfl | rfl | rfl | rfl | rfl | rfl | rfl | rfl
      · exact t0
      · exact t1
      · exact t2
      · exact t3
      · exact t4
      · exact t5
      · exact t6
      · exact t7
      · exact t8
      · exact t9
      · exact t10
      · exact t11)
    rw [hA]
    exact ⟨hR x v4 v9 v10 v11 f10 f11 q⟩
end Go.Proofs.Ytgaolakfgjmeiab
/- PyramidRises: the lesser and the greater of two planes, their least and greatest value (BlR, BlS; gen_ria.py) -/
namespace Go.Proofs.Ytgaolakfgjmeiab
open Go.RowKit
set_option linter.unusedVariables false
set_option linter.unusedSimpArgs false

/-- A plane in a box. -/
structure Pbb (W0 x : World) (B : Nat) (pw ph : Int) (sv : Value) : Prop where
  c0 : x.cell? ⟨B, 0, none⟩ = some (.int .i64 pw)
  c1 : x.cell? ⟨B, 1, none⟩ = some (.int .i64 ph)
  c2 : x.cell? ⟨B, 2, none⟩ = some sv
  q : Q W0 x
theorem Pbb.next {W0 x y : World} {B : Nat} {pw ph : Int} {sv : Value} (h : Pbb W0 x B pw ph sv) (q : Q x y) : Pbb W0 y B pw ph sv := ⟨q.cell h.c0, q.cell h.c1, q.cell h.c2, h.q.trans q⟩
theorem Pbb.mk' (W0 x : World) (q : Q W0 x) (pw ph : Int) (ad : Option Addr) (n c : Nat) : Pbb W0 (x.alloc (.cells #[.int .i64 pw, .int .i64 ph, .slice ad n c] 24)) x.heap.size pw ph (.slice ad n c) := ⟨by simp [go_sem], by simp [go_sem], by simp [go_sem], q.cells _ _⟩
def loF (S O : List Nat) (j : Nat) : Nat := if srung32 (O.getD j 0) < srung32 (S.getD j 0) then O.getD j 0 else S.getD j 0
def hiF (S O : List Nat) (j : Nat) : Nat := if srung32 (O.getD j 0) < srung32 (S.getD j 0) then S.getD j 0 else O.getD j 0
/-- What lies there by now. -/
def mixF (F : Nat → Nat) (S : List Nat) (i : Nat) (j : Nat) : Nat := if j < i then F j else S.getD j 0
structure Ris (W0 x : World) (B g1 g2 : Nat) (pw ph : Int) (sv : Value) (n : Nat) (S O : List Nat) (a1 a2 : Option Addr) (c1 c2 : Nat) (i : Nat) : Prop where
  p : Pbb W0 x B pw ph sv
  lo : Pbb W0 x g1 pw ph (.slice a1 n c1)
  hi : Pbb W0 x g2 pw ph (.slice a2 n c2)
  two : n = 0 ∨ ∃ b1 b2, a1 = some ⟨b1, 0, none⟩ ∧ a2 = some ⟨b2, 0, none⟩ ∧ W0.heap.size < b1 ∧ W0.heap.size < b2 ∧ b1 ≠ b2 ∧ b1 ≠ g1 ∧ b1 ≠ g2 ∧ b2 ≠ g1 ∧ b2 ≠ g2 ∧ (∀ j, j < n → x.cell? ⟨b1, j, none⟩ = some (.int .u32 ((mixF (loF S O) S i j : Nat) : Int))) ∧ (∀ j, j < n → x.cell? ⟨b2, j, none⟩ = some (.int .u32 ((mixF (hiF S O) S i j : Nat) : Int))) ∧ (∀ j, x.frozen? ⟨b1, j, none⟩ = false) ∧ (∀ j, x.frozen? ⟨b2, j, none⟩ = false)
  fin : ∀ j, j < i → rung32 (S.getD j 0) < 2139095040 ∧ rung32 (O.getD j 0) < 2139095040
  gb : W0.heap.size = B
theorem Ris.next {W0 x y : World} {B g1 g2 : Nat} {pw ph : Int} {sv : Value} {n : Nat} {S O : List Nat} {a1 a2 : Option Addr} {c1 c2 i : Nat} (h : Ris W0 x B g1 g2 pw ph sv n S O a1 a2 c1 c2 i) (q : Q x y) : Ris W0 y B g1 g2 pw ph sv n S O a1 a2 c1 c2 i :=
  ⟨h.p.next q, h.lo.next q, h.hi.next q, h.two.imp id fun ⟨b1, b2, e1, e2, e3, e4, e5, e6, e7, e8, e9, r1, r2, f1, f2⟩ => ⟨b1, b2, e1, e2, e3, e4, e5, e6, e7, e8, e9, fun j hj => q.cell (r1 j hj), fun j hj => q.cell (r2 j hj), fun j => by rw [q.2]; exact f1 j, fun j => by rw [q.2]; exact f2 j⟩, h.fin, h.gb⟩
theorem Pbb.setR {W0 x : World} {B : Nat} {pw ph : Int} {sv : Value} (h : Pbb W0 x B pw ph sv) {p : Addr} (hb : p.block ≠ B) (hl : W0.heap.size ≤ p.block) (v : Value) : Pbb W0 (x.setCell p v) B pw ph sv := by
  have ne : ∀ j, (⟨B, j, none⟩ : Addr) ≠ p := fun j e => hb (by rw [← e])
  exact ⟨(World.cell?_setCell_other _ _ _ _ (fun e => ne 0 e.symm)).trans h.c0, (World.cell?_setCell_other _ _ _ _ (fun e => ne 1 e.symm)).trans h.c1, (World.cell?_setCell_other _ _ _ _ (fun e => ne 2 e.symm)).trans h.c2, h.q.set hl _⟩
/-- A store of one sample. -/
theorem Ris.put {W0 x : World} {B g1 g2 : Nat} {pw ph : Int} {sv : Value} {n : Nat} {S O : List Nat} {a1 a2 : Option Addr} {c1 c2 i : Nat} (h : Ris W0 x B g1 g2 pw ph sv n S O a1 a2 c1 c2 i) {b1 b2 : Nat} (e1 : a1 = some ⟨b1, 0, none⟩) (e2 : a2 = some ⟨b2, 0, none⟩) (hi : i < n) (hf : rung32 (S.getD i 0) < 2139095040) (hg : rung32 (O.getD i 0) < 2139095040) :
    (srung32 (O.getD i 0) < srung32 (S.getD i 0) → Ris W0 (x.setCell ⟨b1, i, none⟩ (.int .u32 ((O.getD i 0 : Nat) : Int))) B g1 g2 pw ph sv n S O a1 a2 c1 c2 (i + 1)) ∧ (¬ srung32 (O.getD i 0) < srung32 (S.getD i 0) → Ris W0 (x.setCell ⟨b2, i, none⟩ (.int .u32 ((O.getD i 0 : Nat) : Int))) B g1 g2 pw ph sv n S O a1 a2 c1 c2 (i + 1)) := by
  obtain ⟨p1, p2, p3, two, fin, gb⟩ := h
  rcases two with h0 | ⟨d1, d2, e1', e2', l1, l2, n12, n3, n4, n5, n6, r1, r2, f1, f2⟩
  · omega
  rw [e1] at e1'
  rw [e2] at e2'
  injection e1' with e1'
  injection e1' with e1'
  injection e2' with e2'
  injection e2' with e2'
  subst e1' e2'
  have fin' : ∀ j, j < i + 1 → rung32 (S.getD j 0) < 2139095040 ∧ rung32 (O.getD j 0) < 2139095040 := fun j hj => by
    by_cases e : j = i
    · subst e; exact ⟨hf, hg⟩
    · exact fin j (by omega)
  have mix_ne : ∀ (F : Nat → Nat) (j : Nat), j ≠ i → mixF F S (i + 1) j = mixF F S i j := fun F j hj => by
    unfold mixF
    by_cases h : j < i
    · rw [if_pos h, if_pos (by omega)]
    · rw [if_neg h, if_neg (by omega)]
  have mix_eq : ∀ (F : Nat → Nat), mixF F S (i + 1) i = F i := fun F => by unfold mixF; rw [if_pos (by omega)]
  have mix_old : ∀ (F : Nat → Nat), mixF F S i i = S.getD i 0 := fun F => by unfold mixF; rw [if_neg (by omega)]
  have hc1 := r1 i hi
  have hc2 := r2 i hi
  constructor
  · intro hlt
    refine ⟨p1.setR (by show b1 ≠ _; omega) (by show _ ≤ b1; omega) _, p2.setR (by show b1 ≠ _; omega) (by show _ ≤ b1; omega) _, p3.setR (by show b1 ≠ _; omega) (by show _ ≤ b1; omega) _, Or.inr ⟨b1, b2, e1, e2, l1, l2, n12, n3, n4, n5, n6, fun j hj => ?_, fun j hj => ?_, fun j => by rw [World.frozen?_setCell]; exact f1 j, fun j => by rw [World.frozen?_setCell]; exact f2 j⟩, fin', gb⟩
    · by_cases e : j = i
      · subst e
        rw [mix_eq, show loF S O j = O.getD j 0 by unfold loF; rw [if_pos hlt]]
        exact World.cell?_setCell_same _ _ _ hc1
      · rw [mix_ne _ _ e]
        exact (World.cell?_setCell_other _ _ _ _ (fun h => e (by injection h with _ h; exact h.symm))).trans (r1 j hj)
    · have hd : mixF (hiF S O) S (i + 1) j = mixF (hiF S O) S i j := by
        by_cases e : j = i
        · subst e
          rw [mix_eq, mix_old]; unfold hiF; rw [if_pos hlt]
        · exact mix_ne _ _ e
      rw [hd]
      exact (World.cell?_setCell_other _ _ _ _ (fun h => n12 (by injection h))).trans (r2 j hj)
  · intro hlt
    refine ⟨p1.setR (by show b2 ≠ _; omega) (by show _ ≤ b2; omega) _, p2.setR (by show b2 ≠ _; omega) (by show _ ≤ b2; omega) _, p3.setR (by show b2 ≠ _; omega) (by show _ ≤ b2; omega) _, Or.inr ⟨b1, b2, e1, e2, l1, l2, n12, n3, n4, n5, n6, fun j hj => ?_, fun j hj => ?_, fun j => by rw [World.frozen?_setCell]; exact f1 j, fun j => by rw [World.frozen?_setCell]; exact f2 j⟩, fin', gb⟩
    · have hd : mixF (loF S O) S (i + 1) j = mixF (loF S O) S i j := by
        by_cases e : j = i
        · subst e
          rw [mix_eq, mix_old]; unfold loF; rw [if_neg hlt]
        · exact mix_ne _ _ e
      rw [hd]
      exact (World.cell?_setCell_other _ _ _ _ (fun h => n12 (by injection h with h; exact h.symm))).trans (r1 j hj)
    · by_cases e : j = i
      · subst e
        rw [mix_eq, show hiF S O j = O.getD j 0 by unfold hiF; rw [if_neg hlt]]
        exact World.cell?_setCell_same _ _ _ hc2
      · rw [mix_ne _ _ e]
        exact (World.cell?_setCell_other _ _ _ _ (fun h => e (by injection h with _ h; exact h.symm))).trans (r2 j hj)
theorem lohi_facts {S O : List Nat} {j : Nat} (h1 : rung32 (S.getD j 0) < 2139095040) (h2 : rung32 (O.getD j 0) < 2139095040) : rung32 (loF S O j) < 2139095040 ∧ rung32 (hiF S O j) < 2139095040 ∧ srung32 (loF S O j) ≤ srung32 (hiF S O j) := by
  unfold loF hiF
  split
  · exact ⟨h2, h1, by omega⟩
  · exact ⟨h1, h2, by omega⟩
def Fnt (x : Nat) : Prop := rung32 x < 2139095040 ∧ x < 4294967296
/-- What 'least' and 'most' are. -/
def LstP (S O : List Nat) (i : Nat) (X Y : Nat) : Prop := rung32 (S.getD 0 0) < 2139095040 → ∃ lw mw, X = wideN lw ∧ Y = wideN mw ∧ Fnt lw ∧ Fnt mw ∧ ∀ j, j < i → srung32 lw ≤ srung32 (loF S O j) ∧ srung32 (hiF S O j) ≤ srung32 mw
theorem nan_fin {x : Nat} (h : rung32 x < 2139095040) : nanN x = false := by
  unfold nanN
  unfold rung32 at h
  exact decide_eq_false (by omega)
theorem LstP.start {S O : List Nat} {X Y s0 : Nat} (hs : S.getD 0 0 = s0) (hb : s0 < 4294967296) (hX : nanN s0 = false → X = wideN s0) (hY : nanN s0 = false → Y = wideN s0) : LstP S O 0 X Y := fun h => by
  rw [hs] at h
  exact ⟨s0, s0, hX (nan_fin h), hY (nan_fin h), ⟨h, hb⟩, ⟨h, hb⟩, fun j hj => by omega⟩
theorem LstP.step {S O : List Nat} {i lw mw c d : Nat} (hall : ∀ j, j < i → srung32 lw ≤ srung32 (loF S O j) ∧ srung32 (hiF S O j) ≤ srung32 mw) (hc : Fnt c) (hd : Fnt d) (c1 : srung32 c ≤ srung32 lw) (c2 : srung32 c ≤ srung32 (loF S O i)) (d1 : srung32 mw ≤ srung32 d) (d2 : srung32 (hiF S O i) ≤ srung32 d) : LstP S O (i + 1) (wideN c) (wideN d) := fun _ =>
  ⟨c, d, rfl, rfl, hc, hd, fun j hj => by
    by_cases e : j = i
    · subst e; exact ⟨c2, d2⟩
    · have := hall j (by omega); omega⟩
theorem ord_lt {a b : Nat} (ha : rung32 a < 2139095040) (hb : rung32 b < 2139095040) : (Ieee.double.order (wideN a) (wideN b) == some Ordering.lt) = decide (srung32 a < srung32 b) := by
  rw [ord_fin ha hb]
  by_cases h : srung32 a < srung32 b
  · rw [decide_eq_true h]
    have : compare (srung32 a) (srung32 b) = .lt := by simp [compare, compareOfLessAndEq, h]
    rw [this]; rfl
  · rw [decide_eq_false h]
    have : compare (srung32 a) (srung32 b) ≠ .lt := by
      simp only [compare, compareOfLessAndEq, if_neg h]
      split <;> decide
    cases hc : compare (srung32 a) (srung32 b)
    · exact absurd hc this
    · rfl
    · rfl
theorem ord_gt {a b : Nat} (ha : rung32 a < 2139095040) (hb : rung32 b < 2139095040) (h : srung32 a ≤ srung32 b) : Ieee.double.order (wideN a) (wideN b) = some Ordering.lt ∨ Ieee.double.order (wideN a) (wideN b) = some Ordering.eq := by
  rw [ord_fin ha hb]
  by_cases h2 : srung32 a < srung32 b
  · left
    have : compare (srung32 a) (srung32 b) = .lt := by simp [compare, compareOfLessAndEq, h2]
    rw [this]
  · right
    have e : srung32 a = srung32 b := by omega
    have : compare (srung32 a) (srung32 b) = .eq := by simp [compare, compareOfLessAndEq, e]
    rw [this]
end Go.Proofs.Ytgaolakfgjmeiab
/- halidelaw14.rises: two lists of samples, one nowhere above the other one, between two samples. -/
namespace Go.Proofs.Ytgaolakfgjmeiab
open Go.RowKit
set_option linter.unusedVariables false
set_option linter.unusedSimpArgs false

theorem ord_le {p q : Nat} (h : Ieee.double.order p q = some Ordering.lt ∨ Ieee.double.order p q = some Ordering.eq) : (FloatKind.f64.format.order p q == some Ordering.lt || FloatKind.f64.format.order p q == some Ordering.eq) = true := by
  have e : FloatKind.f64.format.order p q = Ieee.double.order p q := rfl
  rw [e]
  rcases h with h | h <;> rw [h] <;> rfl
set_option maxHeartbeats 4000000 in
set_option maxRecDepth 100000 in
theorem rises14_any (a b : Int) (ga gb m : Nat) (F1 F2 : Nat → Nat) (lw mw : Nat) (w : World) (hm : 1 ≤ m) (hm2 : m ≤ 65536) (h1 : VR w ga m (fun j => .int .u32 ((F1 j : Nat) : Int))) (h2 : VR w gb m (fun j => .int .u32 ((F2 j : Nat) : Int))) (hlw : Fnt lw) (hmw : Fnt mw)
    (hF : ∀ j, j < m → F1 j < 4294967296 ∧ F2 j < 4294967296 ∧ rung32 (F1 j) < 2139095040 ∧ rung32 (F2 j) < 2139095040 ∧ srung32 lw ≤ srung32 (F1 j) ∧ srung32 (F1 j) ≤ srung32 (F2 j) ∧ srung32 (F2 j) ≤ srung32 mw) :
    Calls Try.prog 12 #[.agg #[.int .i64 a, .int .i64 b, .slice (some ⟨ga, 0, none⟩) m m], .agg #[.int .i64 a, .int .i64 b, .slice (some ⟨gb, 0, none⟩) m m], .float .f64 (wideN lw), .float .f64 (wideN mw)] w fun e w' => e = .returned (.bool true) ∧ Q w w' := by
  have HH : Hid (∀ j, j < m → F1 j < 4294967296 ∧ F2 j < 4294967296 ∧ rung32 (F1 j) < 2139095040 ∧ rung32 (F2 j) < 2139095040 ∧ srung32 lw ≤ srung32 (F1 j) ∧ srung32 (F1 j) ≤ srung32 (F2 j) ∧ srung32 (F2 j) ≤ srung32 mw) := hF
  have HL : Hid (Fnt lw ∧ Fnt mw) := ⟨hlw, hmw⟩
  have H1 : Hid (VR w ga m (fun j => .int .u32 ((F1 j : Nat) : Int))) := h1
  have H2 : Hid (VR w gb m (fun j => .int .u32 ((F2 j : Nat) : Int))) := h2
  clear hF hlw hmw h1 h2
  obtain ⟨w1, hw1⟩ : ∃ w1, (w.alloc (.cells #[.int .i64 a, .int .i64 b, .slice (some ⟨ga, 0, none⟩) m m] 24)).alloc (.cells #[.int .i64 a, .int .i64 b, .slice (some ⟨gb, 0, none⟩) m m] 24) = w1 := ⟨_, rfl⟩
  have q1 : Q w w1 := by rw [← hw1]; exact ((Q.refl w).cells _ _).cells _ _
  have HQ1 : Hid (Q w w1) := q1
  have k2 : w1.cell? ⟨w.heap.size, 2, none⟩ = some (.slice (some ⟨ga, 0, none⟩) m m) := by rw [← hw1]; simp [go_sem]
  have j2 : w1.cell? ⟨w.heap.size + 1, 2, none⟩ = some (.slice (some ⟨gb, 0, none⟩) m m) := by rw [← hw1]; simp [go_sem]
  have HK : Hid (w1.cell? ⟨w.heap.size, 2, none⟩ = some (.slice (some ⟨ga, 0, none⟩) m m) ∧ w1.cell? ⟨w.heap.size + 1, 2, none⟩ = some (.slice (some ⟨gb, 0, none⟩) m m)) := ⟨k2, j2⟩
  have e0 : ((m : Int) != (m : Int)) = false := by simp
  have e1 : ((m : Int) == 0) = false := by rw [beq_eq_false_iff_ne]; omega
  clear q1
  go_enter Try.func12, Try.ntmps12
  go_wp2_with fail
  clear hw1
  go_loopg [9] m (fun kk s9 wx => ∃ j : Nat, s9 = .int .i64 (j : Int) ∧ j + kk = m ∧ Hid (Q w1 wx))
  case atStart => exact ⟨0, rfl, by omega, Q.refl _⟩
  case round =>
    obtain ⟨j, rfl, hj, HY⟩ := hrel
    clear k2 j2
    have o2 := HY.out.cell HK.out.1
    have p2 := HY.out.cell HK.out.2
    by_cases hlt2 : j < m
    · have hlt3 : (j : Int) < (m : Int) := by omega
      have ck := HY.out.cell (HQ1.out.cell (H1.out.cell j hlt2))
      have dk := HY.out.cell (HQ1.out.cell (H2.out.cell j hlt2))
      obtain ⟨b1, b2, v4, v5, v1, v2, v3⟩ := HH.out j hlt2
      obtain ⟨x, hx⟩ : ∃ x, F1 j = x := ⟨_, rfl⟩
      obtain ⟨y, hy⟩ : ∃ y, F2 j = y := ⟨_, rfl⟩
      simp only [hx] at ck v1 v2 v4
      simp only [hy] at dk v2 v3 v5
      have CV : Hid (∀ (z : Nat) (w : World), (z = x ∨ z = y) → Calls Try.prog 8 #[.int .u32 (z : Int)] w fun e w' => e = .returned (.float .f64 (wideN z)) ∧ w' = w) := fun z w hz => v14_any z (nan_fin (by rcases hz with rfl | rfl <;> assumption)) w
      have g1 := ord_le (ord_gt HL.out.1.1 v4 v1)
      have g2 := ord_le (ord_gt v4 v5 v2)
      have g3 := ord_le (ord_gt v5 HL.out.2.1 v3)
      have n0 := qw_some wr
      have q1 := qw_cell ck
      have q2 := qw_cell dk
      have q3 := qw_cell o2
      have q4 := qw_cell p2
      clear v1 v2 v3 v4 v5 hx hy ck dk b1 b2
      go_wp2_with fail
      refine wp_region_quiet_Q (by kernel_rfl) (by kernel_rfl) ?_
      repeat (first | go_big_quiet_step (first | (go_at_call 8; exact calls_qs (CV.out _ _ (by first | exact Or.inl rfl | exact Or.inr rfl)))) | quiet_step (first | (go_at_call 8; exact calls_qs (CV.out _ _ (by first | exact Or.inl rfl | exact Or.inr rfl)))))
      refine wpQuiet_nil ?_
      intro w9 hw'
      have HY9 : Hid (Q w1 w9) := HY.out.trans (qw_out hw')
      clear n0 q1 q2 q3 q4 hw' o2 p2 HY
      go_wp2_with fail
      go_roundg (m - (j + 1))
      case measure => go_light; omega
      case rel => go_light; exact ⟨j + 1, by go_num, by omega, HY9⟩
    · obtain rfl : m = j := by omega
      have hge2 : ¬ (m : Int) < (m : Int) := by omega
      go_wp2_with fail
      go_ret
      exact ⟨rfl, HQ1.out.trans HY.out⟩
end Go.Proofs.Ytgaolakfgjmeiab
/- PyramidRises, plainly: halves and doubles of two lists, one nowhere above the other one. -/
namespace Go.Proofs.Ytgaolakfgjmeiab
open Go.RowKit
set_option linter.unusedVariables false

def RrP (lw mw a b : Nat) : Prop := (a < 4294967296 ∧ b < 4294967296) ∧ rung32 a < 2139095040 ∧ rung32 b < 2139095040 ∧ srung32 lw ≤ srung32 a ∧ srung32 a ≤ srung32 b ∧ srung32 b ≤ srung32 mw
theorem keeps_rr {lw mw n : Nat} (hl : Fnt lw) (hm : Fnt mw) {L : Nat → Mx} (ho : ∀ i, (L i).Ok n) (hs : ∀ i, (L i).Sm) (hf : ∀ i, (L i).Of) : Keeps (RrP lw mw) L n := fun i S T h => by
  have a := mx_between (ho i) (hs i) (hf i) (S := S) ⟨hl.1, hl.2⟩ ⟨hm.1, hm.2⟩ (fun t ht => by obtain ⟨_, h1, h2, h3, h4, h5⟩ := h t ht; exact ⟨h1, h3, by omega⟩)
  have b := mx_between (ho i) (hs i) (hf i) (S := T) ⟨hl.1, hl.2⟩ ⟨hm.1, hm.2⟩ (fun t ht => by obtain ⟨_, h1, h2, h3, h4, h5⟩ := h t ht; exact ⟨h2, by omega, h5⟩)
  have c := mx_rises (ho i) (hs i) (S := S) (T := T) (fun t ht => (h t ht).2.1) (fun t ht => (h t ht).2.2.1) (fun t ht => (h t ht).2.2.2.2.1)
  exact ⟨⟨Mx.val_lt _ _, Mx.val_lt _ _⟩, a.1, b.1, a.2.1, c, b.2.2⟩
theorem rd_rise {lw mw pa pb : Nat} (hsz : Size pa pb) (hl : Fnt lw) (hm : Fnt mw) {S T : List Nat} (h : ∀ i, i < pa * pb → RrP lw mw (S.getD i 0) (T.getD i 0)) {j : Nat} (hj : j < (pa + 1) / 2 * ((pb + 1) / 2)) : RrP lw mw (rdF pa pb S j) (rdF pa pb T j) :=
  rd_rel hsz (keeps_rr hl hm (hlv_ok hsz.a1) (hlv_sm pa) (hlv_of pa)) (keeps_rr hl hm (hlv_ok hsz.b1) (hlv_sm pb) (hlv_of pb)) h hj
theorem ex_rise {lw mw pa pb a b : Nat} (hsz : Size pa pb) (ha : 0 < a) (hl : Fnt lw) (hm : Fnt mw) {S T : List Nat} (h : ∀ i, i < pa * pb → RrP lw mw (S.getD i 0) (T.getD i 0)) {j : Nat} (hj : j < a * b) : RrP lw mw (exF pa pb a b S j) (exF pa pb a b T j) :=
  ex_rel ha (keeps_rr hl hm (dbl_ok hsz.a1) (dbl_sm pa) (dbl_of pa)) (keeps_rr hl hm (dbl_ok hsz.b1) (dbl_sm pb) (dbl_of pb)) h hj
end Go.Proofs.Ytgaolakfgjmeiab
