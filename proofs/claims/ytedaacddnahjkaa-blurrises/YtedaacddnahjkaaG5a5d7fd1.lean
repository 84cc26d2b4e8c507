/- Sums of products with weights: the program's, whatever the products are. -/
import Derived.Test.YtedaacddnahjkaaG631fdf94
import Derived.Test.YtedaacddnahjkaaG69dc85f7
import Derived.Test.YtedaacddnahjkaaGfcaae9a0
import Derived.Test.YtedaacddnahjkaaG6ceeabd1
namespace Go.Proofs.Ytedaacddnahjkaa
open Go.RowKit
set_option linter.unusedVariables false
set_option linter.unusedSimpArgs false

/-- A product in binary64. -/
def prodV (y : Int) (s : Nat) : Nat := told64 ((Ieee.double.read (floatOfInt .f64 y)).product (Ieee.double.read (wideW s)))
theorem prod_num {d d' e : Ieee.Datum} (h : d.product d' = some e) : e.isNaN = false := by
  cases d <;> cases d' <;> simp [Ieee.Datum.product] at h
  all_goals first | (subst h; rfl) | (split at h <;> first | (cases h) | (injection h with h; subst h; rfl)) | (obtain ⟨_, h⟩ := h; subst h; rfl)
section
variable {P : Program} {ρ : Operand → Value} {x : World} {d : Option Tmp} {ty : TypeId} {ps : String} {af : Array Edge} {g : Option (Nat × Bool)}
theorem run_ixi {j k gg o Lw cap i : Nat} (h : ρ (.tmp j) = .slice (some ⟨gg, o, none⟩) Lw cap) (h' : ρ (.tmp k) = .int .i64 (i : Nat)) (hi : i < Lw) : (execOp ρ { dst := d, op := .indexAddr 28 (.tmp j) (.tmp k), type := ty, pos := ps, after := af, guard := g }).run Try.prog x = .ok (.value (.pointer (some ⟨gg, o + i, none⟩))) x := by
  simp [execOp, h, h', go_sem, hi]
theorem run_ldi {j : Nat} {p : Addr} {v : Value} (h : ρ (.tmp j) = .pointer (some p)) (c : x.cell? p = some v) : (execOp ρ { dst := d, op := .load 3 (.tmp j), type := ty, pos := ps, after := af, guard := g }).run Try.prog x = .ok (.value v) x := by
  simp [execOp, h, go_sem, c]
theorem run_cvf {j : Nat} {n : Int} (h : ρ (.tmp j) = .int .i64 n) : (execOp ρ { dst := d, op := .convert 3 61 (.tmp j), type := ty, pos := ps, after := af, guard := g }).run Try.prog x = .ok (.value (.float .f64 (floatOfInt .f64 n))) x := by
  simp [execOp, h, go_sem]
theorem run_mulf {j k : Nat} {y : Int} {s : Nat} (h : ρ (.tmp j) = .float .f64 (floatOfInt .f64 y)) (h' : ρ (.tmp k) = .float .f64 (wideW s)) : ∃ W x', (execOp ρ { dst := d, op := .binOp .mul 61 (.tmp j) (.tmp k) 61, type := ty, pos := ps, after := af, guard := g }).run Try.prog x = .ok (.value (.float .f64 W)) x' ∧ Q x x' ∧ W < 18446744073709551616 ∧ canW W = prodV y s := by
  cases hd : (Ieee.double.read (floatOfInt .f64 y)).product (Ieee.double.read (wideW s)) with
  | none =>
    have hf : floatBits .mul .f64 (floatOfInt .f64 y) (wideW s) = none := by
      show ((Ieee.double.read (floatOfInt .f64 y)).product (Ieee.double.read (wideW s))).map Ieee.double.write = none
      rw [hd]; rfl
    have l1 := run_arith_none .mul (by simp) 61 .f64 (floatOfInt .f64 y) (wideW s) hf Try.prog x
    refine ⟨nanw .f64 (floatOfInt .f64 y) (wideW s) x, x.drew, ?_, (Q.refl x).drew, (nanw64 _ _ _).2, ?_⟩
    · simp [execOp, h, h', go_sem, l1]
    · unfold prodV
      rw [hd]
      exact can_none _ _ _
  | some e =>
    have hf : floatBits .mul .f64 (floatOfInt .f64 y) (wideW s) = some (Ieee.double.write e) := by
      show ((Ieee.double.read (floatOfInt .f64 y)).product (Ieee.double.read (wideW s))).map Ieee.double.write = _
      rw [hd]; rfl
    have l1 := run_float_arith (P := Try.prog) x .mul 61 .f64 (floatOfInt .f64 y) (wideW s) _ hf
    refine ⟨Ieee.double.write e, x, ?_, Q.refl x, write64_lt e, ?_⟩
    · simp [execOp, h, h', go_sem, l1]
    · unfold prodV
      rw [hd]
      exact can_some (prod_num hd)
end
def flS (P : Nat) : Spec := ⟨fun v _ => ∃ W, v = .float .f64 W ∧ W < 18446744073709551616 ∧ canW W = P, fun h _ => h⟩
def oD5_0 : Oper := { dst := some 41, op := .move (.tmp 0), type := 28, pos := "sums.go:119", after := #[], guard := none }
def oD5_1 : Oper := { dst := some 42, op := .move (.tmp 9), type := 3, pos := "sums.go:119", after := #[], guard := none }
def oD5_2 : Oper := { dst := some 43, op := .indexAddr 28 (.tmp 41) (.tmp 42), type := 0, pos := "sums.go:119", after := #[⟨0, .data⟩, ⟨1, .data⟩], guard := none }
def oD5_3 : Oper := { dst := some 44, op := .load 3 (.tmp 43), type := 3, pos := "sums.go:119", after := #[⟨2, .data⟩], guard := none }
def oD5_4 : Oper := { dst := some 45, op := .convert 3 61 (.tmp 44), type := 61, pos := "sums.go:119", after := #[⟨3, .data⟩], guard := none }
def oD5_5 : Oper := { dst := some 46, op := .move (.tmp 10), type := 63, pos := "sums.go:119", after := #[], guard := none }
def oD5_7 : Oper := { dst := some 48, op := .binOp .mul 61 (.tmp 45) (.tmp 47) 61, type := 61, pos := "sums.go:119", after := #[⟨4, .data⟩, ⟨6, .data⟩], guard := none }
def oD5_8 : Oper := { dst := some 11, op := .assign (.tmp 48), type := 61, pos := "sums.go:119", after := #[⟨7, .data⟩, ⟨6, .chain⟩, ⟨0, .phase⟩, ⟨1, .phase⟩, ⟨2, .phase⟩, ⟨3, .phase⟩, ⟨4, .phase⟩, ⟨5, .phase⟩, ⟨6, .phase⟩, ⟨7, .phase⟩], guard := none }
def sD5 : List Nat := [41, 42, 43, 44, 45, 46, 47, 48]
def spD5 (gb ob ib Lw cap : Nat) (y : Int) (s : Nat) : List Spec := [spV (.slice (some ⟨gb, ob, none⟩) Lw cap), spV (.int .i64 (ib : Nat)), spV (.pointer (some ⟨gb, ob + ib, none⟩)), spV (.int .i64 y), spV (.float .f64 (floatOfInt .f64 y)), spV (.int .u32 (s : Nat)), spV (.float .f64 (wideW s)), flS (prodV y s)]
structure EnvD5 (a0 : Act) (w : World) (gb ob ib Lw cap : Nat) (y : Int) (s : Nat) : Prop where
  h0 : a0.tmps[0]? = some (.slice (some ⟨gb, ob, none⟩) Lw cap)
  h9 : a0.tmps[9]? = some (.int .i64 (ib : Nat))
  h10 : a0.tmps[10]? = some (.int .u32 (s : Nat))
  hi : ib < Lw
  c : w.cell? ⟨gb, ob + ib, none⟩ = some (.int .i64 y)
  hs : s < 4294967296
theorem yD5_0 {a0 : Act} {w : World} {gb ob ib Lw cap : Nat} {y : Int} {s : Nat} (E : EnvD5 a0 w gb ob ib Lw cap y s) {R : Exit → Act → World → Prop} {a : Act} {x : World} (q : Q w x) (oth : ∀ j, j ∉ sD5 → a.tmps[j]? = a0.tmps[j]?) (dep : ∀ ed ∈ oD5_0.after, Region.binds .any ed = true → ∀ t', sD5[ed.on]? = some t' → ∃ v, a.tmps[t']? = some v ∧ specAt (spD5 gb ob ib Lw cap y s) ed.on v x) : Yld Try.prog R oD5_0 a x 41 (fun v x' => specAt (spD5 gb ob ib Lw cap y s) 0 v x' ∧ (0 ∈ ([] : List Nat) → v = ptrV x.heap.size)) := by
  exact yld_move ((oth 0 (by decide)).trans E.h0) ⟨rfl, fun h => absurd h (by decide)⟩
theorem yD5_1 {a0 : Act} {w : World} {gb ob ib Lw cap : Nat} {y : Int} {s : Nat} (E : EnvD5 a0 w gb ob ib Lw cap y s) {R : Exit → Act → World → Prop} {a : Act} {x : World} (q : Q w x) (oth : ∀ j, j ∉ sD5 → a.tmps[j]? = a0.tmps[j]?) (dep : ∀ ed ∈ oD5_1.after, Region.binds .any ed = true → ∀ t', sD5[ed.on]? = some t' → ∃ v, a.tmps[t']? = some v ∧ specAt (spD5 gb ob ib Lw cap y s) ed.on v x) : Yld Try.prog R oD5_1 a x 42 (fun v x' => specAt (spD5 gb ob ib Lw cap y s) 1 v x' ∧ (1 ∈ ([] : List Nat) → v = ptrV x.heap.size)) := by
  exact yld_move ((oth 9 (by decide)).trans E.h9) ⟨rfl, fun h => absurd h (by decide)⟩
theorem yD5_2 {a0 : Act} {w : World} {gb ob ib Lw cap : Nat} {y : Int} {s : Nat} (E : EnvD5 a0 w gb ob ib Lw cap y s) {R : Exit → Act → World → Prop} {a : Act} {x : World} (q : Q w x) (oth : ∀ j, j ∉ sD5 → a.tmps[j]? = a0.tmps[j]?) (dep : ∀ ed ∈ oD5_2.after, Region.binds .any ed = true → ∀ t', sD5[ed.on]? = some t' → ∃ v, a.tmps[t']? = some v ∧ specAt (spD5 gb ob ib Lw cap y s) ed.on v x) : Yld Try.prog R oD5_2 a x 43 (fun v x' => specAt (spD5 gb ob ib Lw cap y s) 2 v x' ∧ (2 ∈ ([] : List Nat) → v = ptrV x.heap.size)) := by
  obtain ⟨v0, t0, f0⟩ := dep ⟨0, .data⟩ (by simp [oD5_2]) rfl 41 rfl
  have f0 : v0 = (.slice (some ⟨gb, ob, none⟩) Lw cap) := f0
  subst f0
  obtain ⟨v1, t1, f1⟩ := dep ⟨1, .data⟩ (by simp [oD5_2]) rfl 42 rfl
  have f1 : v1 = (.int .i64 (ib : Nat)) := f1
  subst f1
  exact yld_run (x' := x) rfl (run_ixi (tmp_eval t0) (tmp_eval t1) E.hi) (Q.refl x) ⟨rfl, fun h => absurd h (by decide)⟩
theorem yD5_3 {a0 : Act} {w : World} {gb ob ib Lw cap : Nat} {y : Int} {s : Nat} (E : EnvD5 a0 w gb ob ib Lw cap y s) {R : Exit → Act → World → Prop} {a : Act} {x : World} (q : Q w x) (oth : ∀ j, j ∉ sD5 → a.tmps[j]? = a0.tmps[j]?) (dep : ∀ ed ∈ oD5_3.after, Region.binds .any ed = true → ∀ t', sD5[ed.on]? = some t' → ∃ v, a.tmps[t']? = some v ∧ specAt (spD5 gb ob ib Lw cap y s) ed.on v x) : Yld Try.prog R oD5_3 a x 44 (fun v x' => specAt (spD5 gb ob ib Lw cap y s) 3 v x' ∧ (3 ∈ ([] : List Nat) → v = ptrV x.heap.size)) := by
  obtain ⟨v2, t2, f2⟩ := dep ⟨2, .data⟩ (by simp [oD5_3]) rfl 43 rfl
  have f2 : v2 = (.pointer (some ⟨gb, ob + ib, none⟩)) := f2
  subst f2
  exact yld_run (x' := x) rfl (run_ldi (tmp_eval t2) (q.cell E.c)) (Q.refl x) ⟨rfl, fun h => absurd h (by decide)⟩
theorem yD5_4 {a0 : Act} {w : World} {gb ob ib Lw cap : Nat} {y : Int} {s : Nat} (E : EnvD5 a0 w gb ob ib Lw cap y s) {R : Exit → Act → World → Prop} {a : Act} {x : World} (q : Q w x) (oth : ∀ j, j ∉ sD5 → a.tmps[j]? = a0.tmps[j]?) (dep : ∀ ed ∈ oD5_4.after, Region.binds .any ed = true → ∀ t', sD5[ed.on]? = some t' → ∃ v, a.tmps[t']? = some v ∧ specAt (spD5 gb ob ib Lw cap y s) ed.on v x) : Yld Try.prog R oD5_4 a x 45 (fun v x' => specAt (spD5 gb ob ib Lw cap y s) 4 v x' ∧ (4 ∈ ([] : List Nat) → v = ptrV x.heap.size)) := by
  obtain ⟨v3, t3, f3⟩ := dep ⟨3, .data⟩ (by simp [oD5_4]) rfl 44 rfl
  have f3 : v3 = (.int .i64 y) := f3
  subst f3
  exact yld_run (x' := x) rfl (run_cvf (tmp_eval t3)) (Q.refl x) ⟨rfl, fun h => absurd h (by decide)⟩
theorem yD5_5 {a0 : Act} {w : World} {gb ob ib Lw cap : Nat} {y : Int} {s : Nat} (E : EnvD5 a0 w gb ob ib Lw cap y s) {R : Exit → Act → World → Prop} {a : Act} {x : World} (q : Q w x) (oth : ∀ j, j ∉ sD5 → a.tmps[j]? = a0.tmps[j]?) (dep : ∀ ed ∈ oD5_5.after, Region.binds .any ed = true → ∀ t', sD5[ed.on]? = some t' → ∃ v, a.tmps[t']? = some v ∧ specAt (spD5 gb ob ib Lw cap y s) ed.on v x) : Yld Try.prog R oD5_5 a x 46 (fun v x' => specAt (spD5 gb ob ib Lw cap y s) 5 v x' ∧ (5 ∈ ([] : List Nat) → v = ptrV x.heap.size)) := by
  exact yld_move ((oth 10 (by decide)).trans E.h10) ⟨rfl, fun h => absurd h (by decide)⟩
theorem yD5_7 {a0 : Act} {w : World} {gb ob ib Lw cap : Nat} {y : Int} {s : Nat} (E : EnvD5 a0 w gb ob ib Lw cap y s) {R : Exit → Act → World → Prop} {a : Act} {x : World} (q : Q w x) (oth : ∀ j, j ∉ sD5 → a.tmps[j]? = a0.tmps[j]?) (dep : ∀ ed ∈ oD5_7.after, Region.binds .any ed = true → ∀ t', sD5[ed.on]? = some t' → ∃ v, a.tmps[t']? = some v ∧ specAt (spD5 gb ob ib Lw cap y s) ed.on v x) : Yld Try.prog R oD5_7 a x 48 (fun v x' => specAt (spD5 gb ob ib Lw cap y s) 7 v x' ∧ (7 ∈ ([] : List Nat) → v = ptrV x.heap.size)) := by
  obtain ⟨v4, t4, f4⟩ := dep ⟨4, .data⟩ (by simp [oD5_7]) rfl 45 rfl
  have f4 : v4 = (.float .f64 (floatOfInt .f64 y)) := f4
  subst f4
  obtain ⟨v6, t6, f6⟩ := dep ⟨6, .data⟩ (by simp [oD5_7]) rfl 47 rfl
  have f6 : v6 = (.float .f64 (wideW s)) := f6
  subst f6
  obtain ⟨W, x', hr, q', hW, hc⟩ := run_mulf (d := some 48) (ty := 61) (ps := "sums.go:119") (af := oD5_7.after) (g := none) (tmp_eval t4) (tmp_eval t6)
  exact yld_run (x' := x') rfl hr q' ⟨⟨W, rfl, hW, hc⟩, fun h => absurd h (by decide)⟩
set_option maxRecDepth 100000 in
theorem normD5 {t0 t1 t2 t3 t4 t5 t6 t7 t8 t9 t10 t11 t12 t13 t14 t15 t16 t17 t18 t19 t20 t21 t22 t23 t24 t25 t26 t27 t28 t29 t30 t31 t32 t33 t34 t35 t36 t37 t38 t39 t40 t41 t42 t43 t44 t45 t46 t47 t48 t49 t50 t51 t52 t53 v41 v42 v43 v44 v45 v46 v47 v48 v11 : Value} {d : List Deferred} : putAll ⟨#[t0, t1, t2, t3, t4, t5, t6, t7, t8, t9, t10, t11, t12, t13, t14, t15, t16, t17, t18, t19, t20, t21, t22, t23, t24, t25, t26, t27, t28, t29, t30, t31, t32, t33, t34, t35, t36, t37, t38, t39, t40, t41, t42, t43, t44, t45, t46, t47, t48, t49, t50, t51, t52, t53], d⟩ [(41, v41), (42, v42), (43, v43), (44, v44), (45, v45), (46, v46), (47, v47), (48, v48), (11, v11)] = ⟨#[t0, t1, t2, t3, t4, t5, t6, t7, t8, t9, t10, v11, t12, t13, t14, t15, t16, t17, t18, t19, t20, t21, t22, t23, t24, t25, t26, t27, t28, t29, t30, t31, t32, t33, t34, t35, t36, t37, t38, t39, t40, v41, v42, v43, v44, v45, v46, v47, v48, t49, t50, t51, t52, t53], d⟩ := by
  kernel_rfl
end Go.Proofs.Ytedaacddnahjkaa
/- Sums of products with weights: the program's. -/
namespace Go.Proofs.Ytedaacddnahjkaa
open Go.RowKit
set_option linter.unusedVariables false
set_option linter.unusedSimpArgs false

theorem sum64_nan2 {d' : Ieee.Datum} (h : d'.isNaN = true) (d : Ieee.Datum) : told64 (d.sum d') = 9221120237041090560 := by
  obtain ⟨s, t, rfl⟩ := isNaN_cases h
  cases d <;> rfl
theorem can_sum_r (W X : Nat) : add64V W (canW X) = add64V W X := by
  unfold canW
  cases h : nan64 X
  · rfl
  · rw [if_pos rfl]
    unfold add64V
    rw [sum64_nan2 (read64_nan h), sum64_nan2 (read64_nan made64)]
/-- The products of weights and samples. -/
def prods (W : List Int) (S : List Nat) : List Nat := (List.range S.length).map fun i => prodV (W.getD i 0) (S.getD i 0)
theorem prods_length (W : List Int) (S : List Nat) : (prods W S).length = S.length := by unfold prods; simp
theorem prods_at (W : List Int) (S : List Nat) {i : Nat} (h : i < S.length) : (prods W S).getD i 0 = prodV (W.getD i 0) (S.getD i 0) := by
  unfold prods
  rw [List.getD_eq_getElem?_getD, List.getElem?_map, List.getElem?_range h]
  rfl
end Go.Proofs.Ytedaacddnahjkaa
/- One sample with whole weights, summed in binary64 (as in SWhB, over the program's side alone). -/
namespace Go.Proofs.Ytedaacddnahjkaa
open Go.RowKit
set_option linter.unusedVariables false
set_option linter.unusedSimpArgs false

theorem read_weightq {y : Int} (h0 : y ≤ 268435456) (h1 : -268435456 ≤ y) : ∃ j : Nat, ∃ p : Int, Ieee.double.read (floatOfInt .f64 y) = .number (decide (y < 0)) (y.natAbs * 2 ^ j) p ∧ (y ≠ 0 → p = -(j : Int)) := by
  by_cases hy : y = 0
  · subst hy
    exact ⟨0, -1074, by decide +kernel, fun h => absurd rfl h⟩
  · have hne : y.natAbs ≠ 0 := by omega
    have a0 := Nat.log2_self_le hne
    have a1 : y.natAbs < 2 ^ (y.natAbs.log2 + 1) := Nat.lt_log2_self
    have aL : y.natAbs.log2 ≤ 52 := by
      have := (Nat.log2_lt hne).2 (Nat.lt_of_le_of_lt (show y.natAbs ≤ 268435456 by omega) (show 268435456 < 2 ^ 53 by decide))
      omega
    have e1 : floatOfInt .f64 y = Ieee.double.nearest (decide (y < 0)) y.natAbs 0 := rfl
    generalize y.natAbs.log2 = M at *
    have e2 := nearest_exact (neg := decide (y < 0)) (k := 0) (p := 0) a0 a1 aL (by omega) (by omega)
    rw [Nat.pow_zero, Nat.mul_one] at e2
    have b1 : y.natAbs * 2 ^ (52 - M) < 9007199254740992 := by
      have := Nat.mul_lt_mul_of_pos_right a1 (Nat.two_pow_pos (52 - M))
      rw [← Nat.pow_add, show M + 1 + (52 - M) = 53 by omega] at this
      exact this
    have b0 : 4503599627370496 ≤ y.natAbs * 2 ^ (52 - M) := by
      have := Nat.mul_le_mul_right (2 ^ (52 - M)) a0
      rw [← Nat.pow_add, show M + (52 - M) = 52 by omega] at this
      exact this
    refine ⟨52 - M, 0 + ((0 : Nat) : Int) + M - 52, ?_, fun _ => by omega⟩
    rw [e1, e2, read_wd b0 b1 (by omega) (by omega)]
theorem wideW_casesq (a : Nat) : (nanN a = true ∧ (Ieee.double.read (wideW a)).isNaN = true) ∨ (rung32 a = 2139095040 ∧ Ieee.double.read (wideW a) = .infinity (sgn32 a)) ∨
    (rung32 a < 2139095040 ∧ wideW a = wideN a ∧ ∃ M P, Ieee.double.read (wideW a) = .number (sgn32 a) M P ∧ -1074 ≤ P ∧ Ieee.signed (sgn32 a) M (P + 1074).toNat = sampleZ a) := by
  cases h : nanN a
  · have e : wideW a = wideN a := by unfold wideW; rw [h]; rfl
    have h' := h
    rw [nanN_rung] at h'
    have h' := of_decide_eq_false h'
    rcases Nat.lt_or_ge (rung32 a) 2139095040 with g | g
    · obtain ⟨r, s, v⟩ := wide_fin g
      refine Or.inr (Or.inr ⟨g, e, _, _, by rw [e, read_fin64 r, s], by omega, ?_⟩)
      rw [← s, signed_read, v]
    · exact Or.inr (Or.inl ⟨by omega, by rw [e]; exact wide_read_inf (by omega)⟩)
  · have e : wideW a = 9221120237041090560 := by unfold wideW; rw [h]; rfl
    exact Or.inl ⟨rfl, by rw [e]; decide⟩
theorem signed_eqq (s : Bool) (m k : Nat) : Ieee.signed s m k = if s = true then -((m * 2 ^ k : Nat) : Int) else ((m * 2 ^ k : Nat) : Int) := by
  unfold Ieee.signed; rw [Nat.shiftLeft_eq]

theorem quo_power64q (s : Bool) {m : Nat} (hm : m < 9007199254740992) (p q : Int) : ((Ieee.Datum.number s m p).quotient 54 (.number false 4503599627370496 q)).map Ieee.double.write = some (Ieee.double.word s (rungOf Ieee.double m (p - q - 52))) := by
  have hl2 : (4503599627370496 : Nat).log2 = 52 := by decide
  have hl : m.log2 ≤ 52 := by
    by_cases h0 : m = 0
    · subst h0; decide
    · have := (Nat.log2_lt h0).2 (show m < 2 ^ 53 from hm); omega
  obtain ⟨B, hB⟩ : ∃ B, B = 54 + (4503599627370496 : Nat).log2 - m.log2 := ⟨_, rfl⟩
  have hB1 : 54 ≤ B := by omega
  have em : (Ieee.Datum.number s m p).quotient 54 (.number false 4503599627370496 q) = some (.number (s ^^ false) (2 * ((m <<< B) / 4503599627370496) + ((m <<< B) % 4503599627370496 != 0).toNat) (p - q - (B : Int) - 1)) := by
    rw [hB]; simp [Ieee.Datum.quotient]
  have e1 : m <<< B = m * 2 ^ (B - 52) * 4503599627370496 := by
    rw [Nat.shiftLeft_eq, Nat.mul_assoc, show (4503599627370496 : Nat) = 2 ^ 52 from rfl, ← Nat.pow_add, show B - 52 + 52 = B by omega]
  rw [em, e1, Nat.mul_div_cancel _ (by decide), Nat.mul_mod_left, xor_f]
  show some (Ieee.double.nearest s (2 * (m * 2 ^ (B - 52)) + 0) (p - q - (B : Int) - 1)) = _
  rw [nearest_rung]
  refine congrArg (fun r => some (Ieee.double.word s r)) ?_
  have e2 : 2 * (m * 2 ^ (B - 52)) + 0 = m * 2 ^ (B - 51) := by
    rw [show B - 51 = (B - 52) + 1 by omega, Nat.pow_succ, Nat.add_zero, Nat.mul_comm 2, Nat.mul_assoc]
  rw [e2, rung_scale]
  congr 1; omega
theorem read_65536q : Ieee.double.read 4679240012837945344 = .number false 4503599627370496 (-36) := by decide +kernel
def sizeLq (L : List Int) : Nat := (L.map Int.natAbs).sum
theorem sizeL_consq (v : Int) (t : List Int) : sizeLq (v :: t) = v.natAbs + sizeLq t := by simp [sizeLq]
theorem X_formq {x : Nat} (h : rung32 x < 2139095040) : ∃ m g, (sampleZ x).natAbs = m * 2 ^ g ∧ m < 2 ^ 24 ∧ g ≤ 1178 :=
  ⟨mag32 (rung32 x), plc32 (rung32 x) + 925, signed_abs _ _ _, mag_lt32 _, by have := plc_le32 h; omega⟩
/-- A word of binary64 that is worth k times a sample's X. -/
def IsDq (X k : Int) (W : Nat) : Prop := W < 18446744073709551616 ∧ rung64 W = rungOf Ieee.double (k * X).natAbs (-1074) ∧ (k * X ≠ 0 → sgn64 W = decide (k * X < 0))
theorem word_lt64q (s : Bool) (r : Nat) (h : r ≤ 9218868437227405312) : Ieee.double.word s r < 18446744073709551616 := by
  unfold Ieee.Format.word
  rw [show Ieee.double.signWeight = 9223372036854775808 by decide]
  cases s <;> simp <;> omega
theorem rung_le64'q (M : Nat) (p : Int) : rungOf Ieee.double M p ≤ 9218868437227405312 := rungOf_le _ _ _
theorem IsDq.mk {X k : Int} {s : Bool} (h : k * X ≠ 0 → s = decide (k * X < 0)) : IsDq X k (Ieee.double.word s (rungOf Ieee.double (k * X).natAbs (-1074))) := by
  have hr := rung_le64'q (k * X).natAbs (-1074)
  obtain ⟨h1, h2⟩ := sgn_word64 s (r := rungOf Ieee.double (k * X).natAbs (-1074)) (by omega)
  exact ⟨word_lt64q _ _ hr, h2, fun g => by rw [h1]; exact h g⟩
theorem kX_valq {X k : Int} {m g : Nat} (hX : X.natAbs = m * 2 ^ g) (hm : m < 2 ^ 24) (hg : g ≤ 1178) (hk : k.natAbs ≤ 2 ^ 28) : val64 (rungOf Ieee.double (k * X).natAbs (-1074)) = (k * X).natAbs ∧ rungOf Ieee.double (k * X).natAbs (-1074) < 9218868437227405312 := by
  have e : (k * X).natAbs = k.natAbs * m * 2 ^ g := by rw [Int.natAbs_mul, hX, Nat.mul_assoc]
  have hkm : k.natAbs * m < 2 ^ 53 := Nat.lt_of_le_of_lt (Nat.mul_le_mul hk (Nat.le_of_lt hm)) (by decide)
  have hb : (k * X).natAbs < 2 ^ (53 + g) := by rw [e, Nat.pow_add]; exact Nat.mul_lt_mul_of_pos_right hkm (Nat.two_pow_pos g)
  have hlog : (k * X).natAbs.log2 ≤ 2000 := by
    by_cases h0 : (k * X).natAbs = 0
    · rw [h0]; decide
    · have := (Nat.log2_lt h0).2 hb; omega
  have hv := vN_exact (M := (k * X).natAbs) (g := g) hlog ⟨k.natAbs * m, by rw [e, Nat.mul_comm]⟩ hb
  refine ⟨hv, ?_⟩
  refine val_inj_lt64.1 ?_
  rw [hv]
  refine Nat.lt_of_lt_of_le hb ?_
  show 2 ^ (53 + g) ≤ mag64 9218868437227405312 * 2 ^ plc64 9218868437227405312
  obtain ⟨P, hP, hP2⟩ : ∃ P, plc64 9218868437227405312 = P ∧ 2046 ≤ P := ⟨_, rfl, by decide⟩
  rw [show mag64 9218868437227405312 = 2 ^ 52 by decide, hP, ← Nat.pow_add]
  exact Nat.pow_le_pow_right (by decide) (by omega)
theorem IsDq.sval {X k : Int} {W m g : Nat} (h : IsDq X k W) (hX : X.natAbs = m * 2 ^ g) (hm : m < 2 ^ 24) (hg : g ≤ 1178) (hk : k.natAbs ≤ 2 ^ 28) : rung64 W < 9218868437227405312 ∧ sval64 W = k * X := by
  obtain ⟨hv, hr⟩ := kX_valq hX hm hg hk
  obtain ⟨_, h1, h2⟩ := h
  rw [← h1] at hv hr
  refine ⟨hr, ?_⟩
  unfold sval64
  rw [hv]
  by_cases h0 : k * X = 0
  · rw [h0]; simp
  · rw [h2 h0]
    by_cases hn : k * X < 0
    · rw [if_pos (decide_eq_true hn)]; omega
    · rw [if_neg (by simpa using hn)]; omega
theorem sval_signed64q (a : Nat) : sval64 a = Ieee.signed (sgn64 a) (mag64 (rung64 a)) (plc64 (rung64 a)) := by
  unfold sval64 val64; rw [signed_eqq]
theorem told64_numq (s : Bool) (N : Nat) (b : Int) : told64 (some (.number s N b)) = Ieee.double.word s (rungOf Ieee.double N b) := nearest_rung _ _ _ _
theorem IsDq.add {X a b : Int} {A B m g : Nat} (hA : IsDq X a A) (hB : IsDq X b B) (hX : X.natAbs = m * 2 ^ g) (hm : m < 2 ^ 24) (hg : g ≤ 1178) (ha : a.natAbs ≤ 2 ^ 28) (hb : b.natAbs ≤ 2 ^ 28) : IsDq X (a + b) (add64V A B) := by
  obtain ⟨a1, a2⟩ := hA.sval hX hm hg ha
  obtain ⟨b1, b2⟩ := hB.sval hX hm hg hb
  unfold add64V
  rw [read_fin64 a1, read_fin64 b1]
  obtain ⟨N, c, e1, e2⟩ := sum_units (sgn64 A) (sgn64 B) (mag64 (rung64 A)) (mag64 (rung64 B)) (-1074 + (plc64 (rung64 A) : Int)) (-1074 + (plc64 (rung64 B) : Int)) (by omega) (by omega)
  rw [show (-1074 + (plc64 (rung64 A) : Int) + 1074).toNat = plc64 (rung64 A) by omega, show (-1074 + (plc64 (rung64 B) : Int) + 1074).toNat = plc64 (rung64 B) by omega, ← sval_signed64q, ← sval_signed64q, a2, b2, ← Int.add_mul] at e1 e2
  rw [e1, told64_numq, e2]
  exact IsDq.mk fun h => sg_of h
theorem IsDq.nought (X : Int) : IsDq X 0 9223372036854775808 := by
  refine ⟨by decide, ?_, fun h => absurd (Int.zero_mul X) h⟩
  rw [Int.zero_mul]
  show _ = rungOf Ieee.double 0 (-1074)
  rw [rungOf_zero]
  decide
theorem IsDq.prod {x : Nat} (h : rung32 x < 2139095040) {y : Int} (h0 : y ≤ 268435456) (h1 : -268435456 ≤ y) : IsDq (sampleZ x) y (prodV y x) := by
  obtain ⟨j, p, hr, hp⟩ := read_weightq h0 h1
  rcases wideW_casesq x with ⟨hn, _⟩ | ⟨hi, _⟩ | ⟨_, _, M, P, hw, hP, hs⟩
  · rw [nanN_rung] at hn; have := of_decide_eq_true hn; omega
  · omega
  · unfold prodV
    rw [hr, hw]
    have he : (Ieee.Datum.number (decide (y < 0)) (y.natAbs * 2 ^ j) p).product (.number (sgn32 x) M P) = some (.number (decide (y < 0) ^^ sgn32 x) (y.natAbs * 2 ^ j * M) (p + P)) := rfl
    rw [he, told64_numq]
    have hX : (sampleZ x).natAbs = M * 2 ^ (P + 1074).toNat := by rw [← hs]; exact signed_abs _ _ _
    have hrung : rungOf Ieee.double (y.natAbs * 2 ^ j * M) (p + P) = rungOf Ieee.double (y * sampleZ x).natAbs (-1074) := by
      rw [Int.natAbs_mul, hX]
      by_cases hy : y = 0
      · subst hy; simp [rungOf_zero]
      · rw [hp hy, show y.natAbs * 2 ^ j * M = y.natAbs * M * 2 ^ j by rw [Nat.mul_assoc, Nat.mul_comm (2 ^ j), ← Nat.mul_assoc], rung_scale, ← Nat.mul_assoc, rung_scale]
        congr 1
        omega
    rw [hrung]
    refine IsDq.mk fun hne => ?_
    have hs0 : sampleZ x ≠ 0 := fun e => hne (by rw [e, Int.mul_zero])
    have hy0 : y ≠ 0 := fun e => hne (by rw [e, Int.zero_mul])
    have hsx : sgn32 x = decide (sampleZ x < 0) := signed_sign (s := sgn32 x) (m := mag32 (rung32 x)) (k := plc32 (rung32 x) + 925) hs0
    rw [hsx]
    generalize sampleZ x = X at *
    rcases Int.lt_trichotomy y 0 with g | g | g
    · rcases Int.lt_trichotomy X 0 with k | k | k
      · have := Int.mul_pos_of_neg_of_neg g k
        rw [decide_eq_true g, decide_eq_true k, decide_eq_false (by omega)]; rfl
      · exact absurd k hs0
      · have := Int.mul_neg_of_neg_of_pos g k
        rw [decide_eq_true g, decide_eq_false (by omega), decide_eq_true this]; rfl
    · exact absurd g hy0
    · rcases Int.lt_trichotomy X 0 with k | k | k
      · have := Int.mul_neg_of_pos_of_neg g k
        rw [decide_eq_false (by omega), decide_eq_true k, decide_eq_true this]; rfl
      · exact absurd k hs0
      · have := Int.mul_pos g k
        rw [decide_eq_false (by omega), decide_eq_false (by omega), decide_eq_false (by omega)]; rfl
theorem IsDq.same {X k : Int} {A B : Nat} (hA : IsDq X k A) (hB : IsDq X k B) : A = B ∨ (A % 9223372036854775808 = 0 ∧ B % 9223372036854775808 = 0) := by
  obtain ⟨a0, a1, a2⟩ := hA
  obtain ⟨b0, b1, b2⟩ := hB
  have hr : A % 9223372036854775808 = B % 9223372036854775808 := a1.trans b1.symm
  by_cases h : k * X = 0
  · right
    rw [h, show (0 : Int).natAbs = 0 from rfl, rungOf_zero] at a1 b1
    exact ⟨a1, b1⟩
  · left
    have hs := (a2 h).trans (b2 h).symm
    unfold sgn64 at hs
    have hA2 : A / 9223372036854775808 % 2 = A / 9223372036854775808 := by omega
    have hB2 : B / 9223372036854775808 % 2 = B / 9223372036854775808 := by omega
    rw [hA2, hB2] at hs
    have : A / 9223372036854775808 = B / 9223372036854775808 := by
      have hA3 : A / 9223372036854775808 = 0 ∨ A / 9223372036854775808 = 1 := by omega
      have hB3 : B / 9223372036854775808 = 0 ∨ B / 9223372036854775808 = 1 := by omega
      rcases hA3 with e | e <;> rcases hB3 with f | f <;> rw [e, f] at hs ⊢ <;> first | rfl | (exact absurd hs (by decide))
    omega
theorem fold_Dq {X : Int} {m g : Nat} (hX : X.natAbs = m * 2 ^ g) (hm : m < 2 ^ 24) (hg : g ≤ 1178) : ∀ (l : List (Int × Nat)) (z : Int) (A : Nat), IsDq X z A → (∀ p ∈ l, IsDq X p.1 p.2) → z.natAbs + sizeLq (l.map Prod.fst) ≤ 2 ^ 28 → IsDq X (z + (l.map Prod.fst).sum) ((l.map Prod.snd).foldl add64V A)
  | [], z, A, hA, _, _ => by simpa using hA
  | p :: t, z, A, hA, hl, hs => by
    rw [List.map_cons, sizeL_consq] at hs
    rw [List.map_cons, List.map_cons, List.foldl_cons, List.sum_cons, ← Int.add_assoc]
    exact fold_Dq hX hm hg t (z + p.1) _ (hA.add (hl p (List.mem_cons_self ..)) hX hm hg (by omega) (by omega)) (fun q hq => hl q (List.mem_cons_of_mem _ hq)) (by omega)
theorem dot_Dq {x : Nat} (hx : rung32 x < 2139095040) {W : List Int} (hs : sizeLq W ≤ 2 ^ 28) (hb : ∀ y ∈ W, y.natAbs ≤ 268435456) : IsDq (sampleZ x) W.sum (dotF (prods W (List.replicate W.length x))) := by
  obtain ⟨m, g, h1, h2, h3⟩ := X_formq hx
  have e : prods W (List.replicate W.length x) = W.map fun y => prodV y x := by
    refine List.ext_getElem? fun i => ?_
    rcases Nat.lt_or_ge i W.length with h | h
    · have hp := prods_at W (List.replicate W.length x) (i := i) (by simp; exact h)
      have hl : i < (prods W (List.replicate W.length x)).length := by rw [prods_length]; simp; exact h
      rw [List.getD_eq_getElem?_getD, List.getElem?_eq_getElem hl] at hp
      rw [List.getElem?_eq_getElem hl, List.getElem?_map, List.getElem?_eq_getElem h]
      simp only [Option.getD_some, Option.map_some] at hp ⊢
      rw [hp, List.getD_eq_getElem?_getD, List.getElem?_eq_getElem h, List.getD_eq_getElem?_getD, List.getElem?_replicate, if_pos h]
      rfl
    · rw [List.getElem?_eq_none (by rw [prods_length]; simp; exact h), List.getElem?_eq_none (by simp; exact h)]
  rw [e]
  unfold dotF
  cases W with
  | nil =>
    rw [if_pos (show List.map (fun y => prodV y x) [] = [] from rfl)]
    refine ⟨by decide, ?_, fun h => absurd (Int.zero_mul _) h⟩
    show rung64 0 = rungOf Ieee.double (0 * sampleZ x).natAbs (-1074)
    rw [Int.zero_mul, show (0 : Int).natAbs = 0 from rfl, rungOf_zero]
    decide
  | cons y t =>
    rw [if_neg (by simp)]
    have := fold_Dq h1 h2 h3 ((y :: t).map fun y => (y, prodV y x)) 0 9223372036854775808 (IsDq.nought _) (fun p hp => by
      obtain ⟨z, hz, rfl⟩ := List.mem_map.1 hp
      have := hb z hz
      exact IsDq.prod hx (by omega) (by omega)) (by rw [List.map_map]; show 0 + sizeLq ((y :: t).map fun z => z) ≤ _; rw [List.map_id', Nat.zero_add]; exact hs)
    rw [List.map_map, List.map_map, Int.zero_add] at this
    have e1 : (y :: t).map (Prod.fst ∘ fun y => (y, prodV y x)) = y :: t := by
      show (y :: t).map (fun z => z) = _
      exact List.map_id' _
    rw [e1] at this
    exact this
end Go.Proofs.Ytedaacddnahjkaa
/- blur's balance: weights as numbers of binary64, and what they make of a window. -/
namespace Go.Proofs.Ytedaacddnahjkaa
open Go.RowKit
set_option linter.unusedVariables false
set_option linter.unusedSimpArgs false

theorem store_f64 (a : Addr) (x : Nat) (m : Mode) (w : World) : (store a (.float .f64 x) m).run Try.prog w = stored Try.prog w a (.float .f64 x) m := run_store Try.prog w a _ m rfl
def smW (W : Nat → Int) : Nat → Int
  | 0 => 0
  | k + 1 => smW W k + W k
theorem smW_bd {W : Nat → Int} {B : Int} (hB : 0 ≤ B) : ∀ n : Nat, (∀ i, i < n → 0 ≤ W i ∧ W i ≤ B) → 0 ≤ smW W n ∧ smW W n ≤ (n : Int) * B
  | 0, _ => by simp [smW]
  | n + 1, h => by
    have h1 := smW_bd hB n (fun i hi => h i (by omega))
    have h2 := h n (by omega)
    have e : ((n + 1 : Nat) : Int) * B = (n : Int) * B + B := by rw [show ((n + 1 : Nat) : Int) = (n : Int) + 1 by omega, Int.add_mul, Int.one_mul]
    unfold smW
    omega
structure BalI (w x : World) (B N : Nat) (W : Nat → Int) (k : Nat) : Prop where
  v : VR x (w.heap.size + 1) N (sofar (fun i => .float .f64 (floatOfInt .f64 (W i))) (.float .f64 0) k)
  q : Q w x
  r0 : x.cell? ⟨w.heap.size, 0, none⟩ = some (.slice none 0 0)
  r1 : x.cell? ⟨w.heap.size, 1, none⟩ = some (.float .f64 0)
  rf : ∀ j, x.frozen? ⟨w.heap.size, j, none⟩ = false
  b0 : x.cell? ⟨B, 0, none⟩ = some (.slice (some ⟨w.heap.size + 1, 0, none⟩) N N)
  b1 : x.cell? ⟨B, 1, none⟩ = some (.float .f64 0)
  bf : ∀ j, x.frozen? ⟨B, j, none⟩ = false
  hB : B = w.heap.size + 2
theorem BalI.step {w x : World} {B N : Nat} {W : Nat → Int} {k : Nat} (h : BalI w x B N W k) (hk : k < N) : BalI w (x.setCell ⟨w.heap.size + 1, k, none⟩ (.float .f64 (floatOfInt .f64 (W k)))) B N W (k + 1) := by
  have hB := h.hB
  have ot : ∀ {b j : Nat} {u : Value}, b ≠ w.heap.size + 1 → x.cell? ⟨b, j, none⟩ = some u → (x.setCell ⟨w.heap.size + 1, k, none⟩ (.float .f64 (floatOfInt .f64 (W k)))).cell? ⟨b, j, none⟩ = some u := fun hb hu => (World.cell?_setCell_other _ _ _ _ (fun e => hb (by injection e with e; exact e.symm))).trans hu
  exact ⟨h.v.fill hk rfl, h.q.set (by show w.heap.size ≤ w.heap.size + 1; omega) _, ot (by omega) h.r0, ot (by omega) h.r1, fun j => by rw [World.frozen?_setCell]; exact h.rf j, ot (by omega) h.b0, ot (by omega) h.b1, fun j => by rw [World.frozen?_setCell]; exact h.bf j, hB⟩
set_option maxHeartbeats 2000000 in
set_option maxRecDepth 100000 in
theorem balance_any (N : Nat) (W : Nat → Int) (g o c : Nat) (w : World) (hc : ∀ i, i < N → w.cell? ⟨g, o + i, none⟩ = some (.int .i64 (W i))) (h1 : 1 ≤ N) (h2 : N ≤ 15) (hW : ∀ i, i < N → 0 ≤ W i ∧ W i ≤ 3432) :
    Calls Try.prog 39 #[.slice (some ⟨g, o, none⟩) N c] w fun e w' => ∃ gb, e = .returned (.agg #[.slice (some ⟨gb, 0, none⟩) N N, .float .f64 (floatOfInt .f64 (smW W N))]) ∧ VR w' gb N (fun i => .float .f64 (floatOfInt .f64 (W i))) ∧ w.heap.size ≤ gb ∧ Q w w' := by
  obtain ⟨M, hM, hV⟩ := make_vf N (by omega)
  have HC : Hid (∀ i, i < N → ∀ x : World, Q w x → x.cell? ⟨g, o + i, none⟩ = some (.int .i64 (W i))) := fun i hi x q => q.cell (hc i hi)
  have HW : Hid (∀ i, i < N → 0 ≤ W i ∧ W i ≤ 3432) := hW
  have hMw := hM (w.alloc (.cells #[.slice none 0 0, .float .f64 0] 84))
  have hVw := hV (w.alloc (.cells #[.slice none 0 0, .float .f64 0] 84))
  have hsz : (w.alloc (.cells #[.slice none 0 0, .float .f64 0] 84)).heap.size = w.heap.size + 1 := by simp
  rw [hsz] at hMw hVw
  have HQ0 : Hid (Q w ((w.alloc (.cells #[.slice none 0 0, .float .f64 0] 84)).alloc (.cells M 61))) := ((Q.refl w).cells _ _).cells _ _
  have r0 : ((w.alloc (.cells #[.slice none 0 0, .float .f64 0] 84)).alloc (.cells M 61)).cell? ⟨w.heap.size, 0, none⟩ = some (.slice none 0 0) := by simp [go_sem]
  have r1 : ((w.alloc (.cells #[.slice none 0 0, .float .f64 0] 84)).alloc (.cells M 61)).cell? ⟨w.heap.size, 1, none⟩ = some (.float .f64 0) := by simp [go_sem]
  have rf : ∀ j, ((w.alloc (.cells #[.slice none 0 0, .float .f64 0] 84)).alloc (.cells M 61)).frozen? ⟨w.heap.size, j, none⟩ = false := fun j => by simp [go_sem]
  have hz2 : ((w.alloc (.cells #[.slice none 0 0, .float .f64 0] 84)).alloc (.cells M 61)).heap.size = w.heap.size + 2 := by simp
  generalize ((w.alloc (.cells #[.slice none 0 0, .float .f64 0] 84)).alloc (.cells M 61)) = w2 at hMw hVw HQ0 r0 r1 rf hz2
  obtain ⟨w3, hw3⟩ : ∃ w3, w2.alloc (.cells #[.slice (some ⟨w.heap.size + 1, 0, none⟩) N N, .float .f64 0] 84) = w3 := ⟨_, rfl⟩
  have q23 : Q w2 w3 := by rw [← hw3]; exact (Q.refl w2).cells _ _
  have b0 : w3.cell? ⟨w2.heap.size, 0, none⟩ = some (.slice (some ⟨w.heap.size + 1, 0, none⟩) N N) := by rw [← hw3]; simp [go_sem]
  have b1 : w3.cell? ⟨w2.heap.size, 1, none⟩ = some (.float .f64 0) := by rw [← hw3]; simp [go_sem]
  have bf : ∀ j, w3.frozen? ⟨w2.heap.size, j, none⟩ = false := fun j => by rw [← hw3]; simp [go_sem]
  have HB : Hid (BalI w w3 w2.heap.size N W 0) := ⟨by rw [sofar_zero]; exact hVw.next q23, HQ0.out.trans q23, q23.cell r0, q23.cell r1, fun j => by rw [q23.2]; exact rf j, b0, b1, bf, hz2⟩
  have HW3 : Hid (w2.alloc (.cells #[.slice (some ⟨w.heap.size + 1, 0, none⟩) N N, .float .f64 0] 84) = w3) := hw3
  clear hM hV hVw HQ0 q23 hc hW r0 r1 rf b0 b1 bf hsz hw3 hz2
  have lf := store_f64
  go_enter Try.func39, Try.ntmps39
  go_wp2_with fail
  rw [HW3.out]
  go_loopg [4, 5, 6, 13] N (fun m s4 s5 s6 s13 wr => ∃ i : Nat, s4 = .int .i64 (smW W i) ∧ s13 = .int .i64 (i : Int) ∧ i + m = N ∧ Hid (BalI w wr w2.heap.size N W i))
  case atStart => exact ⟨0, rfl, rfl, by omega, HB⟩
  case round =>
    obtain ⟨i, rfl, rfl, hi, HX⟩ := hrel
    have hbs := smW_bd (W := W) (B := 3432) (by decide) i (fun j hj => HW.out j (by omega))
    by_cases hlt : i < N
    · have hlt' : (i : Int) < (N : Int) := by omega
      have c1 := HC.out i hlt wr HX.out.q
      have hWi := HW.out i hlt
      have k0 := HX.out.b0
      have u1 := HX.out.v.cell i hlt
      obtain ⟨u, hu⟩ : ∃ u, wr.cell? ⟨w.heap.size + 1, i, none⟩ = some u := ⟨_, u1⟩
      have fu := HX.out.v.free i
      have HY : Hid (BalI w (wr.setCell ⟨w.heap.size + 1, i, none⟩ (.float .f64 (floatOfInt .f64 (W i)))) w2.heap.size N W (i + 1)) := HX.out.step hlt
      have hsm : smW W (i + 1) = smW W i + W i := rfl
      have HS : Hid (smW W (i + 1) = smW W i + W i) := hsm
      generalize smW W i = z at *
      generalize W i = y at *
      clear u1 hsm
      go_wp2_with fail
      generalize wr.setCell ⟨w.heap.size + 1, i, none⟩ (.float .f64 (floatOfInt .f64 y)) = w8 at HY ⊢
      go_roundg (N - (i + 1))
      case measure => go_light; omega
      case rel => go_light; exact ⟨i + 1, by rw [HS.out], by go_num, by omega, HY⟩
    · obtain rfl : i = N := by omega
      have hge : ¬ (i : Int) < (i : Int) := by omega
      have hB2 := HX.out.hB
      have k0 := HX.out.b0
      have k1 := HX.out.b1
      have kf0 := HX.out.bf 0
      have kf1 := HX.out.bf 1
      obtain ⟨z, hz⟩ : ∃ z, smW W i = z := ⟨_, rfl⟩
      have HZ : Hid (smW W i = z) := hz
      rw [hz] at hbs ⊢
      clear hz
      have k2 : (wr.setCell ⟨w2.heap.size, 1, none⟩ (.float .f64 (floatOfInt .f64 z))).cell? ⟨w2.heap.size, 0, none⟩ = some (.slice (some ⟨w.heap.size + 1, 0, none⟩) i i) := (World.cell?_setCell_other _ _ _ _ (fun e => by injection e with _ e; cases e)).trans k0
      have k3 : (wr.setCell ⟨w2.heap.size, 1, none⟩ (.float .f64 (floatOfInt .f64 z))).cell? ⟨w2.heap.size, 1, none⟩ = some (.float .f64 (floatOfInt .f64 z)) := World.cell?_setCell_same _ _ _ k1
      have k4 : (wr.setCell ⟨w2.heap.size, 1, none⟩ (.float .f64 (floatOfInt .f64 z))).cell? ⟨w.heap.size, 0, none⟩ = some (.slice none 0 0) := (World.cell?_setCell_other _ _ _ _ (fun e => by injection e with e; omega)).trans HX.out.r0
      have k5 : (wr.setCell ⟨w2.heap.size, 1, none⟩ (.float .f64 (floatOfInt .f64 z))).cell? ⟨w.heap.size, 1, none⟩ = some (.float .f64 0) := (World.cell?_setCell_other _ _ _ _ (fun e => by injection e with e; omega)).trans HX.out.r1
      have k6 : ∀ j, (wr.setCell ⟨w2.heap.size, 1, none⟩ (.float .f64 (floatOfInt .f64 z))).frozen? ⟨w.heap.size, j, none⟩ = false := fun j => by rw [World.frozen?_setCell]; exact HX.out.rf j
      have HX2 : Hid (VR (wr.setCell ⟨w2.heap.size, 1, none⟩ (.float .f64 (floatOfInt .f64 z))) (w.heap.size + 1) i (fun i => .float .f64 (floatOfInt .f64 (W i))) ∧ Q w (wr.setCell ⟨w2.heap.size, 1, none⟩ (.float .f64 (floatOfInt .f64 z)))) := ⟨(HX.out.v.full).other (by show w2.heap.size ≠ _; omega) _, HX.out.q.set (by show w.heap.size ≤ w2.heap.size; omega) _⟩
      obtain ⟨w5, hw5⟩ : ∃ w5, wr.setCell ⟨w2.heap.size, 1, none⟩ (.float .f64 (floatOfInt .f64 z)) = w5 := ⟨_, rfl⟩
      rw [hw5] at k2 k3 k4 k5 k6 HX2
      have f0 := k6 0
      have f1 := k6 1
      have v0 : ((w5.setCell ⟨w.heap.size, 0, none⟩ (.slice (some ⟨w.heap.size + 1, 0, none⟩) i i)).setCell ⟨w.heap.size, 1, none⟩ (.float .f64 (floatOfInt .f64 z))).cell? ⟨w.heap.size, 0, none⟩ = some (.slice (some ⟨w.heap.size + 1, 0, none⟩) i i) := (World.cell?_setCell_other _ _ _ _ (fun e => by injection e with _ e; cases e)).trans (World.cell?_setCell_same _ _ _ k4)
      have v1 : ((w5.setCell ⟨w.heap.size, 0, none⟩ (.slice (some ⟨w.heap.size + 1, 0, none⟩) i i)).setCell ⟨w.heap.size, 1, none⟩ (.float .f64 (floatOfInt .f64 z))).cell? ⟨w.heap.size, 1, none⟩ = some (.float .f64 (floatOfInt .f64 z)) := World.cell?_setCell_same _ _ _ ((World.cell?_setCell_other _ _ _ _ (fun e => by injection e with _ e; cases e)).trans k5)
      have HE : Hid (VR ((w5.setCell ⟨w.heap.size, 0, none⟩ (.slice (some ⟨w.heap.size + 1, 0, none⟩) i i)).setCell ⟨w.heap.size, 1, none⟩ (.float .f64 (floatOfInt .f64 z))) (w.heap.size + 1) i (fun i => .float .f64 (floatOfInt .f64 (W i))) ∧ Q w ((w5.setCell ⟨w.heap.size, 0, none⟩ (.slice (some ⟨w.heap.size + 1, 0, none⟩) i i)).setCell ⟨w.heap.size, 1, none⟩ (.float .f64 (floatOfInt .f64 z)))) := ⟨(HX2.out.1.other (by show w.heap.size ≠ _; omega) _).other (by show w.heap.size ≠ _; omega) _, (HX2.out.2.set (Nat.le_refl _) _).set (Nat.le_refl _) _⟩
      clear k6 HX2 HX hB2
      go_wp2_with fail
      generalize (w5.setCell ⟨w.heap.size, 0, none⟩ (.slice (some ⟨w.heap.size + 1, 0, none⟩) i i)).setCell ⟨w.heap.size, 1, none⟩ (.float .f64 (floatOfInt .f64 z)) = w9 at HE v0 v1 ⊢
      exact bodyPost_ret (v := .agg #[.slice (some ⟨w.heap.size + 1, 0, none⟩) i i, .float .f64 (floatOfInt .f64 z)]) (by simp [results, Try.results39, go_sem, v0, v1]) rfl ⟨w.heap.size + 1, by rw [HZ.out], HE.out.1, by omega, HE.out.2⟩
/-- A weight times a sample; sums of these, from the first on. -/
def wpr (W : Nat → Int) (S : Nat → Nat) (i : Nat) : Nat := opT .mul (floatOfInt .f64 (W i)) (wideW (S i))
def wac (W : Nat → Int) (S : Nat → Nat) : Nat → Nat
  | 0 => wpr W S 0
  | k + 1 => opT .add (wac W S k) (wpr W S (k + 1))
/-- What k + 1 weights make of samples. -/
def wghV (k : Nat) (W : Nat → Int) (sm : Int) (S : Nat → Nat) : Nat := narW (opT .quo (wac W S k) (floatOfInt .f64 sm))
theorem can_int {y : Int} (h0 : y ≤ 268435456) (h1 : -268435456 ≤ y) : canW (floatOfInt .f64 y) = floatOfInt .f64 y := by
  rcases can_cases (floatOfInt .f64 y) with h | ⟨h, _⟩
  · exact h
  · obtain ⟨j, p, e, _⟩ := read_weightq h0 h1
    rw [e] at h
    cases h
set_option maxHeartbeats 4000000 in
set_option maxRecDepth 100000 in
theorem weigh_any (k gb h o c : Nat) (W : Nat → Int) (sm : Int) (X S : Nat → Nat) (w : World) (hk : k ≤ 14) (hc : k + 1 ≤ c) (hV : ∀ i, i < k + 1 → w.cell? ⟨gb, i, none⟩ = some (.float .f64 (floatOfInt .f64 (W i)))) (hX : ∀ i, i < k + 1 → w.cell? ⟨h, o + i, none⟩ = some (.float .f64 (X i))) (hS : ∀ i, i < k + 1 → NumX (S i) (X i)) (hW : ∀ i, i < k + 1 → 0 ≤ W i ∧ W i ≤ 3432) (hs : 1 ≤ sm ∧ sm ≤ 268435456) :
    Calls Try.prog 40 #[.agg #[.slice (some ⟨gb, 0, none⟩) (k + 1) (k + 1), .float .f64 (floatOfInt .f64 sm)], .slice (some ⟨h, o, none⟩) (k + 1) c] w fun e w' => e = .returned (.int .u32 (wghV k W sm S : Nat)) ∧ Q w w' := by
  have HV : Hid (∀ i, i < k + 1 → ∀ x : World, Q w x → x.cell? ⟨gb, i, none⟩ = some (.float .f64 (floatOfInt .f64 (W i)))) := fun i hi x q => q.cell (hV i hi)
  have HX : Hid (∀ i, i < k + 1 → ∀ x : World, Q w x → x.cell? ⟨h, o + i, none⟩ = some (.float .f64 (X i))) := fun i hi x q => q.cell (hX i hi)
  have HP : Hid (∀ i, i < k + 1 → ∀ x : World, canW (resW .mul (floatOfInt .f64 (W i)) (X i) x) = wpr W S i) := fun i hi x => res_can hA3 (can_int (by have := hW i hi; omega) (by have := hW i hi; omega)) (hS i hi).2
  have HE : Hid (∀ A x, narW (resW .quo A (floatOfInt .f64 sm) x) = narW (opT .quo (canW A) (floatOfInt .f64 sm))) := fun A x => narW_of (res_can hA4 rfl (can_int (by omega) (by omega)))
  obtain ⟨N, hN⟩ : ∃ N, k + 1 = N := ⟨_, rfl⟩
  have HN : Hid (k + 1 = N) := hN
  have hN1 : 1 ≤ N := by omega
  have hN2 : N ≤ 15 := by omega
  rw [hN] at hc ⊢
  obtain ⟨fs, hfs⟩ : ∃ fs, floatOfInt .f64 sm = fs := ⟨_, rfl⟩
  have HFS : Hid (floatOfInt .f64 sm = fs) := hfs
  rw [hfs] at HE ⊢
  obtain ⟨w1, hw1⟩ : ∃ w1, w.alloc (.cells #[.slice (some ⟨gb, 0, none⟩) N N, .float .f64 fs] 84) = w1 := ⟨_, rfl⟩
  have q1 : Q w w1 := by rw [← hw1]; exact (Q.refl w).cells _ _
  have k0 : w1.cell? ⟨w.heap.size, 0, none⟩ = some (.slice (some ⟨gb, 0, none⟩) N N) := by rw [← hw1]; simp [go_sem]
  have k1 : w1.cell? ⟨w.heap.size, 1, none⟩ = some (.float .f64 fs) := by rw [← hw1]; simp [go_sem]
  have HB : Hid (w1.cell? ⟨w.heap.size, 0, none⟩ = some (.slice (some ⟨gb, 0, none⟩) N N) ∧ w1.cell? ⟨w.heap.size, 1, none⟩ = some (.float .f64 fs) ∧ Q w w1) := ⟨k0, k1, q1⟩
  have lm := fun (t : TypeId) (x y : Nat) (P : Program) (w : World) => run_res .mul hA3 t x y P w
  have la := fun (t : TypeId) (x y : Nat) (P : Program) (w : World) => run_res .add hA1 t x y P w
  have lq := fun (t : TypeId) (x y : Nat) (P : Program) (w : World) => run_res .quo hA4 t x y P w
  have hNp : (0 : Int) < (N : Int) := by omega
  have hNn : 0 < N := by omega
  have n0 := qw_some w1
  have f0 := qw_cell k0
  have f1 := qw_cell (HV.out 0 (by omega) w1 q1)
  have f2 := qw_cell (HX.out 0 (by omega) w1 q1)
  rw [Nat.add_zero] at f2
  clear hV hX hS hW hs hfs hN
  go_enter Try.func40, Try.ntmps40
  go_wp2_with fail
  refine wp_region_mk [0, 1, 2, 3, 4, 5, 6] [[7, 8]] 2 _ (by kernel_rfl) (by kernel_rfl) rfl (by kernel_rfl) ?_
  simp only [List.filterMap_cons, List.filterMap_nil, List.getElem?_cons_zero, List.getElem?_cons_succ]
  repeat (first | go_big_quiet_step (fail) | quiet_step (fail))
  refine wpQuiet_nil ?_
  intro x2 hx2
  refine tree_run 7 rfl rfl (v := .float .f64 (resW .mul (floatOfInt .f64 (W 0)) (X 0) x2)) (x' := resU .mul (floatOfInt .f64 (W 0)) (X 0) x2) (by simp [execOp, go_sem, lm]) (hx2.trans (resU_q _ _ _ _)) ?_
  refine tree_runF 8 rfl rfl rfl (v := .float .f64 (resW .mul (floatOfInt .f64 (W 0)) (X 0) x2)) (x' := resU .mul (floatOfInt .f64 (W 0)) (X 0) x2) (by simp [execOp, go_sem]) ?_
  refine tree_nil ?_
  have HA : Hid (canW (resW .mul (floatOfInt .f64 (W 0)) (X 0) x2) = wac W S 0 ∧ Q w1 (resU .mul (floatOfInt .f64 (W 0)) (X 0) x2)) := ⟨HP.out 0 (by omega) x2, hx2.trans (resU_q _ _ _ _)⟩
  generalize resW .mul (floatOfInt .f64 (W 0)) (X 0) x2 = A0 at HA ⊢
  generalize resU .mul (floatOfInt .f64 (W 0)) (X 0) x2 = w3 at HA ⊢
  clear n0 f0 f1 f2 hx2 k0 k1 q1 hw1
  have h1N : (1 : Int) ≤ (N : Int) := by omega
  have h1c : (1 : Int) ≤ (c : Int) := by omega
  have hNk : N - 1 = k := by have := HN.out; omega
  rcases Nat.lt_or_ge 1 c with hc1 | hc1
  · have hc2 : (1 : Int) < (c : Int) := by omega
    go_wp2_with fail
    go_loopg [5, 6, 7, 8, 20] k (fun m s5 s6 s7 s8 s20 wr => ∃ (i A : Nat), s5 = .float .f64 A ∧ s20 = .int .i64 (i : Int) ∧ i + m = k ∧ Hid (canW A = wac W S i ∧ Q w1 wr))
    case atStart => exact ⟨0, A0, rfl, rfl, by omega, HA⟩
    case round =>
      obtain ⟨i, A, rfl, rfl, hi, HY⟩ := hrel
      have hk1 : N - 1 = k := by have := HN.out; omega
      have c0 := HY.out.2.cell HB.out.1
      have c1 := HY.out.2.cell HB.out.2.1
      by_cases hlt : i < k
      · have hlt' : (i : Int) < (k : Int) := by omega
        have hltN : 1 + (i : Int) < (N : Int) := by have := HN.out; omega
        have d1 := HV.out (1 + i) (by omega) wr (HB.out.2.2.trans HY.out.2)
        have d2 := HX.out (1 + i) (by omega) wr (HB.out.2.2.trans HY.out.2)
        rw [← Nat.add_assoc] at d2
        have HZ : Hid (∀ x y : World, canW (resW .add A (resW .mul (floatOfInt .f64 (W (1 + i))) (X (1 + i)) x) y) = wac W S (i + 1)) := fun x y => by
          have := res_can (op := .add) (w := y) hA1 HY.out.1 (HP.out (1 + i) (by omega) x)
          rw [this, Nat.add_comm 1 i]
          rfl
        have HU : Hid (∀ x y : Nat, ∀ z : World, Q w1 z → Q w1 (resU .mul x y z) ∧ Q w1 (resU .add x y z)) := fun x y z q => ⟨q.trans (resU_q _ _ _ _), q.trans (resU_q _ _ _ _)⟩
        generalize floatOfInt .f64 (W (1 + i)) = wi at *
        generalize X (1 + i) = xi at *
        go_wp2_with fail
        go_roundg (k - (i + 1))
        case measure => go_light; omega
        case rel => go_light; exact ⟨i + 1, _, rfl, by go_num, by omega, ⟨HZ.out _ _, (HU.out _ _ _ (HU.out _ _ _ HY.out.2).1).2⟩⟩
      · obtain rfl : i = k := by omega
        have hge : ¬ (i : Int) < (i : Int) := by omega
        have HZ : Hid (∀ x : World, narW (resW .quo A fs x) = wghV i W sm S) := fun x => by rw [HE.out, HY.out.1]; unfold wghV; rw [HFS.out]
        have CS : Hid (∀ (x : Nat) (w : World), Calls Try.prog 54 #[.float .f64 x] w fun e w' => e = .returned (.int .u32 (narW x : Nat)) ∧ Q w w') := fun x w => bsample_any x w
        have HQ : Hid (∀ z, Q (resU .quo A fs wr) z → Q w z) := fun z q => (HB.out.2.2.trans HY.out.2).trans ((resU_q _ _ _ _).trans q)
        go_wp2_with fail
        refine (CS.out _ _).mono ?_
        rintro e w6 ⟨rfl, q6⟩
        have HQ6 : Hid (Q w w6) := HQ.out w6 q6
        rw [HZ.out]
        clear q6
        go_wp2_with fail
        go_ret
        exact ⟨rfl, HQ6.out⟩
  · obtain rfl : c = 1 := by omega
    go_wp2_with fail
    go_loopg [5, 6, 7, 8, 20] k (fun m s5 s6 s7 s8 s20 wr => ∃ (i A : Nat), s5 = .float .f64 A ∧ s20 = .int .i64 (i : Int) ∧ i + m = k ∧ Hid (canW A = wac W S i ∧ Q w1 wr))
    case atStart => exact ⟨0, A0, rfl, rfl, by omega, HA⟩
    case round =>
      obtain ⟨i, A, rfl, rfl, hi, HY⟩ := hrel
      have hk1 : N - 1 = k := by have := HN.out; omega
      have c0 := HY.out.2.cell HB.out.1
      have c1 := HY.out.2.cell HB.out.2.1
      by_cases hlt : i < k
      · exfalso; have := HN.out; omega
      · obtain rfl : i = k := by omega
        have hge : ¬ (i : Int) < (i : Int) := by omega
        have HZ : Hid (∀ x : World, narW (resW .quo A fs x) = wghV i W sm S) := fun x => by rw [HE.out, HY.out.1]; unfold wghV; rw [HFS.out]
        have CS : Hid (∀ (x : Nat) (w : World), Calls Try.prog 54 #[.float .f64 x] w fun e w' => e = .returned (.int .u32 (narW x : Nat)) ∧ Q w w') := fun x w => bsample_any x w
        have HQ : Hid (∀ z, Q (resU .quo A fs wr) z → Q w z) := fun z q => (HB.out.2.2.trans HY.out.2).trans ((resU_q _ _ _ _).trans q)
        go_wp2_with fail
        refine (CS.out _ _).mono ?_
        rintro e w6 ⟨rfl, q6⟩
        have HQ6 : Hid (Q w w6) := HQ.out w6 q6
        rw [HZ.out]
        clear q6
        go_wp2_with fail
        go_ret
        exact ⟨rfl, HQ6.out⟩
end Go.Proofs.Ytedaacddnahjkaa
