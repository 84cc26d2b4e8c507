/- The document's sums of products with weights: one product. -/
import Derived.Test.YtnjagokojdpgpabDoorG9841e28c
import Derived.Test.YtnjagokojdpgpabDoorG46b1957e
import Derived.Test.YtnjagokojdpgpabDoorGd8a7a432
namespace Go.Proofs.YtnjagokojdpgpabDoor
open Go.RowKit
set_option linter.unusedVariables false
set_option linter.unusedSimpArgs false

/-- A weight as a number. -/
def numW (y : Int) : RNum := .fin (decide (y < 0)) y.natAbs 0 false
theorem numW_wide {y : Int} (h0 : y ≤ 268435456) (h1 : -268435456 ≤ y) : wideR (numW y) := ⟨by omega, by omega, by omega, rfl, fun _ => by omega⟩
theorem numOf_wide (s : Nat) : wideR (numOf Ieee.double (wideW s)) := by rw [numOf_datum]; exact wideR_of s
/-- A weight as a binary64. -/
theorem read_weight {y : Int} (h0 : y ≤ 268435456) (h1 : -268435456 ≤ y) : ∃ j : Nat, ∃ p : Int, Ieee.double.read (floatOfInt .f64 y) = .number (decide (y < 0)) (y.natAbs * 2 ^ j) p ∧ (y ≠ 0 → p = -(j : Int)) := by
  by_cases hy : y = 0
  · subst hy
    exact ⟨0, -1074, by decide +kernel, fun h => absurd rfl h⟩
  · have hne : y.natAbs ≠ 0 := by omega
    have a0 := Nat.log2_self_le hne
    have a1 : y.natAbs < 2 ^ (y.natAbs.log2 + 1) := Nat.lt_log2_self
    have aL : y.natAbs.log2 ≤ 52 := by
      have := (Nat.log2_lt hne).2 (Nat.lt_of_le_of_lt (show y.natAbs ≤ 268435456 by omega) (show 268435456 < 2 ^ 53 by decide))
      omega
    have e1 : floatOfInt .f64 y = Ieee.double.nearest (decide (y < 0)) y.natAbs 0 := rfl
    generalize y.natAbs.log2 = M at *
    have e2 := nearest_exact (neg := decide (y < 0)) (k := 0) (p := 0) a0 a1 aL (by omega) (by omega)
    rw [Nat.pow_zero, Nat.mul_one] at e2
    have b1 : y.natAbs * 2 ^ (52 - M) < 9007199254740992 := by
      have := Nat.mul_lt_mul_of_pos_right a1 (Nat.two_pow_pos (52 - M))
      rw [← Nat.pow_add, show M + 1 + (52 - M) = 53 by omega] at this
      exact this
    have b0 : 4503599627370496 ≤ y.natAbs * 2 ^ (52 - M) := by
      have := Nat.mul_le_mul_right (2 ^ (52 - M)) a0
      rw [← Nat.pow_add, show M + (52 - M) = 52 by omega] at this
      exact this
    refine ⟨52 - M, 0 + ((0 : Nat) : Int) + M - 52, ?_, fun _ => by omega⟩
    rw [e1, e2, read_wd b0 b1 (by omega) (by omega)]
theorem prod_link {y : Int} (h0 : y ≤ 268435456) (h1 : -268435456 ≤ y) {s : Nat} : roundD (timesR (numW y) (numOf Ieee.double (wideW s))) = prodV y s := by
  obtain ⟨j, p, hr, hp⟩ := read_weight h0 h1
  unfold prodV numW
  rw [hr, numOf_datum, told64_eq]
  cases Ieee.double.read (wideW s) with
  | nan t u => rfl
  | infinity t =>
    show roundD (if zeroB (.fin (decide (y < 0)) y.natAbs 0 false) = true then .nan else .inf (decide (y < 0) != t)) = toldW (if y.natAbs * 2 ^ j = 0 then none else some (.infinity (t ^^ decide (y < 0))))
    rw [zeroB_fin]
    by_cases hy : y.natAbs = 0
    · rw [decide_eq_true hy, if_pos rfl, if_pos (by rw [hy, Nat.zero_mul])]
      rfl
    · have : y.natAbs * 2 ^ j ≠ 0 := Nat.mul_ne_zero hy (Nat.ne_of_gt (Nat.two_pow_pos j))
      rw [decide_eq_false hy, if_neg (by decide), if_neg this]
      show Ieee.double.word (decide (y < 0) != t) 9218868437227405312 = Ieee.double.write (.infinity (t ^^ decide (y < 0)))
      rw [show Ieee.double.write (.infinity (t ^^ decide (y < 0))) = Ieee.double.word (t ^^ decide (y < 0)) Ieee.double.infRung from rfl, double_inf]
      congr 1
      cases t <;> cases decide (y < 0) <;> rfl
  | number t n q =>
    show roundD (.fin (decide (y < 0) != t) (y.natAbs * n) (0 + q) false) = toldW (some (.number (decide (y < 0) ^^ t) (y.natAbs * 2 ^ j * n) (p + q)))
    rw [roundD_fin']
    show _ = Ieee.double.nearest (decide (y < 0) ^^ t) (y.natAbs * 2 ^ j * n) (p + q)
    rw [nearest_rung, nearest_rung, bne_xor]
    congr 1
    by_cases hy : y = 0
    · subst hy
      show rungOf Ieee.double (0 * n) _ = rungOf Ieee.double (0 * 2 ^ j * n) _
      rw [Nat.zero_mul, Nat.zero_mul, Nat.zero_mul]
      rw [show rungOf Ieee.double 0 (0 + q) = 0 from rungOf_zero _ _, show rungOf Ieee.double 0 (p + q) = 0 from rungOf_zero _ _]
    · rw [hp hy, show y.natAbs * 2 ^ j * n = y.natAbs * n * 2 ^ j by rw [Nat.mul_assoc, Nat.mul_comm (2 ^ j), ← Nat.mul_assoc], rung_scale]
      congr 1
      omega
theorem box_zero (w : World) (j : Nat) (hj : j < 5) : (w.alloc (Obj.cells #[.int .i64 0, .bool false, .slice none 0 0, .int .i64 0, .bool false] 38)).cell? ⟨w.heap.size, j, none⟩ = (#[.int .i64 0, .bool false, .slice none 0 0, .int .i64 0, .bool false] : Array Value)[j]? := by
  rcases j with _ | _ | _ | _ | _ | j
  · simp [go_sem]
  · simp [go_sem]
  · simp [go_sem]
  · simp [go_sem]
  · simp [go_sem]
  · omega
section
variable {P : Program} {ρ : Operand → Value} {x : World} {d : Option Tmp} {ty : TypeId} {ps : String} {af : Array Edge} {g : Option (Nat × Bool)}
theorem run_ixu {j k gg o Lw cap i : Nat} (h : ρ (.tmp j) = .slice (some ⟨gg, o, none⟩) Lw cap) (h' : ρ (.tmp k) = .int .i64 (i : Nat)) (hi : i < Lw) : (execOp ρ { dst := d, op := .indexAddr 22 (.tmp j) (.tmp k), type := ty, pos := ps, after := af, guard := g }).run Tryd.prog x = .ok (.value (.pointer (some ⟨gg, o + i, none⟩))) x := by
  simp [execOp, h, h', go_sem, hi]
theorem run_ldu {j : Nat} {p : Addr} {v : Value} (h : ρ (.tmp j) = .pointer (some p)) (c : x.cell? p = some v) : (execOp ρ { dst := d, op := .load 23 (.tmp j), type := ty, pos := ps, after := af, guard := g }).run Tryd.prog x = .ok (.value v) x := by
  simp [execOp, h, go_sem, c]
end
def oDR_0 : Oper := { dst := some 41, op := .load 40 (.tmp 7), type := 40, pos := "halideref3.go:191", after := #[], guard := none }
def oDR_1 : Oper := { dst := some 42, op := .move (.tmp 0), type := 49, pos := "halideref3.go:191", after := #[], guard := none }
def oDR_2 : Oper := { dst := some 43, op := .move (.tmp 9), type := 3, pos := "halideref3.go:191", after := #[], guard := none }
def oDR_3 : Oper := { dst := some 44, op := .indexAddr 49 (.tmp 42) (.tmp 43), type := 0, pos := "halideref3.go:191", after := #[⟨1, .data⟩, ⟨2, .data⟩], guard := none }
def oDR_4 : Oper := { dst := some 45, op := .load 3 (.tmp 44), type := 3, pos := "halideref3.go:191", after := #[⟨3, .data⟩], guard := none }
def oDR_6 : Oper := { dst := some 47, op := .load 40 (.tmp 7), type := 40, pos := "halideref3.go:191", after := #[], guard := none }
def oDR_7 : Oper := { dst := some 48, op := .move (.tmp 1), type := 22, pos := "halideref3.go:191", after := #[], guard := none }
def oDR_8 : Oper := { dst := some 49, op := .move (.tmp 9), type := 3, pos := "halideref3.go:191", after := #[], guard := none }
def oDR_9 : Oper := { dst := some 50, op := .indexAddr 22 (.tmp 48) (.tmp 49), type := 0, pos := "halideref3.go:191", after := #[⟨7, .data⟩, ⟨8, .data⟩], guard := none }
def oDR_10 : Oper := { dst := some 51, op := .load 23 (.tmp 50), type := 23, pos := "halideref3.go:191", after := #[⟨9, .data⟩], guard := none }
def oDR_12 : Oper := { dst := some 53, op := .call { callee := .value (.func 18), args := #[.tmp 47, .tmp 52], argTypes := #[40, 43] }, type := 38, pos := "halideref3.go:191", after := #[⟨6, .data⟩, ⟨11, .data⟩, ⟨11, .chain⟩], guard := none }
def oDR_14 : Oper := { dst := some 55, op := .call { callee := .value (.func 32), args := #[.tmp 41, .tmp 54], argTypes := #[40, 38] }, type := 43, pos := "halideref3.go:191", after := #[⟨0, .data⟩, ⟨13, .data⟩, ⟨13, .chain⟩], guard := none }
def oDR_15 : Oper := { dst := some 10, op := .assign (.tmp 55), type := 43, pos := "halideref3.go:191", after := #[⟨14, .data⟩, ⟨14, .chain⟩, ⟨0, .phase⟩, ⟨1, .phase⟩, ⟨2, .phase⟩, ⟨3, .phase⟩, ⟨4, .phase⟩, ⟨5, .phase⟩, ⟨6, .phase⟩, ⟨7, .phase⟩, ⟨8, .phase⟩, ⟨9, .phase⟩, ⟨10, .phase⟩, ⟨11, .phase⟩, ⟨12, .phase⟩, ⟨13, .phase⟩, ⟨14, .phase⟩], guard := none }
def sDR : List Nat := [41, 42, 43, 44, 45, 46, 47, 48, 49, 50, 51, 52, 53, 54, 55]
def spDR (gb ob ib Lw cw gl ol Ll cl Vf : Nat) (y : Int) (s : Nat) : List Spec := [spV formV, spV (.slice (some ⟨gb, ob, none⟩) Lw cw), spV (.int .i64 (ib : Nat)), spV (.pointer (some ⟨gb, ob + ib, none⟩)), spV (.int .i64 y), numD (numW y), spV formV, spV (.slice (some ⟨gl, ol, none⟩) Ll cl), spV (.int .i64 (ib : Nat)), spV (.pointer (some ⟨gl, ol + ib, none⟩)), spV (.int .u32 (s : Nat)), spV (.int .u64 (wideW s : Nat)), numD (numOf Ieee.double (wideW s)), numD (timesR (numW y) (numOf Ieee.double (wideW s))), spV (.int .u64 (prodV y s : Nat))]
structure EnvDR (a0 : Act) (w : World) (gb ob ib Lw cw gl ol Ll cl Vf : Nat) (y : Int) (s : Nat) : Prop where
  h0 : a0.tmps[0]? = some (.slice (some ⟨gb, ob, none⟩) Lw cw)
  h1 : a0.tmps[1]? = some (.slice (some ⟨gl, ol, none⟩) Ll cl)
  h7 : a0.tmps[7]? = some (ptrV Vf)
  h9 : a0.tmps[9]? = some (.int .i64 (ib : Nat))
  fb : FBox w Vf
  hi : ib < Lw
  hl : ib < Ll
  c : w.cell? ⟨gb, ob + ib, none⟩ = some (.int .i64 y)
  d : w.cell? ⟨gl, ol + ib, none⟩ = some (.int .u32 (s : Nat))
  hs : s < 4294967296
  y0 : y ≤ 268435456
  y1 : -268435456 ≤ y
theorem yDR_0 {a0 : Act} {w : World} {gb ob ib Lw cw gl ol Ll cl Vf : Nat} {y : Int} {s : Nat} (E : EnvDR a0 w gb ob ib Lw cw gl ol Ll cl Vf y s) {R : Exit → Act → World → Prop} {a : Act} {x : World} (q : Q w x) (oth : ∀ j, j ∉ sDR → a.tmps[j]? = a0.tmps[j]?) (dep : ∀ ed ∈ oDR_0.after, Region.binds .any ed = true → ∀ t', sDR[ed.on]? = some t' → ∃ v, a.tmps[t']? = some v ∧ specAt (spDR gb ob ib Lw cw gl ol Ll cl Vf y s) ed.on v x) : Yld Tryd.prog R oDR_0 a x 41 (fun v x' => specAt (spDR gb ob ib Lw cw gl ol Ll cl Vf y s) 0 v x' ∧ (0 ∈ ([] : List Nat) → v = ptrV x.heap.size)) := by
  exact yld_run (x' := x) rfl (run_form (tmp_eval ((oth 7 (by decide)).trans E.h7)) (E.fb.next q)) (Q.refl x) ⟨rfl, fun h => absurd h (by decide)⟩
theorem yDR_1 {a0 : Act} {w : World} {gb ob ib Lw cw gl ol Ll cl Vf : Nat} {y : Int} {s : Nat} (E : EnvDR a0 w gb ob ib Lw cw gl ol Ll cl Vf y s) {R : Exit → Act → World → Prop} {a : Act} {x : World} (q : Q w x) (oth : ∀ j, j ∉ sDR → a.tmps[j]? = a0.tmps[j]?) (dep : ∀ ed ∈ oDR_1.after, Region.binds .any ed = true → ∀ t', sDR[ed.on]? = some t' → ∃ v, a.tmps[t']? = some v ∧ specAt (spDR gb ob ib Lw cw gl ol Ll cl Vf y s) ed.on v x) : Yld Tryd.prog R oDR_1 a x 42 (fun v x' => specAt (spDR gb ob ib Lw cw gl ol Ll cl Vf y s) 1 v x' ∧ (1 ∈ ([] : List Nat) → v = ptrV x.heap.size)) := by
  exact yld_move ((oth 0 (by decide)).trans E.h0) ⟨rfl, fun h => absurd h (by decide)⟩
theorem yDR_2 {a0 : Act} {w : World} {gb ob ib Lw cw gl ol Ll cl Vf : Nat} {y : Int} {s : Nat} (E : EnvDR a0 w gb ob ib Lw cw gl ol Ll cl Vf y s) {R : Exit → Act → World → Prop} {a : Act} {x : World} (q : Q w x) (oth : ∀ j, j ∉ sDR → a.tmps[j]? = a0.tmps[j]?) (dep : ∀ ed ∈ oDR_2.after, Region.binds .any ed = true → ∀ t', sDR[ed.on]? = some t' → ∃ v, a.tmps[t']? = some v ∧ specAt (spDR gb ob ib Lw cw gl ol Ll cl Vf y s) ed.on v x) : Yld Tryd.prog R oDR_2 a x 43 (fun v x' => specAt (spDR gb ob ib Lw cw gl ol Ll cl Vf y s) 2 v x' ∧ (2 ∈ ([] : List Nat) → v = ptrV x.heap.size)) := by
  exact yld_move ((oth 9 (by decide)).trans E.h9) ⟨rfl, fun h => absurd h (by decide)⟩
theorem yDR_3 {a0 : Act} {w : World} {gb ob ib Lw cw gl ol Ll cl Vf : Nat} {y : Int} {s : Nat} (E : EnvDR a0 w gb ob ib Lw cw gl ol Ll cl Vf y s) {R : Exit → Act → World → Prop} {a : Act} {x : World} (q : Q w x) (oth : ∀ j, j ∉ sDR → a.tmps[j]? = a0.tmps[j]?) (dep : ∀ ed ∈ oDR_3.after, Region.binds .any ed = true → ∀ t', sDR[ed.on]? = some t' → ∃ v, a.tmps[t']? = some v ∧ specAt (spDR gb ob ib Lw cw gl ol Ll cl Vf y s) ed.on v x) : Yld Tryd.prog R oDR_3 a x 44 (fun v x' => specAt (spDR gb ob ib Lw cw gl ol Ll cl Vf y s) 3 v x' ∧ (3 ∈ ([] : List Nat) → v = ptrV x.heap.size)) := by
  obtain ⟨v1, t1, f1⟩ := dep ⟨1, .data⟩ (by simp [oDR_3]) rfl 42 rfl
  have f1 : v1 = (.slice (some ⟨gb, ob, none⟩) Lw cw) := f1
  subst f1
  obtain ⟨v2, t2, f2⟩ := dep ⟨2, .data⟩ (by simp [oDR_3]) rfl 43 rfl
  have f2 : v2 = (.int .i64 (ib : Nat)) := f2
  subst f2
  exact yld_run (x' := x) rfl (run_ixi (tmp_eval t1) (tmp_eval t2) E.hi) (Q.refl x) ⟨rfl, fun h => absurd h (by decide)⟩
theorem yDR_4 {a0 : Act} {w : World} {gb ob ib Lw cw gl ol Ll cl Vf : Nat} {y : Int} {s : Nat} (E : EnvDR a0 w gb ob ib Lw cw gl ol Ll cl Vf y s) {R : Exit → Act → World → Prop} {a : Act} {x : World} (q : Q w x) (oth : ∀ j, j ∉ sDR → a.tmps[j]? = a0.tmps[j]?) (dep : ∀ ed ∈ oDR_4.after, Region.binds .any ed = true → ∀ t', sDR[ed.on]? = some t' → ∃ v, a.tmps[t']? = some v ∧ specAt (spDR gb ob ib Lw cw gl ol Ll cl Vf y s) ed.on v x) : Yld Tryd.prog R oDR_4 a x 45 (fun v x' => specAt (spDR gb ob ib Lw cw gl ol Ll cl Vf y s) 4 v x' ∧ (4 ∈ ([] : List Nat) → v = ptrV x.heap.size)) := by
  obtain ⟨v3, t3, f3⟩ := dep ⟨3, .data⟩ (by simp [oDR_4]) rfl 44 rfl
  have f3 : v3 = (.pointer (some ⟨gb, ob + ib, none⟩)) := f3
  subst f3
  exact yld_run (x' := x) rfl (run_ldi (tmp_eval t3) (q.cell E.c)) (Q.refl x) ⟨rfl, fun h => absurd h (by decide)⟩
theorem yDR_6 {a0 : Act} {w : World} {gb ob ib Lw cw gl ol Ll cl Vf : Nat} {y : Int} {s : Nat} (E : EnvDR a0 w gb ob ib Lw cw gl ol Ll cl Vf y s) {R : Exit → Act → World → Prop} {a : Act} {x : World} (q : Q w x) (oth : ∀ j, j ∉ sDR → a.tmps[j]? = a0.tmps[j]?) (dep : ∀ ed ∈ oDR_6.after, Region.binds .any ed = true → ∀ t', sDR[ed.on]? = some t' → ∃ v, a.tmps[t']? = some v ∧ specAt (spDR gb ob ib Lw cw gl ol Ll cl Vf y s) ed.on v x) : Yld Tryd.prog R oDR_6 a x 47 (fun v x' => specAt (spDR gb ob ib Lw cw gl ol Ll cl Vf y s) 6 v x' ∧ (6 ∈ ([] : List Nat) → v = ptrV x.heap.size)) := by
  exact yld_run (x' := x) rfl (run_form (tmp_eval ((oth 7 (by decide)).trans E.h7)) (E.fb.next q)) (Q.refl x) ⟨rfl, fun h => absurd h (by decide)⟩
theorem yDR_7 {a0 : Act} {w : World} {gb ob ib Lw cw gl ol Ll cl Vf : Nat} {y : Int} {s : Nat} (E : EnvDR a0 w gb ob ib Lw cw gl ol Ll cl Vf y s) {R : Exit → Act → World → Prop} {a : Act} {x : World} (q : Q w x) (oth : ∀ j, j ∉ sDR → a.tmps[j]? = a0.tmps[j]?) (dep : ∀ ed ∈ oDR_7.after, Region.binds .any ed = true → ∀ t', sDR[ed.on]? = some t' → ∃ v, a.tmps[t']? = some v ∧ specAt (spDR gb ob ib Lw cw gl ol Ll cl Vf y s) ed.on v x) : Yld Tryd.prog R oDR_7 a x 48 (fun v x' => specAt (spDR gb ob ib Lw cw gl ol Ll cl Vf y s) 7 v x' ∧ (7 ∈ ([] : List Nat) → v = ptrV x.heap.size)) := by
  exact yld_move ((oth 1 (by decide)).trans E.h1) ⟨rfl, fun h => absurd h (by decide)⟩
theorem yDR_8 {a0 : Act} {w : World} {gb ob ib Lw cw gl ol Ll cl Vf : Nat} {y : Int} {s : Nat} (E : EnvDR a0 w gb ob ib Lw cw gl ol Ll cl Vf y s) {R : Exit → Act → World → Prop} {a : Act} {x : World} (q : Q w x) (oth : ∀ j, j ∉ sDR → a.tmps[j]? = a0.tmps[j]?) (dep : ∀ ed ∈ oDR_8.after, Region.binds .any ed = true → ∀ t', sDR[ed.on]? = some t' → ∃ v, a.tmps[t']? = some v ∧ specAt (spDR gb ob ib Lw cw gl ol Ll cl Vf y s) ed.on v x) : Yld Tryd.prog R oDR_8 a x 49 (fun v x' => specAt (spDR gb ob ib Lw cw gl ol Ll cl Vf y s) 8 v x' ∧ (8 ∈ ([] : List Nat) → v = ptrV x.heap.size)) := by
  exact yld_move ((oth 9 (by decide)).trans E.h9) ⟨rfl, fun h => absurd h (by decide)⟩
theorem yDR_9 {a0 : Act} {w : World} {gb ob ib Lw cw gl ol Ll cl Vf : Nat} {y : Int} {s : Nat} (E : EnvDR a0 w gb ob ib Lw cw gl ol Ll cl Vf y s) {R : Exit → Act → World → Prop} {a : Act} {x : World} (q : Q w x) (oth : ∀ j, j ∉ sDR → a.tmps[j]? = a0.tmps[j]?) (dep : ∀ ed ∈ oDR_9.after, Region.binds .any ed = true → ∀ t', sDR[ed.on]? = some t' → ∃ v, a.tmps[t']? = some v ∧ specAt (spDR gb ob ib Lw cw gl ol Ll cl Vf y s) ed.on v x) : Yld Tryd.prog R oDR_9 a x 50 (fun v x' => specAt (spDR gb ob ib Lw cw gl ol Ll cl Vf y s) 9 v x' ∧ (9 ∈ ([] : List Nat) → v = ptrV x.heap.size)) := by
  obtain ⟨v7, t7, f7⟩ := dep ⟨7, .data⟩ (by simp [oDR_9]) rfl 48 rfl
  have f7 : v7 = (.slice (some ⟨gl, ol, none⟩) Ll cl) := f7
  subst f7
  obtain ⟨v8, t8, f8⟩ := dep ⟨8, .data⟩ (by simp [oDR_9]) rfl 49 rfl
  have f8 : v8 = (.int .i64 (ib : Nat)) := f8
  subst f8
  exact yld_run (x' := x) rfl (run_ixu (tmp_eval t7) (tmp_eval t8) E.hl) (Q.refl x) ⟨rfl, fun h => absurd h (by decide)⟩
theorem yDR_10 {a0 : Act} {w : World} {gb ob ib Lw cw gl ol Ll cl Vf : Nat} {y : Int} {s : Nat} (E : EnvDR a0 w gb ob ib Lw cw gl ol Ll cl Vf y s) {R : Exit → Act → World → Prop} {a : Act} {x : World} (q : Q w x) (oth : ∀ j, j ∉ sDR → a.tmps[j]? = a0.tmps[j]?) (dep : ∀ ed ∈ oDR_10.after, Region.binds .any ed = true → ∀ t', sDR[ed.on]? = some t' → ∃ v, a.tmps[t']? = some v ∧ specAt (spDR gb ob ib Lw cw gl ol Ll cl Vf y s) ed.on v x) : Yld Tryd.prog R oDR_10 a x 51 (fun v x' => specAt (spDR gb ob ib Lw cw gl ol Ll cl Vf y s) 10 v x' ∧ (10 ∈ ([] : List Nat) → v = ptrV x.heap.size)) := by
  obtain ⟨v9, t9, f9⟩ := dep ⟨9, .data⟩ (by simp [oDR_10]) rfl 50 rfl
  have f9 : v9 = (.pointer (some ⟨gl, ol + ib, none⟩)) := f9
  subst f9
  exact yld_run (x' := x) rfl (run_ldu (tmp_eval t9) (q.cell E.d)) (Q.refl x) ⟨rfl, fun h => absurd h (by decide)⟩
theorem yDR_12 {a0 : Act} {w : World} {gb ob ib Lw cw gl ol Ll cl Vf : Nat} {y : Int} {s : Nat} (E : EnvDR a0 w gb ob ib Lw cw gl ol Ll cl Vf y s) {R : Exit → Act → World → Prop} {a : Act} {x : World} (q : Q w x) (oth : ∀ j, j ∉ sDR → a.tmps[j]? = a0.tmps[j]?) (dep : ∀ ed ∈ oDR_12.after, Region.binds .any ed = true → ∀ t', sDR[ed.on]? = some t' → ∃ v, a.tmps[t']? = some v ∧ specAt (spDR gb ob ib Lw cw gl ol Ll cl Vf y s) ed.on v x) : Yld Tryd.prog R oDR_12 a x 53 (fun v x' => specAt (spDR gb ob ib Lw cw gl ol Ll cl Vf y s) 12 v x' ∧ (12 ∈ ([] : List Nat) → v = ptrV x.heap.size)) := by
  obtain ⟨v6, t6, f6⟩ := dep ⟨6, .data⟩ (by simp [oDR_12]) rfl 47 rfl
  have f6 : v6 = formV := f6
  subst f6
  obtain ⟨v11, t11, f11⟩ := dep ⟨11, .data⟩ (by simp [oDR_12]) rfl 52 rfl
  have f11 : v11 = (.int .u64 (wideW s : Nat)) := f11
  subst f11
  refine yld_call (enters_of Tryd.func18 (by kernel_rfl) rfl) (args2 t6 t11) ((of64_any (wideW s) x (wideW_lt _)).mono ?_)
  rintro u x' ⟨v, rfl, h, q'⟩
  exact ⟨v, rfl, q', h, fun h => absurd h (by decide)⟩
theorem yDR_14 {a0 : Act} {w : World} {gb ob ib Lw cw gl ol Ll cl Vf : Nat} {y : Int} {s : Nat} (E : EnvDR a0 w gb ob ib Lw cw gl ol Ll cl Vf y s) {R : Exit → Act → World → Prop} {a : Act} {x : World} (q : Q w x) (oth : ∀ j, j ∉ sDR → a.tmps[j]? = a0.tmps[j]?) (dep : ∀ ed ∈ oDR_14.after, Region.binds .any ed = true → ∀ t', sDR[ed.on]? = some t' → ∃ v, a.tmps[t']? = some v ∧ specAt (spDR gb ob ib Lw cw gl ol Ll cl Vf y s) ed.on v x) : Yld Tryd.prog R oDR_14 a x 55 (fun v x' => specAt (spDR gb ob ib Lw cw gl ol Ll cl Vf y s) 14 v x' ∧ (14 ∈ ([] : List Nat) → v = ptrV x.heap.size)) := by
  obtain ⟨v0, t0, f0⟩ := dep ⟨0, .data⟩ (by simp [oDR_14]) rfl 41 rfl
  have f0 : v0 = formV := f0
  subst f0
  obtain ⟨v13, t13, f13⟩ := dep ⟨13, .data⟩ (by simp [oDR_14]) rfl 54 rfl
  have f13 : (numD (timesR (numW y) (numOf Ieee.double (wideW s)))).p v13 x := f13
  have hr := round64_any _ _ x f13 (times_fitsD (numW_wide E.y0 E.y1) (numOf_wide s))
  rw [prod_link E.y0 E.y1] at hr
  refine yld_call (enters_of Tryd.func32 (by kernel_rfl) rfl) (args2 t0 t13) (hr.mono ?_)
  rintro u x' ⟨rfl, q'⟩
  exact ⟨_, rfl, q', rfl, fun h => absurd h (by decide)⟩
set_option maxRecDepth 100000 in
theorem normDR {t0 t1 t2 t3 t4 t5 t6 t7 t8 t9 t10 t11 t12 t13 t14 t15 t16 t17 t18 t19 t20 t21 t22 t23 t24 t25 t26 t27 t28 t29 t30 t31 t32 t33 t34 t35 t36 t37 t38 t39 t40 t41 t42 t43 t44 t45 t46 t47 t48 t49 t50 t51 t52 t53 t54 t55 t56 t57 t58 t59 t60 t61 t62 v41 v42 v43 v44 v45 v46 v47 v48 v49 v50 v51 v52 v53 v54 v55 v10 : Value} {d : List Deferred} : putAll ⟨#[t0, t1, t2, t3, t4, t5, t6, t7, t8, t9, t10, t11, t12, t13, t14, t15, t16, t17, t18, t19, t20, t21, t22, t23, t24, t25, t26, t27, t28, t29, t30, t31, t32, t33, t34, t35, t36, t37, t38, t39, t40, t41, t42, t43, t44, t45, t46, t47, t48, t49, t50, t51, t52, t53, t54, t55, t56, t57, t58, t59, t60, t61, t62], d⟩ [(41, v41), (42, v42), (43, v43), (44, v44), (45, v45), (46, v46), (47, v47), (48, v48), (49, v49), (50, v50), (51, v51), (52, v52), (53, v53), (54, v54), (55, v55), (10, v10)] = ⟨#[t0, t1, t2, t3, t4, t5, t6, t7, t8, t9, v10, t11, t12, t13, t14, t15, t16, t17, t18, t19, t20, t21, t22, t23, t24, t25, t26, t27, t28, t29, t30, t31, t32, t33, t34, t35, t36, t37, t38, t39, t40, v41, v42, v43, v44, v45, v46, v47, v48, v49, v50, v51, v52, v53, v54, v55, t56, t57, t58, t59, t60, t61, t62], d⟩ := by
  kernel_rfl
end Go.Proofs.YtnjagokojdpgpabDoor
/- The document's sums of products with weights, in binary64. -/
namespace Go.Proofs.YtnjagokojdpgpabDoor
open Go.RowKit
set_option linter.unusedVariables false
set_option linter.unusedSimpArgs false

theorem lost_val (r : Nat) : lostK (val64 r) = plc64 r := by
  have hm := mag_lt64 r
  unfold lostK val64
  by_cases h : 0 < plc64 r
  · have hg := mag_ge64 h
    have e := log2_shift (o := mag64 r) (L := 52) (k := plc64 r) hg hm
    rw [e]
    omega
  · have e : plc64 r = 0 := by omega
    rw [e, Nat.pow_zero, Nat.mul_one]
    by_cases h0 : mag64 r = 0
    · rw [h0]; decide
    · have := (Nat.log2_lt h0).2 (show mag64 r < 2 ^ 53 from hm)
      omega
/-- A rung is the rung of its value. -/
theorem rung_val64 {r : Nat} (h : r < 9218868437227405312) : rungOf Ieee.double (val64 r) (-1074) = r := by
  by_cases h0 : val64 r = 0
  · rw [h0, rungOf_zero]
    rcases Nat.eq_zero_or_pos r with g | g
    · exact g.symm
    · have := val_pos64 g; omega
  · unfold rungOf
    rw [if_neg h0]
    have e0 := lost_val r
    have e1 : lastOf Ieee.double (val64 r) (-1074) = -1074 + (plc64 r : Int) := by
      unfold lastOf
      unfold lostK at e0
      rw [least64, frac64]
      omega
    have e2 : (-1074 + (plc64 r : Int) - -1074).toNat = plc64 r := by omega
    have e3 : (-1074 : Int) - (-1074 + (plc64 r : Int)) = -(plc64 r : Int) := by omega
    have e4 : rne (val64 r) (plc64 r) = mag64 r := rne_exact _ _
    have e5 : plc64 r * 4503599627370496 + mag64 r = r := by unfold mag64 plc64; omega
    rw [e1, least64, binade64, inf64, e2, e3, rz_neg, e4, e5]
    omega
/-- Nothing and one number. -/
theorem first_num {X : Nat} (hX : X < 18446744073709551616) (hn : nan64 X = false) : add64V 9223372036854775808 X = X := by
  have hr : rung64 X ≤ 9218868437227405312 := by
    rw [nan64_rung] at hn
    have := of_decide_eq_false hn
    omega
  rcases Nat.lt_or_ge (rung64 X) 9218868437227405312 with fa | fa
  · have h := add_fin (x := 9223372036854775808) (y := X) (by decide) fa
    have hz : sval64 9223372036854775808 = 0 := by decide +kernel
    have hs : sgn64 9223372036854775808 = true := by decide
    rw [hz, hs, Int.zero_add] at h
    have e : wordOf (sg true (sgn64 X) (sval64 X)) (sval64 X) = X := by
      unfold wordOf
      rw [val_abs, rung_val64 fa]
      refine Eq.trans ?_ (word_of64 hX).symm
      congr 1
      unfold sg sval64
      cases sgn64 X
      · simp only [Bool.false_eq_true, if_false]
        split
        · rfl
        · exact decide_eq_false (by omega)
      · simp only [if_true]
        split
        · rfl
        · exact decide_eq_true (by omega)
    rw [e] at h
    have h' : ((Ieee.double.read 9223372036854775808).sum (Ieee.double.read X)).map Ieee.double.write = some X := h
    unfold add64V
    cases hd : (Ieee.double.read 9223372036854775808).sum (Ieee.double.read X) with
    | none => rw [hd] at h'; cases h'
    | some d =>
      rw [hd] at h'
      rw [told64_some (sum_num hd)]
      exact Option.some.inj h'
  · have fa : rung64 X = 9218868437227405312 := by omega
    unfold add64V
    rw [read_inf64 fa]
    have e : (Ieee.double.read 9223372036854775808).sum (.infinity (sgn64 X)) = some (.infinity (sgn64 X)) := by
      rw [show Ieee.double.read 9223372036854775808 = .number true 0 (-1074) by decide +kernel]; rfl
    rw [e, told64_some rfl, write_inf, ← fa]
    exact (word_of64 hX).symm
theorem told64_lt (o : Option Ieee.Datum) : told64 o < 18446744073709551616 := by
  cases o with
  | none => decide
  | some d =>
    cases d with
    | nan s t => show 9221120237041090560 < _; decide
    | infinity s => rw [told64_some rfl]; exact write64_lt _
    | number s m p => rw [told64_some rfl]; exact write64_lt _
theorem first_told (o : Option Ieee.Datum) : add64V 9223372036854775808 (told64 o) = told64 o := by
  cases o with
  | none => show add64V 9223372036854775808 9221120237041090560 = 9221120237041090560; decide +kernel
  | some d =>
    cases d with
    | nan s t => show add64V 9223372036854775808 9221120237041090560 = 9221120237041090560; decide +kernel
    | infinity s => rw [told64_some rfl]; exact first_num (write64_lt _) (nan64_write rfl)
    | number s m p => rw [told64_some rfl]; exact first_num (write64_lt _) (nan64_write rfl)
theorem prodV_lt (y : Int) (s : Nat) : prodV y s < 18446744073709551616 := told64_lt _
theorem first_prod (y : Int) (s : Nat) : add64V 9223372036854775808 (prodV y s) = prodV y s := first_told _
theorem dotF_pos {l : List Nat} (h : 0 < l.length) : dotF l = l.foldl add64V 9223372036854775808 := by
  unfold dotF
  rw [if_neg (fun e => by rw [e] at h; cases h)]
end Go.Proofs.YtnjagokojdpgpabDoor
/- The document's sums of products with weights, as samples, and its errors. -/
namespace Go.Proofs.YtnjagokojdpgpabDoor
open Go.RowKit
set_option linter.unusedVariables false
set_option linter.unusedSimpArgs false

/-- A 65536th of a number. -/
def scale16 : RNum → RNum
  | ⟨some (.inr (s, n, e, m))⟩ => .fin s n (e - 16) m
  | x => x
theorem quo_power64 (s : Bool) {m : Nat} (hm : m < 9007199254740992) (p q : Int) : ((Ieee.Datum.number s m p).quotient 54 (.number false 4503599627370496 q)).map Ieee.double.write = some (Ieee.double.word s (rungOf Ieee.double m (p - q - 52))) := by
  have hl2 : (4503599627370496 : Nat).log2 = 52 := by decide
  have hl : m.log2 ≤ 52 := by
    by_cases h0 : m = 0
    · subst h0; decide
    · have := (Nat.log2_lt h0).2 (show m < 2 ^ 53 from hm); omega
  obtain ⟨B, hB⟩ : ∃ B, B = 54 + (4503599627370496 : Nat).log2 - m.log2 := ⟨_, rfl⟩
  have hB1 : 54 ≤ B := by omega
  have em : (Ieee.Datum.number s m p).quotient 54 (.number false 4503599627370496 q) = some (.number (s ^^ false) (2 * ((m <<< B) / 4503599627370496) + ((m <<< B) % 4503599627370496 != 0).toNat) (p - q - (B : Int) - 1)) := by
    rw [hB]; simp [Ieee.Datum.quotient]
  have e1 : m <<< B = m * 2 ^ (B - 52) * 4503599627370496 := by
    rw [Nat.shiftLeft_eq, Nat.mul_assoc, show (4503599627370496 : Nat) = 2 ^ 52 from rfl, ← Nat.pow_add, show B - 52 + 52 = B by omega]
  rw [em, e1, Nat.mul_div_cancel _ (by decide), Nat.mul_mod_left, xor_f]
  show some (Ieee.double.nearest s (2 * (m * 2 ^ (B - 52)) + 0) (p - q - (B : Int) - 1)) = _
  rw [nearest_rung]
  refine congrArg (fun r => some (Ieee.double.word s r)) ?_
  have e2 : 2 * (m * 2 ^ (B - 52)) + 0 = m * 2 ^ (B - 51) := by
    rw [show B - 51 = (B - 52) + 1 by omega, Nat.pow_succ, Nat.add_zero, Nat.mul_comm 2, Nat.mul_assoc]
  rw [e2, rung_scale]
  congr 1; omega
theorem read_65536 : Ieee.double.read 4679240012837945344 = .number false 4503599627370496 (-36) := by decide +kernel
theorem over_link (D : Nat) : toldD (some (Ieee.double.read (roundD (scale16 (numOf Ieee.double D))))) = overW D := by
  have hq : floatBits .quo .f64 D 4679240012837945344 = ((Ieee.double.read D).quotient 54 (.number false 4503599627370496 (-36))).map Ieee.double.write := by
    rw [← read_65536]; rfl
  unfold overW
  rw [numOf_datum, hq]
  rcases Nat.lt_trichotomy (rung64 D) 9218868437227405312 with h | h | h
  · rw [read_fin64 h, quo_power64 _ (mag_lt64 _)]
    show toldD (some (Ieee.double.read (roundD (.fin (sgn64 D) (mag64 (rung64 D)) (-1074 + (plc64 (rung64 D) : Int) - 16) false)))) = toldD (some (Ieee.double.read (Ieee.double.word (sgn64 D) (rungOf Ieee.double (mag64 (rung64 D)) (-1074 + (plc64 (rung64 D) : Int) - -36 - 52)))))
    rw [roundD_fin', nearest_rung]
    congr 5
    omega
  · rw [read_inf64 h]
    show toldD (some (Ieee.double.read (Ieee.double.word (sgn64 D) 9218868437227405312))) = toldD (some (Ieee.double.read (Ieee.double.write (.infinity (sgn64 D ^^ false)))))
    rw [xor_f, write_inf]
  · rw [read_nan64 h]
    show toldD (some (Ieee.double.read 9221120237041090560)) = 2143289344
    decide +kernel
theorem fits16 (D : Nat) : fitsD (scale16 (numOf Ieee.double D)) := by
  have h := dblR_of D
  generalize numOf Ieee.double D = x at h
  cases x using RNum.rec3 with
  | nan => exact trivial
  | inf s => exact trivial
  | fin s n e m =>
    obtain ⟨h1, h2, h3, h4⟩ := h
    exact ⟨Nat.le_trans (blen_le (k := 53) h1) (by decide), by omega, by omega, fun h => by rw [h4] at h; cases h⟩
theorem lt16 (D : Nat) : roundD (scale16 (numOf Ieee.double D)) < 18446744073709551616 := by
  have h := dblR_of D
  generalize numOf Ieee.double D = x at h
  cases x using RNum.rec3 with
  | nan => show 9221120237041090560 < _; decide
  | inf s => show Ieee.double.word s 9218868437227405312 < _; rw [← write_inf]; exact write64_lt _
  | fin s n e m =>
    obtain ⟨h1, h2, h3, rfl⟩ := h
    show roundD (.fin s n (e - 16) false) < _
    rw [roundD_fin']
    exact write64_lt (.number s n (e - 16))
set_option maxHeartbeats 1000000 in
theorem dot_len (vw vl : Value) (W : List Int) (S : List Nat) (w : World) (hw : ISl w vw W) (hl : USl w vl S) (hn : S.length ≤ 35184372087808) (hn' : W.length ≤ 35184372087808) (he : W.length ≠ S.length) :
    Calls Tryd.prog 52 #[vw, vl] w fun e w' => e = .returned (.tuple #[.float .f64 0, .int .i64 30]) ∧ w' = w := by
  obtain ⟨aw, cw, rfl⟩ := hw.form
  obtain ⟨al, cl, rfl⟩ := hl.form
  have ne0 : ((W.length : Int) != (S.length : Int)) = true := by simp; omega
  clear hl hw he
  go_enter Tryd.func52, Tryd.ntmps52
  go_wp2_with fail
  go_ret2
  exact ⟨rfl, rfl⟩
/-- The weights that may be. -/
def Few (W : List Int) : Prop := ∀ i, i < W.length → W.getD i 0 ≤ 268435456 ∧ -268435456 ≤ W.getD i 0
def fewB (W : List Int) : Bool := (List.range W.length).all fun i => decide (W.getD i 0 ≤ 268435456) && decide (-268435456 ≤ W.getD i 0)
theorem fewB_iff (W : List Int) : fewB W = true ↔ Few W := by
  unfold fewB Few
  simp only [List.all_eq_true, List.mem_range, Bool.and_eq_true, decide_eq_true_eq]
/-- The error of a sum of products. -/
def dotE (W : List Int) (S : List Nat) : Int := if W.length ≠ S.length then 30 else if fewB W = true then 0 else 32
def dotA (W : List Int) (S : List Nat) : Nat := if dotE W S = 0 then dotF (prods W S) else 0
def dotB (W : List Int) (S : List Nat) : Nat := if dotE W S = 0 then overW (dotF (prods W S)) else 0
theorem dotF_lt {l : List Nat} : dotF l < 18446744073709551616 := by
  unfold dotF
  split
  · decide
  · rename_i h
    rcases List.eq_nil_or_concat l with e | ⟨m, x, e⟩
    · exact absurd e h
    · rw [e, List.concat_eq_append, List.foldl_append]
      exact add64V_lt _ _
theorem dotE_cases (W : List Int) (S : List Nat) : (W.length ≠ S.length ∧ dotE W S = 30) ∨ (W.length = S.length ∧ Few W ∧ dotE W S = 0) ∨ (W.length = S.length ∧ ¬ Few W ∧ dotE W S = 32) := by
  unfold dotE
  by_cases h : W.length = S.length
  · by_cases k : Few W
    · exact Or.inr (Or.inl ⟨h, k, by rw [if_neg (fun e => e h), if_pos ((fewB_iff W).2 k)]⟩)
    · exact Or.inr (Or.inr ⟨h, k, by rw [if_neg (fun e => e h), if_neg (fun e => k ((fewB_iff W).1 e))]⟩)
  · exact Or.inl ⟨h, by rw [if_pos h]⟩
section
variable (vw vl : Value) (W : List Int) (S : List Nat) (w : World)
theorem dot64_all (hw : ISl w vw W) (hl : USl w vl S) (hn : S.length ≤ 35184372087808) (hn' : W.length ≤ 35184372087808) (hb : ∀ i, S.getD i 0 < 4294967296) : Calls Tryd.prog 29 #[vw, vl] w fun e w' => e = .returned (.tuple #[.int .u64 (dotA W S : Nat), .int .i64 (dotE W S)]) ∧ Q w w' := by
  unfold dotA
  rcases dotE_cases W S with ⟨h, e⟩ | ⟨h, k, e⟩ | ⟨h, k, e⟩ <;> rw [e]
  · refine (dot64_err (E := 30) (by decide) (dot_len vw vl W S w hw hl hn hn' h)).mono ?_
    rintro _ _ ⟨rfl, rfl⟩
    exact ⟨rfl, Q.refl _⟩
  · exact dot64_of (dot_gen vw vl W S w hw hl hn h hb k)
  · refine (dot64_err (E := 32) (by decide) (dot_bad vw vl W S w hw hl hn h k)).mono ?_
    rintro _ _ ⟨rfl, rfl⟩
    exact ⟨rfl, Q.refl _⟩
theorem dot_all (hw : ISl w vw W) (hl : USl w vl S) (hn : S.length ≤ 35184372087808) (hn' : W.length ≤ 35184372087808) (hb : ∀ i, S.getD i 0 < 4294967296) : Calls Tryd.prog 35 #[vw, vl] w fun e w' => e = .returned (.tuple #[.int .u32 (dotB W S : Nat), .int .i64 (dotE W S)]) ∧ Q w w' := by
  unfold dotB
  rcases dotE_cases W S with ⟨h, e⟩ | ⟨h, k, e⟩ | ⟨h, k, e⟩ <;> rw [e]
  · refine (dot_err (E := 30) (by decide) (dot_len vw vl W S w hw hl hn hn' h)).mono ?_
    rintro _ _ ⟨rfl, rfl⟩
    exact ⟨rfl, Q.refl _⟩
  · exact dot_of (dot_gen vw vl W S w hw hl hn h hb k)
  · refine (dot_err (E := 32) (by decide) (dot_bad vw vl W S w hw hl hn h k)).mono ?_
    rintro _ _ ⟨rfl, rfl⟩
    exact ⟨rfl, Q.refl _⟩
end
end Go.Proofs.YtnjagokojdpgpabDoor
/- The statement SumsWhole: one sample, with whole weights, summed in binary64. -/
namespace Go.Proofs.YtnjagokojdpgpabDoor
open Go.RowKit
set_option linter.unusedVariables false
set_option linter.unusedSimpArgs false

theorem X_form {x : Nat} (h : rung32 x < 2139095040) : ∃ m g, (sampleZ x).natAbs = m * 2 ^ g ∧ m < 2 ^ 24 ∧ g ≤ 1178 :=
  ⟨mag32 (rung32 x), plc32 (rung32 x) + 925, signed_abs _ _ _, mag_lt32 _, by have := plc_le32 h; omega⟩
/-- A word of binary64 that is worth k times a sample's X. -/
def IsD (X k : Int) (W : Nat) : Prop := W < 18446744073709551616 ∧ rung64 W = rungOf Ieee.double (k * X).natAbs (-1074) ∧ (k * X ≠ 0 → sgn64 W = decide (k * X < 0))
theorem word_lt64 (s : Bool) (r : Nat) (h : r ≤ 9218868437227405312) : Ieee.double.word s r < 18446744073709551616 := by
  unfold Ieee.Format.word
  rw [show Ieee.double.signWeight = 9223372036854775808 by decide]
  cases s <;> simp <;> omega
theorem rung_le64' (M : Nat) (p : Int) : rungOf Ieee.double M p ≤ 9218868437227405312 := rungOf_le _ _ _
theorem IsD.mk {X k : Int} {s : Bool} (h : k * X ≠ 0 → s = decide (k * X < 0)) : IsD X k (Ieee.double.word s (rungOf Ieee.double (k * X).natAbs (-1074))) := by
  have hr := rung_le64' (k * X).natAbs (-1074)
  obtain ⟨h1, h2⟩ := sgn_word64 s (r := rungOf Ieee.double (k * X).natAbs (-1074)) (by omega)
  exact ⟨word_lt64 _ _ hr, h2, fun g => by rw [h1]; exact h g⟩
theorem kX_val {X k : Int} {m g : Nat} (hX : X.natAbs = m * 2 ^ g) (hm : m < 2 ^ 24) (hg : g ≤ 1178) (hk : k.natAbs ≤ 2 ^ 28) : val64 (rungOf Ieee.double (k * X).natAbs (-1074)) = (k * X).natAbs ∧ rungOf Ieee.double (k * X).natAbs (-1074) < 9218868437227405312 := by
  have e : (k * X).natAbs = k.natAbs * m * 2 ^ g := by rw [Int.natAbs_mul, hX, Nat.mul_assoc]
  have hkm : k.natAbs * m < 2 ^ 53 := Nat.lt_of_le_of_lt (Nat.mul_le_mul hk (Nat.le_of_lt hm)) (by decide)
  have hb : (k * X).natAbs < 2 ^ (53 + g) := by rw [e, Nat.pow_add]; exact Nat.mul_lt_mul_of_pos_right hkm (Nat.two_pow_pos g)
  have hlog : (k * X).natAbs.log2 ≤ 2000 := by
    by_cases h0 : (k * X).natAbs = 0
    · rw [h0]; decide
    · have := (Nat.log2_lt h0).2 hb; omega
  have hv := vN_exact (M := (k * X).natAbs) (g := g) hlog ⟨k.natAbs * m, by rw [e, Nat.mul_comm]⟩ hb
  refine ⟨hv, ?_⟩
  refine val_inj_lt64.1 ?_
  rw [hv]
  refine Nat.lt_of_lt_of_le hb ?_
  show 2 ^ (53 + g) ≤ mag64 9218868437227405312 * 2 ^ plc64 9218868437227405312
  obtain ⟨P, hP, hP2⟩ : ∃ P, plc64 9218868437227405312 = P ∧ 2046 ≤ P := ⟨_, rfl, by decide⟩
  rw [show mag64 9218868437227405312 = 2 ^ 52 by decide, hP, ← Nat.pow_add]
  exact Nat.pow_le_pow_right (by decide) (by omega)
theorem IsD.sval {X k : Int} {W m g : Nat} (h : IsD X k W) (hX : X.natAbs = m * 2 ^ g) (hm : m < 2 ^ 24) (hg : g ≤ 1178) (hk : k.natAbs ≤ 2 ^ 28) : rung64 W < 9218868437227405312 ∧ sval64 W = k * X := by
  obtain ⟨hv, hr⟩ := kX_val hX hm hg hk
  obtain ⟨_, h1, h2⟩ := h
  rw [← h1] at hv hr
  refine ⟨hr, ?_⟩
  unfold sval64
  rw [hv]
  by_cases h0 : k * X = 0
  · rw [h0]; simp
  · rw [h2 h0]
    by_cases hn : k * X < 0
    · rw [if_pos (decide_eq_true hn)]; omega
    · rw [if_neg (by simpa using hn)]; omega
theorem sval_signed64 (a : Nat) : sval64 a = Ieee.signed (sgn64 a) (mag64 (rung64 a)) (plc64 (rung64 a)) := by
  unfold sval64 val64; rw [signed_eq]
theorem told64_num (s : Bool) (N : Nat) (b : Int) : told64 (some (.number s N b)) = Ieee.double.word s (rungOf Ieee.double N b) := nearest_rung _ _ _ _
theorem IsD.add {X a b : Int} {A B m g : Nat} (hA : IsD X a A) (hB : IsD X b B) (hX : X.natAbs = m * 2 ^ g) (hm : m < 2 ^ 24) (hg : g ≤ 1178) (ha : a.natAbs ≤ 2 ^ 28) (hb : b.natAbs ≤ 2 ^ 28) : IsD X (a + b) (add64V A B) := by
  obtain ⟨a1, a2⟩ := hA.sval hX hm hg ha
  obtain ⟨b1, b2⟩ := hB.sval hX hm hg hb
  unfold add64V
  rw [read_fin64 a1, read_fin64 b1]
  obtain ⟨N, c, e1, e2⟩ := sum_units (sgn64 A) (sgn64 B) (mag64 (rung64 A)) (mag64 (rung64 B)) (-1074 + (plc64 (rung64 A) : Int)) (-1074 + (plc64 (rung64 B) : Int)) (by omega) (by omega)
  rw [show (-1074 + (plc64 (rung64 A) : Int) + 1074).toNat = plc64 (rung64 A) by omega, show (-1074 + (plc64 (rung64 B) : Int) + 1074).toNat = plc64 (rung64 B) by omega, ← sval_signed64, ← sval_signed64, a2, b2, ← Int.add_mul] at e1 e2
  rw [e1, told64_num, e2]
  exact IsD.mk fun h => sg_of h
theorem IsD.nought (X : Int) : IsD X 0 9223372036854775808 := by
  refine ⟨by decide, ?_, fun h => absurd (Int.zero_mul X) h⟩
  rw [Int.zero_mul]
  show _ = rungOf Ieee.double 0 (-1074)
  rw [rungOf_zero]
  decide
theorem IsD.prod {x : Nat} (h : rung32 x < 2139095040) {y : Int} (h0 : y ≤ 268435456) (h1 : -268435456 ≤ y) : IsD (sampleZ x) y (prodV y x) := by
  obtain ⟨j, p, hr, hp⟩ := read_weight h0 h1
  rcases wideW_cases x with ⟨hn, _⟩ | ⟨hi, _⟩ | ⟨_, _, M, P, hw, hP, hs⟩
  · rw [nanN_rung] at hn; have := of_decide_eq_true hn; omega
  · omega
  · unfold prodV
    rw [hr, hw]
    have he : (Ieee.Datum.number (decide (y < 0)) (y.natAbs * 2 ^ j) p).product (.number (sgn32 x) M P) = some (.number (decide (y < 0) ^^ sgn32 x) (y.natAbs * 2 ^ j * M) (p + P)) := rfl
    rw [he, told64_num]
    have hX : (sampleZ x).natAbs = M * 2 ^ (P + 1074).toNat := by rw [← hs]; exact signed_abs _ _ _
    have hrung : rungOf Ieee.double (y.natAbs * 2 ^ j * M) (p + P) = rungOf Ieee.double (y * sampleZ x).natAbs (-1074) := by
      rw [Int.natAbs_mul, hX]
      by_cases hy : y = 0
      · subst hy; simp [rungOf_zero]
      · rw [hp hy, show y.natAbs * 2 ^ j * M = y.natAbs * M * 2 ^ j by rw [Nat.mul_assoc, Nat.mul_comm (2 ^ j), ← Nat.mul_assoc], rung_scale, ← Nat.mul_assoc, rung_scale]
        congr 1
        omega
    rw [hrung]
    refine IsD.mk fun hne => ?_
    have hs0 : sampleZ x ≠ 0 := fun e => hne (by rw [e, Int.mul_zero])
    have hy0 : y ≠ 0 := fun e => hne (by rw [e, Int.zero_mul])
    have hsx : sgn32 x = decide (sampleZ x < 0) := signed_sign (s := sgn32 x) (m := mag32 (rung32 x)) (k := plc32 (rung32 x) + 925) hs0
    rw [hsx]
    generalize sampleZ x = X at *
    rcases Int.lt_trichotomy y 0 with g | g | g
    · rcases Int.lt_trichotomy X 0 with k | k | k
      · have := Int.mul_pos_of_neg_of_neg g k
        rw [decide_eq_true g, decide_eq_true k, decide_eq_false (by omega)]; rfl
      · exact absurd k hs0
      · have := Int.mul_neg_of_neg_of_pos g k
        rw [decide_eq_true g, decide_eq_false (by omega), decide_eq_true this]; rfl
    · exact absurd g hy0
    · rcases Int.lt_trichotomy X 0 with k | k | k
      · have := Int.mul_neg_of_pos_of_neg g k
        rw [decide_eq_false (by omega), decide_eq_true k, decide_eq_true this]; rfl
      · exact absurd k hs0
      · have := Int.mul_pos g k
        rw [decide_eq_false (by omega), decide_eq_false (by omega), decide_eq_false (by omega)]; rfl
theorem IsD.same {X k : Int} {A B : Nat} (hA : IsD X k A) (hB : IsD X k B) : A = B ∨ (A % 9223372036854775808 = 0 ∧ B % 9223372036854775808 = 0) := by
  obtain ⟨a0, a1, a2⟩ := hA
  obtain ⟨b0, b1, b2⟩ := hB
  have hr : A % 9223372036854775808 = B % 9223372036854775808 := a1.trans b1.symm
  by_cases h : k * X = 0
  · right
    rw [h, show (0 : Int).natAbs = 0 from rfl, rungOf_zero] at a1 b1
    exact ⟨a1, b1⟩
  · left
    have hs := (a2 h).trans (b2 h).symm
    unfold sgn64 at hs
    have hA2 : A / 9223372036854775808 % 2 = A / 9223372036854775808 := by omega
    have hB2 : B / 9223372036854775808 % 2 = B / 9223372036854775808 := by omega
    rw [hA2, hB2] at hs
    have : A / 9223372036854775808 = B / 9223372036854775808 := by
      have hA3 : A / 9223372036854775808 = 0 ∨ A / 9223372036854775808 = 1 := by omega
      have hB3 : B / 9223372036854775808 = 0 ∨ B / 9223372036854775808 = 1 := by omega
      rcases hA3 with e | e <;> rcases hB3 with f | f <;> rw [e, f] at hs ⊢ <;> first | rfl | (exact absurd hs (by decide))
    omega
theorem fold_D {X : Int} {m g : Nat} (hX : X.natAbs = m * 2 ^ g) (hm : m < 2 ^ 24) (hg : g ≤ 1178) : ∀ (l : List (Int × Nat)) (z : Int) (A : Nat), IsD X z A → (∀ p ∈ l, IsD X p.1 p.2) → z.natAbs + sizeL (l.map Prod.fst) ≤ 2 ^ 28 → IsD X (z + (l.map Prod.fst).sum) ((l.map Prod.snd).foldl add64V A)
  | [], z, A, hA, _, _ => by simpa using hA
  | p :: t, z, A, hA, hl, hs => by
    rw [List.map_cons, sizeL_cons] at hs
    rw [List.map_cons, List.map_cons, List.foldl_cons, List.sum_cons, ← Int.add_assoc]
    exact fold_D hX hm hg t (z + p.1) _ (hA.add (hl p (List.mem_cons_self ..)) hX hm hg (by omega) (by omega)) (fun q hq => hl q (List.mem_cons_of_mem _ hq)) (by omega)
end Go.Proofs.YtnjagokojdpgpabDoor
