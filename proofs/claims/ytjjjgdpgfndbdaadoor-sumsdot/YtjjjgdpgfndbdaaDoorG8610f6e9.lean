/- The document's sums of products with weights: one product. -/
import Derived.Test.YtjjjgdpgfndbdaaDoorG9d835bff
import Derived.Test.YtjjjgdpgfndbdaaDoorGa54f7c1b
namespace Go.Proofs.YtjjjgdpgfndbdaaDoor
open Go.RowKit
set_option linter.unusedVariables false
set_option linter.unusedSimpArgs false

/-- A weight as a number. -/
def numW (y : Int) : RNum := .fin (decide (y < 0)) y.natAbs 0 false
theorem numW_wide {y : Int} (h0 : y ≤ 268435456) (h1 : -268435456 ≤ y) : wideR (numW y) := ⟨by omega, by omega, by omega, rfl, fun _ => by omega⟩
theorem numOf_wide (s : Nat) : wideR (numOf Ieee.double (wideW s)) := by rw [numOf_datum]; exact wideR_of s
/-- A weight as a binary64. -/
theorem read_weight {y : Int} (h0 : y ≤ 268435456) (h1 : -268435456 ≤ y) : ∃ j : Nat, ∃ p : Int, Ieee.double.read (floatOfInt .f64 y) = .number (decide (y < 0)) (y.natAbs * 2 ^ j) p ∧ (y ≠ 0 → p = -(j : Int)) := by
  by_cases hy : y = 0
  · subst hy
    exact ⟨0, -1074, by decide +kernel, fun h => absurd rfl h⟩
  · have hne : y.natAbs ≠ 0 := by omega
    have a0 := Nat.log2_self_le hne
    have a1 : y.natAbs < 2 ^ (y.natAbs.log2 + 1) := Nat.lt_log2_self
    have aL : y.natAbs.log2 ≤ 52 := by
      have := (Nat.log2_lt hne).2 (Nat.lt_of_le_of_lt (show y.natAbs ≤ 268435456 by omega) (show 268435456 < 2 ^ 53 by decide))
      omega
    have e1 : floatOfInt .f64 y = Ieee.double.nearest (decide (y < 0)) y.natAbs 0 := rfl
    generalize y.natAbs.log2 = M at *
    have e2 := nearest_exact (neg := decide (y < 0)) (k := 0) (p := 0) a0 a1 aL (by omega) (by omega)
    rw [Nat.pow_zero, Nat.mul_one] at e2
    have b1 : y.natAbs * 2 ^ (52 - M) < 9007199254740992 := by
      have := Nat.mul_lt_mul_of_pos_right a1 (Nat.two_pow_pos (52 - M))
      rw [← Nat.pow_add, show M + 1 + (52 - M) = 53 by omega] at this
      exact this
    have b0 : 4503599627370496 ≤ y.natAbs * 2 ^ (52 - M) := by
      have := Nat.mul_le_mul_right (2 ^ (52 - M)) a0
      rw [← Nat.pow_add, show M + (52 - M) = 52 by omega] at this
      exact this
    refine ⟨52 - M, 0 + ((0 : Nat) : Int) + M - 52, ?_, fun _ => by omega⟩
    rw [e1, e2, read_wd b0 b1 (by omega) (by omega)]
theorem prod_link {y : Int} (h0 : y ≤ 268435456) (h1 : -268435456 ≤ y) {s : Nat} : roundD (timesR (numW y) (numOf Ieee.double (wideW s))) = prodV y s := by
  obtain ⟨j, p, hr, hp⟩ := read_weight h0 h1
  unfold prodV numW
  rw [hr, numOf_datum, told64_eq]
  cases Ieee.double.read (wideW s) with
  | nan t u => rfl
  | infinity t =>
    show roundD (if zeroB (.fin (decide (y < 0)) y.natAbs 0 false) = true then .nan else .inf (decide (y < 0) != t)) = toldW (if y.natAbs * 2 ^ j = 0 then none else some (.infinity (t ^^ decide (y < 0))))
    rw [zeroB_fin]
    by_cases hy : y.natAbs = 0
    · rw [decide_eq_true hy, if_pos rfl, if_pos (by rw [hy, Nat.zero_mul])]
      rfl
    · have : y.natAbs * 2 ^ j ≠ 0 := Nat.mul_ne_zero hy (Nat.ne_of_gt (Nat.two_pow_pos j))
      rw [decide_eq_false hy, if_neg (by decide), if_neg this]
      show Ieee.double.word (decide (y < 0) != t) 9218868437227405312 = Ieee.double.write (.infinity (t ^^ decide (y < 0)))
      rw [show Ieee.double.write (.infinity (t ^^ decide (y < 0))) = Ieee.double.word (t ^^ decide (y < 0)) Ieee.double.infRung from rfl, double_inf]
      congr 1
      cases t <;> cases decide (y < 0) <;> rfl
  | number t n q =>
    show roundD (.fin (decide (y < 0) != t) (y.natAbs * n) (0 + q) false) = toldW (some (.number (decide (y < 0) ^^ t) (y.natAbs * 2 ^ j * n) (p + q)))
    rw [roundD_fin']
    show _ = Ieee.double.nearest (decide (y < 0) ^^ t) (y.natAbs * 2 ^ j * n) (p + q)
    rw [nearest_rung, nearest_rung, bne_xor]
    congr 1
    by_cases hy : y = 0
    · subst hy
      show rungOf Ieee.double (0 * n) _ = rungOf Ieee.double (0 * 2 ^ j * n) _
      rw [Nat.zero_mul, Nat.zero_mul, Nat.zero_mul]
      rw [show rungOf Ieee.double 0 (0 + q) = 0 from rungOf_zero _ _, show rungOf Ieee.double 0 (p + q) = 0 from rungOf_zero _ _]
    · rw [hp hy, show y.natAbs * 2 ^ j * n = y.natAbs * n * 2 ^ j by rw [Nat.mul_assoc, Nat.mul_comm (2 ^ j), ← Nat.mul_assoc], rung_scale]
      congr 1
      omega
theorem box_zero (w : World) (j : Nat) (hj : j < 5) : (w.alloc (Obj.cells #[.int .i64 0, .bool false, .slice none 0 0, .int .i64 0, .bool false] 80)).cell? ⟨w.heap.size, j, none⟩ = (#[.int .i64 0, .bool false, .slice none 0 0, .int .i64 0, .bool false] : Array Value)[j]? := by
  rcases j with _ | _ | _ | _ | _ | j
  · simp [go_sem]
  · simp [go_sem]
  · simp [go_sem]
  · simp [go_sem]
  · simp [go_sem]
  · omega
set_option maxHeartbeats 1000000 in
theorem wnum_any (y : Int) (h0 : y ≤ 268435456) (h1 : -268435456 ≤ y) (w : World) : Calls Tryd.prog 52 #[.int .i64 y] w fun e w' => ∃ v, e = .returned v ∧ NumAt w' v (numW y) ∧ Q w w' := by
  unfold numW
  by_cases hy : y < 0
  · obtain ⟨n, rfl⟩ : ∃ n : Nat, y = -(n : Int) := ⟨y.natAbs, by omega⟩
    rw [decide_eq_true hy, show (-(n : Int)).natAbs = n by omega]
    have ew : IntKind.u64.wrap (n : Int) = (n : Int) := by rw [IntKind.wrap_u64]; omega
    go_enter Tryd.func52, Tryd.ntmps52
    go_wp2_with fail
    refine (natof_nat n _ (by omega)).mono ?_
    rintro e w1 ⟨v, rfl, hv, q1⟩
    obtain ⟨p, b, M, C, rfl, hI⟩ := hv
    have HI : Hid (NatIs w1 p b M n) := hI
    have r0 := q1.cell (box_zero w 0 (by decide))
    have r1 := q1.cell (box_zero w 1 (by decide))
    have r2 := q1.cell (box_zero w 2 (by decide))
    have r3 := q1.cell (box_zero w 3 (by decide))
    have r4 := q1.cell (box_zero w 4 (by decide))
    have zf : ∀ j, w1.frozen? ⟨w.heap.size, j, none⟩ = false := fun j => by rw [q1.2]; simp [go_sem]
    have HQ : Hid (Q w w1) := ((Q.refl w).cells _ _).trans q1
    clear hI q1
    go_wp2_with fail
    refine bodyPost_ret (v := .agg #[.int .i64 2, .bool true, .slice p M C, .int .i64 0, .bool false]) (by simp [results, Tryd.results52, go_sem, r0, r1, r2, r3, r4]) rfl ?_
    refine ⟨_, rfl, ⟨_, rfl, p, b, M, C, rfl, ?_⟩, ?_⟩
    · have hB : ∀ i, i < M → b ≠ w.heap.size := fun i hi e => by
        have h1 := HI.out.cell 0 (by omega)
        rw [e, r0] at h1
        cases h1
      refine ⟨HI.out.ptr, fun i hi => ?_, HI.out.hi, HI.out.lo, HI.out.len⟩
      have hb := hB i hi
      have hn : ∀ k, (⟨w.heap.size, k, none⟩ : Addr) ≠ ⟨b, i, none⟩ := fun k e => hb (by injection e with e; exact e.symm)
      simp only [World.cell?_setCell_other _ _ _ _ (hn _)]
      exact HI.out.cell i hi
    · exact ((((HQ.out.set (Nat.le_refl _) _).set (Nat.le_refl _) _).set (Nat.le_refl _) _).set (Nat.le_refl _) _).set (Nat.le_refl _) _
  · obtain ⟨n, rfl⟩ : ∃ n : Nat, y = (n : Int) := ⟨y.natAbs, by omega⟩
    rw [decide_eq_false hy, show ((n : Int)).natAbs = n by omega]
    have ew : IntKind.u64.wrap (n : Int) = (n : Int) := by rw [IntKind.wrap_u64]; omega
    go_enter Tryd.func52, Tryd.ntmps52
    go_wp2_with fail
    refine (natof_nat n _ (by omega)).mono ?_
    rintro e w1 ⟨v, rfl, hv, q1⟩
    obtain ⟨p, b, M, C, rfl, hI⟩ := hv
    have HI : Hid (NatIs w1 p b M n) := hI
    have r0 := q1.cell (box_zero w 0 (by decide))
    have r1 := q1.cell (box_zero w 1 (by decide))
    have r2 := q1.cell (box_zero w 2 (by decide))
    have r3 := q1.cell (box_zero w 3 (by decide))
    have r4 := q1.cell (box_zero w 4 (by decide))
    have zf : ∀ j, w1.frozen? ⟨w.heap.size, j, none⟩ = false := fun j => by rw [q1.2]; simp [go_sem]
    have HQ : Hid (Q w w1) := ((Q.refl w).cells _ _).trans q1
    clear hI q1
    go_wp2_with fail
    refine bodyPost_ret (v := .agg #[.int .i64 2, .bool false, .slice p M C, .int .i64 0, .bool false]) (by simp [results, Tryd.results52, go_sem, r0, r1, r2, r3, r4]) rfl ?_
    refine ⟨_, rfl, ⟨_, rfl, p, b, M, C, rfl, ?_⟩, ?_⟩
    · have hB : ∀ i, i < M → b ≠ w.heap.size := fun i hi e => by
        have h1 := HI.out.cell 0 (by omega)
        rw [e, r0] at h1
        cases h1
      refine ⟨HI.out.ptr, fun i hi => ?_, HI.out.hi, HI.out.lo, HI.out.len⟩
      have hb := hB i hi
      have hn : ∀ k, (⟨w.heap.size, k, none⟩ : Addr) ≠ ⟨b, i, none⟩ := fun k e => hb (by injection e with e; exact e.symm)
      simp only [World.cell?_setCell_other _ _ _ _ (hn _)]
      exact HI.out.cell i hi
    · exact ((((HQ.out.set (Nat.le_refl _) _).set (Nat.le_refl _) _).set (Nat.le_refl _) _).set (Nat.le_refl _) _).set (Nat.le_refl _) _
section
variable {P : Program} {ρ : Operand → Value} {x : World} {d : Option Tmp} {ty : TypeId} {ps : String} {af : Array Edge} {g : Option (Nat × Bool)}
theorem run_ixu {j k gg o Lw cap i : Nat} (h : ρ (.tmp j) = .slice (some ⟨gg, o, none⟩) Lw cap) (h' : ρ (.tmp k) = .int .i64 (i : Nat)) (hi : i < Lw) : (execOp ρ { dst := d, op := .indexAddr 23 (.tmp j) (.tmp k), type := ty, pos := ps, after := af, guard := g }).run Tryd.prog x = .ok (.value (.pointer (some ⟨gg, o + i, none⟩))) x := by
  simp [execOp, h, h', go_sem, hi]
theorem run_ldu {j : Nat} {p : Addr} {v : Value} (h : ρ (.tmp j) = .pointer (some p)) (c : x.cell? p = some v) : (execOp ρ { dst := d, op := .load 25 (.tmp j), type := ty, pos := ps, after := af, guard := g }).run Tryd.prog x = .ok (.value v) x := by
  simp [execOp, h, go_sem, c]
end
def oDR_0 : Oper := { dst := some 41, op := .load 75 (.tmp 7), type := 75, pos := "halideref3.go:191", after := #[], guard := none }
def oDR_1 : Oper := { dst := some 42, op := .move (.tmp 0), type := 31, pos := "halideref3.go:191", after := #[], guard := none }
def oDR_2 : Oper := { dst := some 43, op := .move (.tmp 9), type := 3, pos := "halideref3.go:191", after := #[], guard := none }
def oDR_3 : Oper := { dst := some 44, op := .indexAddr 31 (.tmp 42) (.tmp 43), type := 0, pos := "halideref3.go:191", after := #[⟨1, .data⟩, ⟨2, .data⟩], guard := none }
def oDR_4 : Oper := { dst := some 45, op := .load 3 (.tmp 44), type := 3, pos := "halideref3.go:191", after := #[⟨3, .data⟩], guard := none }
def oDR_5 : Oper := { dst := some 46, op := .call { callee := .value (.func 52), args := #[.tmp 45], argTypes := #[3] }, type := 80, pos := "halideref3.go:191", after := #[⟨4, .data⟩], guard := none }
def oDR_6 : Oper := { dst := some 47, op := .load 75 (.tmp 7), type := 75, pos := "halideref3.go:191", after := #[], guard := none }
def oDR_7 : Oper := { dst := some 48, op := .move (.tmp 1), type := 23, pos := "halideref3.go:191", after := #[], guard := none }
def oDR_8 : Oper := { dst := some 49, op := .move (.tmp 9), type := 3, pos := "halideref3.go:191", after := #[], guard := none }
def oDR_9 : Oper := { dst := some 50, op := .indexAddr 23 (.tmp 48) (.tmp 49), type := 0, pos := "halideref3.go:191", after := #[⟨7, .data⟩, ⟨8, .data⟩], guard := none }
def oDR_10 : Oper := { dst := some 51, op := .load 25 (.tmp 50), type := 25, pos := "halideref3.go:191", after := #[⟨9, .data⟩], guard := none }
def oDR_11 : Oper := { dst := some 52, op := .call { callee := .value (.func 42), args := #[.tmp 51], argTypes := #[25] }, type := 27, pos := "halideref3.go:191", after := #[⟨10, .data⟩, ⟨5, .chain⟩], guard := none }
def oDR_12 : Oper := { dst := some 53, op := .call { callee := .value (.func 53), args := #[.tmp 47, .tmp 52], argTypes := #[75, 27] }, type := 80, pos := "halideref3.go:191", after := #[⟨6, .data⟩, ⟨11, .data⟩, ⟨11, .chain⟩], guard := none }
def oDR_13 : Oper := { dst := some 54, op := .call { callee := .value (.func 51), args := #[.tmp 46, .tmp 53], argTypes := #[80, 80] }, type := 80, pos := "halideref3.go:191", after := #[⟨5, .data⟩, ⟨12, .data⟩, ⟨12, .chain⟩], guard := none }
def oDR_14 : Oper := { dst := some 55, op := .call { callee := .value (.func 50), args := #[.tmp 41, .tmp 54], argTypes := #[75, 80] }, type := 27, pos := "halideref3.go:191", after := #[⟨0, .data⟩, ⟨13, .data⟩, ⟨13, .chain⟩], guard := none }
def oDR_15 : Oper := { dst := some 10, op := .assign (.tmp 55), type := 27, pos := "halideref3.go:191", after := #[⟨14, .data⟩, ⟨14, .chain⟩, ⟨0, .phase⟩, ⟨1, .phase⟩, ⟨2, .phase⟩, ⟨3, .phase⟩, ⟨4, .phase⟩, ⟨5, .phase⟩, ⟨6, .phase⟩, ⟨7, .phase⟩, ⟨8, .phase⟩, ⟨9, .phase⟩, ⟨10, .phase⟩, ⟨11, .phase⟩, ⟨12, .phase⟩, ⟨13, .phase⟩, ⟨14, .phase⟩], guard := none }
def opsDR : List Oper := [oDR_0, oDR_1, oDR_2, oDR_3, oDR_4, oDR_5, oDR_6, oDR_7, oDR_8, oDR_9, oDR_10, oDR_11, oDR_12, oDR_13, oDR_14, oDR_15]
def sDR : List Nat := [41, 42, 43, 44, 45, 46, 47, 48, 49, 50, 51, 52, 53, 54, 55]
def spDR (gb ob ib Lw cw gl ol Ll cl Vf : Nat) (y : Int) (s : Nat) : List Spec := [spV formV, spV (.slice (some ⟨gb, ob, none⟩) Lw cw), spV (.int .i64 (ib : Nat)), spV (.pointer (some ⟨gb, ob + ib, none⟩)), spV (.int .i64 y), numD (numW y), spV formV, spV (.slice (some ⟨gl, ol, none⟩) Ll cl), spV (.int .i64 (ib : Nat)), spV (.pointer (some ⟨gl, ol + ib, none⟩)), spV (.int .u32 (s : Nat)), spV (.int .u64 (wideW s : Nat)), numD (numOf Ieee.double (wideW s)), numD (timesR (numW y) (numOf Ieee.double (wideW s))), spV (.int .u64 (prodV y s : Nat))]
structure EnvDR (a0 : Act) (w : World) (gb ob ib Lw cw gl ol Ll cl Vf : Nat) (y : Int) (s : Nat) : Prop where
  h0 : a0.tmps[0]? = some (.slice (some ⟨gb, ob, none⟩) Lw cw)
  h1 : a0.tmps[1]? = some (.slice (some ⟨gl, ol, none⟩) Ll cl)
  h7 : a0.tmps[7]? = some (ptrV Vf)
  h9 : a0.tmps[9]? = some (.int .i64 (ib : Nat))
  fb : FBox w Vf
  hi : ib < Lw
  hl : ib < Ll
  c : w.cell? ⟨gb, ob + ib, none⟩ = some (.int .i64 y)
  d : w.cell? ⟨gl, ol + ib, none⟩ = some (.int .u32 (s : Nat))
  hs : s < 4294967296
  y0 : y ≤ 268435456
  y1 : -268435456 ≤ y
theorem yDR_0 {a0 : Act} {w : World} {gb ob ib Lw cw gl ol Ll cl Vf : Nat} {y : Int} {s : Nat} (E : EnvDR a0 w gb ob ib Lw cw gl ol Ll cl Vf y s) {R : Exit → Act → World → Prop} {a : Act} {x : World} (q : Q w x) (oth : ∀ j, j ∉ sDR → a.tmps[j]? = a0.tmps[j]?) (dep : ∀ ed ∈ oDR_0.after, Region.binds .any ed = true → ∀ t', sDR[ed.on]? = some t' → ∃ v, a.tmps[t']? = some v ∧ specAt (spDR gb ob ib Lw cw gl ol Ll cl Vf y s) ed.on v x) : Yld Tryd.prog R oDR_0 a x 41 (fun v x' => specAt (spDR gb ob ib Lw cw gl ol Ll cl Vf y s) 0 v x' ∧ (0 ∈ ([] : List Nat) → v = ptrV x.heap.size)) := by
  exact yld_run (x' := x) rfl (run_form (tmp_eval ((oth 7 (by decide)).trans E.h7)) (E.fb.next q)) (Q.refl x) ⟨rfl, fun h => absurd h (by decide)⟩
theorem yDR_1 {a0 : Act} {w : World} {gb ob ib Lw cw gl ol Ll cl Vf : Nat} {y : Int} {s : Nat} (E : EnvDR a0 w gb ob ib Lw cw gl ol Ll cl Vf y s) {R : Exit → Act → World → Prop} {a : Act} {x : World} (q : Q w x) (oth : ∀ j, j ∉ sDR → a.tmps[j]? = a0.tmps[j]?) (dep : ∀ ed ∈ oDR_1.after, Region.binds .any ed = true → ∀ t', sDR[ed.on]? = some t' → ∃ v, a.tmps[t']? = some v ∧ specAt (spDR gb ob ib Lw cw gl ol Ll cl Vf y s) ed.on v x) : Yld Tryd.prog R oDR_1 a x 42 (fun v x' => specAt (spDR gb ob ib Lw cw gl ol Ll cl Vf y s) 1 v x' ∧ (1 ∈ ([] : List Nat) → v = ptrV x.heap.size)) := by
  exact yld_move ((oth 0 (by decide)).trans E.h0) ⟨rfl, fun h => absurd h (by decide)⟩
theorem yDR_2 {a0 : Act} {w : World} {gb ob ib Lw cw gl ol Ll cl Vf : Nat} {y : Int} {s : Nat} (E : EnvDR a0 w gb ob ib Lw cw gl ol Ll cl Vf y s) {R : Exit → Act → World → Prop} {a : Act} {x : World} (q : Q w x) (oth : ∀ j, j ∉ sDR → a.tmps[j]? = a0.tmps[j]?) (dep : ∀ ed ∈ oDR_2.after, Region.binds .any ed = true → ∀ t', sDR[ed.on]? = some t' → ∃ v, a.tmps[t']? = some v ∧ specAt (spDR gb ob ib Lw cw gl ol Ll cl Vf y s) ed.on v x) : Yld Tryd.prog R oDR_2 a x 43 (fun v x' => specAt (spDR gb ob ib Lw cw gl ol Ll cl Vf y s) 2 v x' ∧ (2 ∈ ([] : List Nat) → v = ptrV x.heap.size)) := by
  exact yld_move ((oth 9 (by decide)).trans E.h9) ⟨rfl, fun h => absurd h (by decide)⟩
theorem yDR_3 {a0 : Act} {w : World} {gb ob ib Lw cw gl ol Ll cl Vf : Nat} {y : Int} {s : Nat} (E : EnvDR a0 w gb ob ib Lw cw gl ol Ll cl Vf y s) {R : Exit → Act → World → Prop} {a : Act} {x : World} (q : Q w x) (oth : ∀ j, j ∉ sDR → a.tmps[j]? = a0.tmps[j]?) (dep : ∀ ed ∈ oDR_3.after, Region.binds .any ed = true → ∀ t', sDR[ed.on]? = some t' → ∃ v, a.tmps[t']? = some v ∧ specAt (spDR gb ob ib Lw cw gl ol Ll cl Vf y s) ed.on v x) : Yld Tryd.prog R oDR_3 a x 44 (fun v x' => specAt (spDR gb ob ib Lw cw gl ol Ll cl Vf y s) 3 v x' ∧ (3 ∈ ([] : List Nat) → v = ptrV x.heap.size)) := by
  obtain ⟨v1, t1, f1⟩ := dep ⟨1, .data⟩ (by simp [oDR_3]) rfl 42 rfl
  have f1 : v1 = (.slice (some ⟨gb, ob, none⟩) Lw cw) := f1
  subst f1
  obtain ⟨v2, t2, f2⟩ := dep ⟨2, .data⟩ (by simp [oDR_3]) rfl 43 rfl
  have f2 : v2 = (.int .i64 (ib : Nat)) := f2
  subst f2
  exact yld_run (x' := x) rfl (run_ixi (tmp_eval t1) (tmp_eval t2) E.hi) (Q.refl x) ⟨rfl, fun h => absurd h (by decide)⟩
theorem yDR_4 {a0 : Act} {w : World} {gb ob ib Lw cw gl ol Ll cl Vf : Nat} {y : Int} {s : Nat} (E : EnvDR a0 w gb ob ib Lw cw gl ol Ll cl Vf y s) {R : Exit → Act → World → Prop} {a : Act} {x : World} (q : Q w x) (oth : ∀ j, j ∉ sDR → a.tmps[j]? = a0.tmps[j]?) (dep : ∀ ed ∈ oDR_4.after, Region.binds .any ed = true → ∀ t', sDR[ed.on]? = some t' → ∃ v, a.tmps[t']? = some v ∧ specAt (spDR gb ob ib Lw cw gl ol Ll cl Vf y s) ed.on v x) : Yld Tryd.prog R oDR_4 a x 45 (fun v x' => specAt (spDR gb ob ib Lw cw gl ol Ll cl Vf y s) 4 v x' ∧ (4 ∈ ([] : List Nat) → v = ptrV x.heap.size)) := by
  obtain ⟨v3, t3, f3⟩ := dep ⟨3, .data⟩ (by simp [oDR_4]) rfl 44 rfl
  have f3 : v3 = (.pointer (some ⟨gb, ob + ib, none⟩)) := f3
  subst f3
  exact yld_run (x' := x) rfl (run_ldi (tmp_eval t3) (q.cell E.c)) (Q.refl x) ⟨rfl, fun h => absurd h (by decide)⟩
theorem yDR_5 {a0 : Act} {w : World} {gb ob ib Lw cw gl ol Ll cl Vf : Nat} {y : Int} {s : Nat} (E : EnvDR a0 w gb ob ib Lw cw gl ol Ll cl Vf y s) {R : Exit → Act → World → Prop} {a : Act} {x : World} (q : Q w x) (oth : ∀ j, j ∉ sDR → a.tmps[j]? = a0.tmps[j]?) (dep : ∀ ed ∈ oDR_5.after, Region.binds .any ed = true → ∀ t', sDR[ed.on]? = some t' → ∃ v, a.tmps[t']? = some v ∧ specAt (spDR gb ob ib Lw cw gl ol Ll cl Vf y s) ed.on v x) : Yld Tryd.prog R oDR_5 a x 46 (fun v x' => specAt (spDR gb ob ib Lw cw gl ol Ll cl Vf y s) 5 v x' ∧ (5 ∈ ([] : List Nat) → v = ptrV x.heap.size)) := by
  obtain ⟨v4, t4, f4⟩ := dep ⟨4, .data⟩ (by simp [oDR_5]) rfl 45 rfl
  have f4 : v4 = (.int .i64 y) := f4
  subst f4
  refine yld_call (enters_of Tryd.func52 (by kernel_rfl) rfl) (args1 t4) ((wnum_any y E.y0 E.y1 x).mono ?_)
  rintro u x' ⟨v, rfl, h, q'⟩
  exact ⟨v, rfl, q', h, fun h => absurd h (by decide)⟩
theorem yDR_6 {a0 : Act} {w : World} {gb ob ib Lw cw gl ol Ll cl Vf : Nat} {y : Int} {s : Nat} (E : EnvDR a0 w gb ob ib Lw cw gl ol Ll cl Vf y s) {R : Exit → Act → World → Prop} {a : Act} {x : World} (q : Q w x) (oth : ∀ j, j ∉ sDR → a.tmps[j]? = a0.tmps[j]?) (dep : ∀ ed ∈ oDR_6.after, Region.binds .any ed = true → ∀ t', sDR[ed.on]? = some t' → ∃ v, a.tmps[t']? = some v ∧ specAt (spDR gb ob ib Lw cw gl ol Ll cl Vf y s) ed.on v x) : Yld Tryd.prog R oDR_6 a x 47 (fun v x' => specAt (spDR gb ob ib Lw cw gl ol Ll cl Vf y s) 6 v x' ∧ (6 ∈ ([] : List Nat) → v = ptrV x.heap.size)) := by
  exact yld_run (x' := x) rfl (run_form (tmp_eval ((oth 7 (by decide)).trans E.h7)) (E.fb.next q)) (Q.refl x) ⟨rfl, fun h => absurd h (by decide)⟩
theorem yDR_7 {a0 : Act} {w : World} {gb ob ib Lw cw gl ol Ll cl Vf : Nat} {y : Int} {s : Nat} (E : EnvDR a0 w gb ob ib Lw cw gl ol Ll cl Vf y s) {R : Exit → Act → World → Prop} {a : Act} {x : World} (q : Q w x) (oth : ∀ j, j ∉ sDR → a.tmps[j]? = a0.tmps[j]?) (dep : ∀ ed ∈ oDR_7.after, Region.binds .any ed = true → ∀ t', sDR[ed.on]? = some t' → ∃ v, a.tmps[t']? = some v ∧ specAt (spDR gb ob ib Lw cw gl ol Ll cl Vf y s) ed.on v x) : Yld Tryd.prog R oDR_7 a x 48 (fun v x' => specAt (spDR gb ob ib Lw cw gl ol Ll cl Vf y s) 7 v x' ∧ (7 ∈ ([] : List Nat) → v = ptrV x.heap.size)) := by
  exact yld_move ((oth 1 (by decide)).trans E.h1) ⟨rfl, fun h => absurd h (by decide)⟩
theorem yDR_8 {a0 : Act} {w : World} {gb ob ib Lw cw gl ol Ll cl Vf : Nat} {y : Int} {s : Nat} (E : EnvDR a0 w gb ob ib Lw cw gl ol Ll cl Vf y s) {R : Exit → Act → World → Prop} {a : Act} {x : World} (q : Q w x) (oth : ∀ j, j ∉ sDR → a.tmps[j]? = a0.tmps[j]?) (dep : ∀ ed ∈ oDR_8.after, Region.binds .any ed = true → ∀ t', sDR[ed.on]? = some t' → ∃ v, a.tmps[t']? = some v ∧ specAt (spDR gb ob ib Lw cw gl ol Ll cl Vf y s) ed.on v x) : Yld Tryd.prog R oDR_8 a x 49 (fun v x' => specAt (spDR gb ob ib Lw cw gl ol Ll cl Vf y s) 8 v x' ∧ (8 ∈ ([] : List Nat) → v = ptrV x.heap.size)) := by
  exact yld_move ((oth 9 (by decide)).trans E.h9) ⟨rfl, fun h => absurd h (by decide)⟩
theorem yDR_9 {a0 : Act} {w : World} {gb ob ib Lw cw gl ol Ll cl Vf : Nat} {y : Int} {s : Nat} (E : EnvDR a0 w gb ob ib Lw cw gl ol Ll cl Vf y s) {R : Exit → Act → World → Prop} {a : Act} {x : World} (q : Q w x) (oth : ∀ j, j ∉ sDR → a.tmps[j]? = a0.tmps[j]?) (dep : ∀ ed ∈ oDR_9.after, Region.binds .any ed = true → ∀ t', sDR[ed.on]? = some t' → ∃ v, a.tmps[t']? = some v ∧ specAt (spDR gb ob ib Lw cw gl ol Ll cl Vf y s) ed.on v x) : Yld Tryd.prog R oDR_9 a x 50 (fun v x' => specAt (spDR gb ob ib Lw cw gl ol Ll cl Vf y s) 9 v x' ∧ (9 ∈ ([] : List Nat) → v = ptrV x.heap.size)) := by
  obtain ⟨v7, t7, f7⟩ := dep ⟨7, .data⟩ (by simp [oDR_9]) rfl 48 rfl
  have f7 : v7 = (.slice (some ⟨gl, ol, none⟩) Ll cl) := f7
  subst f7
  obtain ⟨v8, t8, f8⟩ := dep ⟨8, .data⟩ (by simp [oDR_9]) rfl 49 rfl
  have f8 : v8 = (.int .i64 (ib : Nat)) := f8
  subst f8
  exact yld_run (x' := x) rfl (run_ixu (tmp_eval t7) (tmp_eval t8) E.hl) (Q.refl x) ⟨rfl, fun h => absurd h (by decide)⟩
theorem yDR_10 {a0 : Act} {w : World} {gb ob ib Lw cw gl ol Ll cl Vf : Nat} {y : Int} {s : Nat} (E : EnvDR a0 w gb ob ib Lw cw gl ol Ll cl Vf y s) {R : Exit → Act → World → Prop} {a : Act} {x : World} (q : Q w x) (oth : ∀ j, j ∉ sDR → a.tmps[j]? = a0.tmps[j]?) (dep : ∀ ed ∈ oDR_10.after, Region.binds .any ed = true → ∀ t', sDR[ed.on]? = some t' → ∃ v, a.tmps[t']? = some v ∧ specAt (spDR gb ob ib Lw cw gl ol Ll cl Vf y s) ed.on v x) : Yld Tryd.prog R oDR_10 a x 51 (fun v x' => specAt (spDR gb ob ib Lw cw gl ol Ll cl Vf y s) 10 v x' ∧ (10 ∈ ([] : List Nat) → v = ptrV x.heap.size)) := by
  obtain ⟨v9, t9, f9⟩ := dep ⟨9, .data⟩ (by simp [oDR_10]) rfl 50 rfl
  have f9 : v9 = (.pointer (some ⟨gl, ol + ib, none⟩)) := f9
  subst f9
  exact yld_run (x' := x) rfl (run_ldu (tmp_eval t9) (q.cell E.d)) (Q.refl x) ⟨rfl, fun h => absurd h (by decide)⟩
theorem yDR_11 {a0 : Act} {w : World} {gb ob ib Lw cw gl ol Ll cl Vf : Nat} {y : Int} {s : Nat} (E : EnvDR a0 w gb ob ib Lw cw gl ol Ll cl Vf y s) {R : Exit → Act → World → Prop} {a : Act} {x : World} (q : Q w x) (oth : ∀ j, j ∉ sDR → a.tmps[j]? = a0.tmps[j]?) (dep : ∀ ed ∈ oDR_11.after, Region.binds .any ed = true → ∀ t', sDR[ed.on]? = some t' → ∃ v, a.tmps[t']? = some v ∧ specAt (spDR gb ob ib Lw cw gl ol Ll cl Vf y s) ed.on v x) : Yld Tryd.prog R oDR_11 a x 52 (fun v x' => specAt (spDR gb ob ib Lw cw gl ol Ll cl Vf y s) 11 v x' ∧ (11 ∈ ([] : List Nat) → v = ptrV x.heap.size)) := by
  obtain ⟨v10, t10, f10⟩ := dep ⟨10, .data⟩ (by simp [oDR_11]) rfl 51 rfl
  have f10 : v10 = (.int .u32 (s : Nat)) := f10
  subst f10
  refine yld_call (enters_of Tryd.func42 (by kernel_rfl) rfl) (args1 t10) ((rwide_any s E.hs x).mono ?_)
  rintro u x' ⟨rfl, q'⟩
  exact ⟨_, rfl, q', rfl, fun h => absurd h (by decide)⟩
theorem yDR_12 {a0 : Act} {w : World} {gb ob ib Lw cw gl ol Ll cl Vf : Nat} {y : Int} {s : Nat} (E : EnvDR a0 w gb ob ib Lw cw gl ol Ll cl Vf y s) {R : Exit → Act → World → Prop} {a : Act} {x : World} (q : Q w x) (oth : ∀ j, j ∉ sDR → a.tmps[j]? = a0.tmps[j]?) (dep : ∀ ed ∈ oDR_12.after, Region.binds .any ed = true → ∀ t', sDR[ed.on]? = some t' → ∃ v, a.tmps[t']? = some v ∧ specAt (spDR gb ob ib Lw cw gl ol Ll cl Vf y s) ed.on v x) : Yld Tryd.prog R oDR_12 a x 53 (fun v x' => specAt (spDR gb ob ib Lw cw gl ol Ll cl Vf y s) 12 v x' ∧ (12 ∈ ([] : List Nat) → v = ptrV x.heap.size)) := by
  obtain ⟨v6, t6, f6⟩ := dep ⟨6, .data⟩ (by simp [oDR_12]) rfl 47 rfl
  have f6 : v6 = formV := f6
  subst f6
  obtain ⟨v11, t11, f11⟩ := dep ⟨11, .data⟩ (by simp [oDR_12]) rfl 52 rfl
  have f11 : v11 = (.int .u64 (wideW s : Nat)) := f11
  subst f11
  refine yld_call (enters_of Tryd.func53 (by kernel_rfl) rfl) (args2 t6 t11) ((of64_any (wideW s) x (wideW_lt _)).mono ?_)
  rintro u x' ⟨v, rfl, h, q'⟩
  exact ⟨v, rfl, q', h, fun h => absurd h (by decide)⟩
theorem yDR_13 {a0 : Act} {w : World} {gb ob ib Lw cw gl ol Ll cl Vf : Nat} {y : Int} {s : Nat} (E : EnvDR a0 w gb ob ib Lw cw gl ol Ll cl Vf y s) {R : Exit → Act → World → Prop} {a : Act} {x : World} (q : Q w x) (oth : ∀ j, j ∉ sDR → a.tmps[j]? = a0.tmps[j]?) (dep : ∀ ed ∈ oDR_13.after, Region.binds .any ed = true → ∀ t', sDR[ed.on]? = some t' → ∃ v, a.tmps[t']? = some v ∧ specAt (spDR gb ob ib Lw cw gl ol Ll cl Vf y s) ed.on v x) : Yld Tryd.prog R oDR_13 a x 54 (fun v x' => specAt (spDR gb ob ib Lw cw gl ol Ll cl Vf y s) 13 v x' ∧ (13 ∈ ([] : List Nat) → v = ptrV x.heap.size)) := by
  obtain ⟨v5, t5, f5⟩ := dep ⟨5, .data⟩ (by simp [oDR_13]) rfl 46 rfl
  have f5 : (numD (numW y)).p v5 x := f5
  obtain ⟨v12, t12, f12⟩ := dep ⟨12, .data⟩ (by simp [oDR_13]) rfl 53 rfl
  have f12 : (numD (numOf Ieee.double (wideW s))).p v12 x := f12
  refine yld_call (enters_of Tryd.func51 (by kernel_rfl) rfl) (args2 t5 t12) ((times_wide _ _ (numW y) (numOf Ieee.double (wideW s)) x f5 f12 (numW_wide E.y0 E.y1) (numOf_wide s)).mono ?_)
  rintro u x' ⟨v, rfl, h, q'⟩
  exact ⟨v, rfl, q', h, fun h => absurd h (by decide)⟩
theorem yDR_14 {a0 : Act} {w : World} {gb ob ib Lw cw gl ol Ll cl Vf : Nat} {y : Int} {s : Nat} (E : EnvDR a0 w gb ob ib Lw cw gl ol Ll cl Vf y s) {R : Exit → Act → World → Prop} {a : Act} {x : World} (q : Q w x) (oth : ∀ j, j ∉ sDR → a.tmps[j]? = a0.tmps[j]?) (dep : ∀ ed ∈ oDR_14.after, Region.binds .any ed = true → ∀ t', sDR[ed.on]? = some t' → ∃ v, a.tmps[t']? = some v ∧ specAt (spDR gb ob ib Lw cw gl ol Ll cl Vf y s) ed.on v x) : Yld Tryd.prog R oDR_14 a x 55 (fun v x' => specAt (spDR gb ob ib Lw cw gl ol Ll cl Vf y s) 14 v x' ∧ (14 ∈ ([] : List Nat) → v = ptrV x.heap.size)) := by
  obtain ⟨v0, t0, f0⟩ := dep ⟨0, .data⟩ (by simp [oDR_14]) rfl 41 rfl
  have f0 : v0 = formV := f0
  subst f0
  obtain ⟨v13, t13, f13⟩ := dep ⟨13, .data⟩ (by simp [oDR_14]) rfl 54 rfl
  have f13 : (numD (timesR (numW y) (numOf Ieee.double (wideW s)))).p v13 x := f13
  have hr := round64_any _ _ x f13 (times_fitsD (numW_wide E.y0 E.y1) (numOf_wide s))
  rw [prod_link E.y0 E.y1] at hr
  refine yld_call (enters_of Tryd.func50 (by kernel_rfl) rfl) (args2 t0 t13) (hr.mono ?_)
  rintro u x' ⟨rfl, q'⟩
  exact ⟨_, rfl, q', rfl, fun h => absurd h (by decide)⟩
theorem hopDR {a0 : Act} {w : World} {gb ob ib Lw cw gl ol Ll cl Vf : Nat} {y : Int} {s : Nat} (E : EnvDR a0 w gb ob ib Lw cw gl ol Ll cl Vf y s) {R : Exit → Act → World → Prop} : ∀ (i t : Nat) (o : Oper) (a : Act) (x : World), i < 15 → sDR[i]? = some t → opsDR[i]? = some o → Q w x → (∀ j, j ∉ sDR → a.tmps[j]? = a0.tmps[j]?) → (∀ ed ∈ o.after, Region.binds .any ed = true → ∀ t', sDR[ed.on]? = some t' → ∃ v, a.tmps[t']? = some v ∧ specAt (spDR gb ob ib Lw cw gl ol Ll cl Vf y s) ed.on v x) → Yld Tryd.prog R o a x t (fun v x' => specAt (spDR gb ob ib Lw cw gl ol Ll cl Vf y s) i v x' ∧ (i ∈ ([] : List Nat) → v = ptrV x.heap.size))
  | 0, t, o, a, x, hi, ht, ho, q, oth, dep => by
    have e1 : oDR_0 = o := Option.some.inj ho
    have e2 : 41 = t := Option.some.inj ht
    subst e1 e2
    exact yDR_0 E q oth dep
  | 1, t, o, a, x, hi, ht, ho, q, oth, dep => by
    have e1 : oDR_1 = o := Option.some.inj ho
    have e2 : 42 = t := Option.some.inj ht
    subst e1 e2
    exact yDR_1 E q oth dep
  | 2, t, o, a, x, hi, ht, ho, q, oth, dep => by
    have e1 : oDR_2 = o := Option.some.inj ho
    have e2 : 43 = t := Option.some.inj ht
    subst e1 e2
    exact yDR_2 E q oth dep
  | 3, t, o, a, x, hi, ht, ho, q, oth, dep => by
    have e1 : oDR_3 = o := Option.some.inj ho
    have e2 : 44 = t := Option.some.inj ht
    subst e1 e2
    exact yDR_3 E q oth dep
  | 4, t, o, a, x, hi, ht, ho, q, oth, dep => by
    have e1 : oDR_4 = o := Option.some.inj ho
    have e2 : 45 = t := Option.some.inj ht
    subst e1 e2
    exact yDR_4 E q oth dep
  | 5, t, o, a, x, hi, ht, ho, q, oth, dep => by
    have e1 : oDR_5 = o := Option.some.inj ho
    have e2 : 46 = t := Option.some.inj ht
    subst e1 e2
    exact yDR_5 E q oth dep
  | 6, t, o, a, x, hi, ht, ho, q, oth, dep => by
    have e1 : oDR_6 = o := Option.some.inj ho
    have e2 : 47 = t := Option.some.inj ht
    subst e1 e2
    exact yDR_6 E q oth dep
  | 7, t, o, a, x, hi, ht, ho, q, oth, dep => by
    have e1 : oDR_7 = o := Option.some.inj ho
    have e2 : 48 = t := Option.some.inj ht
    subst e1 e2
    exact yDR_7 E q oth dep
  | 8, t, o, a, x, hi, ht, ho, q, oth, dep => by
    have e1 : oDR_8 = o := Option.some.inj ho
    have e2 : 49 = t := Option.some.inj ht
    subst e1 e2
    exact yDR_8 E q oth dep
  | 9, t, o, a, x, hi, ht, ho, q, oth, dep => by
    have e1 : oDR_9 = o := Option.some.inj ho
    have e2 : 50 = t := Option.some.inj ht
    subst e1 e2
    exact yDR_9 E q oth dep
  | 10, t, o, a, x, hi, ht, ho, q, oth, dep => by
    have e1 : oDR_10 = o := Option.some.inj ho
    have e2 : 51 = t := Option.some.inj ht
    subst e1 e2
    exact yDR_10 E q oth dep
  | 11, t, o, a, x, hi, ht, ho, q, oth, dep => by
    have e1 : oDR_11 = o := Option.some.inj ho
    have e2 : 52 = t := Option.some.inj ht
    subst e1 e2
    exact yDR_11 E q oth dep
  | 12, t, o, a, x, hi, ht, ho, q, oth, dep => by
    have e1 : oDR_12 = o := Option.some.inj ho
    have e2 : 53 = t := Option.some.inj ht
    subst e1 e2
    exact yDR_12 E q oth dep
  | 13, t, o, a, x, hi, ht, ho, q, oth, dep => by
    have e1 : oDR_13 = o := Option.some.inj ho
    have e2 : 54 = t := Option.some.inj ht
    subst e1 e2
    exact yDR_13 E q oth dep
  | 14, t, o, a, x, hi, ht, ho, q, oth, dep => by
    have e1 : oDR_14 = o := Option.some.inj ho
    have e2 : 55 = t := Option.some.inj ht
    subst e1 e2
    exact yDR_14 E q oth dep
  | i + 15, t, o, a, x, hi, ht, ho, q, oth, dep => absurd hi (by omega)
theorem regionDR {id : Nat} {l : List Oper} {R : Exit → Act → World → Prop} {a0 : Act} {w : World} {gb ob ib Lw cw gl ol Ll cl Vf : Nat} {y : Int} {s : Nat} (hl : l = opsDR) (hsz : a0.tmps.size = 63) (E : EnvDR a0 w gb ob ib Lw cw gl ol Ll cl Vf y s)
    (hR : ∀ x v41 v42 v43 v44 v45 v46 v47 v48 v49 v50 v51 v52 v53 v54 v55, Q w x → R .normal (putAll a0 [(41, v41), (42, v42), (43, v43), (44, v44), (45, v45), (46, v46), (47, v47), (48, v48), (49, v49), (50, v50), (51, v51), (52, v52), (53, v53), (54, v54), (55, v55), (10, .int .u64 (prodV y s : Nat))]) x) :
    (Code.region id l.toArray true).wp Tryd.prog R a0 w := by
  subst hl
  refine wp_region_facts 15 sDR (specAt (spDR gb ob ib Lw cw gl ol Ll cl Vf y s)) [] (by kernel_rfl) (by decide +kernel) (by decide) rfl (by decide) (fun t ht => ?_) specAt.next (fun i v x hi hf => by cases hi) (hopDR E) (fun a x q size defers other facts apart => ?_)
  · rw [hsz]
    revert t
    decide
  · obtain ⟨u0, t0, f0⟩ := facts 0 41 (by decide) rfl
    obtain ⟨u1, t1, f1⟩ := facts 1 42 (by decide) rfl
    obtain ⟨u2, t2, f2⟩ := facts 2 43 (by decide) rfl
    obtain ⟨u3, t3, f3⟩ := facts 3 44 (by decide) rfl
    obtain ⟨u4, t4, f4⟩ := facts 4 45 (by decide) rfl
    obtain ⟨u5, t5, f5⟩ := facts 5 46 (by decide) rfl
    obtain ⟨u6, t6, f6⟩ := facts 6 47 (by decide) rfl
    obtain ⟨u7, t7, f7⟩ := facts 7 48 (by decide) rfl
    obtain ⟨u8, t8, f8⟩ := facts 8 49 (by decide) rfl
    obtain ⟨u9, t9, f9⟩ := facts 9 50 (by decide) rfl
    obtain ⟨u10, t10, f10⟩ := facts 10 51 (by decide) rfl
    obtain ⟨u11, t11, f11⟩ := facts 11 52 (by decide) rfl
    obtain ⟨u12, t12, f12⟩ := facts 12 53 (by decide) rfl
    obtain ⟨u13, t13, f13⟩ := facts 13 54 (by decide) rfl
    obtain ⟨u14, t14, f14⟩ := facts 14 55 (by decide) rfl
    have f14 : u14 = .int .u64 (prodV y s : Nat) := f14
    have hA := act_puts (a := a) (a0 := a0) [(41, u0), (42, u1), (43, u2), (44, u3), (45, u4), (46, u5), (47, u6), (48, u7), (49, u8), (50, u9), (51, u10), (52, u11), (53, u12), (54, u13), (55, u14)] (show ([41, 42, 43, 44, 45, 46, 47, 48, 49, 50, 51, 52, 53, 54, 55] : List Nat).Nodup by decide) size defers (fun j hj => other j (by simpa [sDR] using hj)) (fun r hr => ?_)
    · refine ⟨?_⟩
      show R .normal (a.put (some 10) (a.eval (.tmp 55))) x
      rw [tmp_eval t14, hA, f14]
      exact hR x u0 u1 u2 u3 u4 u5 u6 u7 u8 u9 u10 u11 u12 u13 _ q
    · simp only [List.mem_cons, List.not_mem_nil, or_false] at hr
      rcases hr with rfl | rfl | rfl | rfl | rfl | rfl | rfl | rfl | rfl | rfl | rfl | rfl | rfl | rfl | rfl
      · exact t0
      · exact t1
      · exact t2
      · exact t3
      · exact t4
      · exact t5
      · exact t6
      · exact t7
      · exact t8
      · exact t9
      · exact t10
      · exact t11
      · exact t12
      · exact t13
      · exact t14
set_option maxRecDepth 100000 in
theorem normDR {t0 t1 t2 t3 t4 t5 t6 t7 t8 t9 t10 t11 t12 t13 t14 t15 t16 t17 t18 t19 t20 t21 t22 t23 t24 t25 t26 t27 t28 t29 t30 t31 t32 t33 t34 t35 t36 t37 t38 t39 t40 t41 t42 t43 t44 t45 t46 t47 t48 t49 t50 t51 t52 t53 t54 t55 t56 t57 t58 t59 t60 t61 t62 v41 v42 v43 v44 v45 v46 v47 v48 v49 v50 v51 v52 v53 v54 v55 v10 : Value} {d : List Deferred} : putAll ⟨#[t0, t1, t2, t3, t4, t5, t6, t7, t8, t9, t10, t11, t12, t13, t14, t15, t16, t17, t18, t19, t20, t21, t22, t23, t24, t25, t26, t27, t28, t29, t30, t31, t32, t33, t34, t35, t36, t37, t38, t39, t40, t41, t42, t43, t44, t45, t46, t47, t48, t49, t50, t51, t52, t53, t54, t55, t56, t57, t58, t59, t60, t61, t62], d⟩ [(41, v41), (42, v42), (43, v43), (44, v44), (45, v45), (46, v46), (47, v47), (48, v48), (49, v49), (50, v50), (51, v51), (52, v52), (53, v53), (54, v54), (55, v55), (10, v10)] = ⟨#[t0, t1, t2, t3, t4, t5, t6, t7, t8, t9, v10, t11, t12, t13, t14, t15, t16, t17, t18, t19, t20, t21, t22, t23, t24, t25, t26, t27, t28, t29, t30, t31, t32, t33, t34, t35, t36, t37, t38, t39, t40, v41, v42, v43, v44, v45, v46, v47, v48, v49, v50, v51, v52, v53, v54, v55, t56, t57, t58, t59, t60, t61, t62], d⟩ := by
  kernel_rfl
end Go.Proofs.YtjjjgdpgfndbdaaDoor
