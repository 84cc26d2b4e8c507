/- piece: two lines and two boxes, in whatever order. -/
import Derived.Test.YtdbbpmadkhedlaaG347cabc6
import Derived.Test.YtdbbpmadkhedlaaG3da94f4b
namespace Go.Proofs.Ytdbbpmadkhedlaa
open Go.RowKit
set_option linter.unusedVariables false
set_option linter.unusedSimpArgs false

abbrev LLs := List (List (Int × Int))
/-- A line that is made. -/
def lnS (A : List (List (Int × Int))) : Sp3 := iP (fun v lo hi x => LnJ lo hi x v A) (fun v lo hi x x' h q => h.next q)
/-- A new box for a line. -/
def bxL : Sp3 := iP (fun v lo hi x => v = .pointer (some ⟨lo, 0, none⟩) ∧ lo < hi ∧ x.cell? ⟨lo, 0, none⟩ = some (.int .i64 0) ∧ x.cell? ⟨lo, 1, none⟩ = some .nilFunc ∧ ∀ j, x.frozen? ⟨lo, j, none⟩ = false)
  (fun v lo hi x x' ⟨h1, h2, h3, h4, h5⟩ q => ⟨h1, h2, q.cell h3, q.cell h4, fun j => by rw [q.2]; exact h5 j⟩)
structure TwoL (A D : List (List (Int × Int))) (bA bD g1 g2 : Nat) (w x : World) : Prop where
  q : Q w x
  a : LnX x (.agg #[.int .i64 (A.length : Nat), .func (.func 47) #[] #[.pointer (some ⟨bA, 0, none⟩)]]) A
  d : LnX x (.agg #[.int .i64 (D.length : Nat), .func (.func 47) #[] #[.pointer (some ⟨bD, 0, none⟩)]]) D
  c10 : x.cell? ⟨g1, 0, none⟩ = some (.int .i64 (A.length : Nat))
  c11 : x.cell? ⟨g1, 1, none⟩ = some (.func (.func 47) #[] #[.pointer (some ⟨bA, 0, none⟩)])
  c20 : x.cell? ⟨g2, 0, none⟩ = some (.int .i64 (D.length : Nat))
  c21 : x.cell? ⟨g2, 1, none⟩ = some (.func (.func 47) #[] #[.pointer (some ⟨bD, 0, none⟩)])
  ne : g1 ≠ g2
  l1 : w.heap.size ≤ g1
  l2 : w.heap.size ≤ g2
theorem run_stl {a : Act} {x : World} {ty : TypeId} {ps : String} {af : Array Edge} {gd : Option (Nat × Bool)} {j k B : Nat} {n : Int} {fv : Fn} {u b : Array Value} (h' : a.tmps[k]? = some (.agg #[.int .i64 n, .func fv u b])) (h : a.tmps[j]? = some (.pointer (some ⟨B, 0, none⟩))) (c : x.cell? ⟨B, 0, none⟩ = some (.int .i64 0)) (c' : x.cell? ⟨B, 1, none⟩ = some .nilFunc) (f : ∀ j, x.frozen? ⟨B, j, none⟩ = false) : (execOp a.eval { dst := none, op := .store 72 (.tmp j) (.tmp k), type := ty, pos := ps, after := af, guard := gd }).run Try.prog x = .ok .skip ((x.setCell ⟨B, 0, none⟩ (.int .i64 n)).setCell ⟨B, 1, none⟩ (.func fv u b)) := by
  simp [execOp, h, h', go_sem, c, c', f]
def oPc_0 : Oper := { dst := some 23, op := .move (.tmp 1), type := 3, pos := "scale.go:70", after := #[], guard := none }
def oPc_1 : Oper := { dst := some 24, op := .fieldAddr 33 (.tmp 5) 0, type := 0, pos := "scale.go:70", after := #[], guard := none }
def oPc_2 : Oper := { dst := some 25, op := .load 3 (.tmp 24), type := 3, pos := "scale.go:70", after := #[⟨1, .data⟩], guard := none }
def oPc_3 : Oper := { dst := some 26, op := .move (.tmp 2), type := 3, pos := "scale.go:70", after := #[], guard := none }
def oPc_4 : Oper := { dst := some 27, op := .fieldAddr 44 (.tmp 9) 0, type := 0, pos := "scale.go:70", after := #[], guard := none }
def oPc_5 : Oper := { dst := some 28, op := .load 3 (.tmp 27), type := 3, pos := "scale.go:70", after := #[⟨4, .data⟩], guard := none }
def oPc_6 : Oper := { dst := some 29, op := .fieldAddr 44 (.tmp 9) 2, type := 0, pos := "scale.go:70", after := #[], guard := none }
def oPc_7 : Oper := { dst := some 30, op := .load 3 (.tmp 29), type := 3, pos := "scale.go:70", after := #[⟨6, .data⟩], guard := none }
def oPc_8 : Oper := { dst := some 31, op := .call { callee := .value (.func 31), args := #[.tmp 23, .tmp 25, .tmp 26, .tmp 28, .tmp 30], argTypes := #[3, 3, 3, 3, 3] }, type := 72, pos := "scale.go:70", after := #[⟨0, .data⟩, ⟨2, .data⟩, ⟨3, .data⟩, ⟨5, .data⟩, ⟨7, .data⟩], guard := none }
def oPc_9 : Oper := { dst := some 32, op := .move (.tmp 1), type := 3, pos := "scale.go:70", after := #[], guard := none }
def oPc_10 : Oper := { dst := some 33, op := .fieldAddr 33 (.tmp 5) 1, type := 0, pos := "scale.go:70", after := #[], guard := none }
def oPc_11 : Oper := { dst := some 34, op := .load 3 (.tmp 33), type := 3, pos := "scale.go:70", after := #[⟨10, .data⟩], guard := none }
def oPc_12 : Oper := { dst := some 35, op := .move (.tmp 3), type := 3, pos := "scale.go:70", after := #[], guard := none }
def oPc_13 : Oper := { dst := some 36, op := .fieldAddr 44 (.tmp 9) 1, type := 0, pos := "scale.go:70", after := #[], guard := none }
def oPc_14 : Oper := { dst := some 37, op := .load 3 (.tmp 36), type := 3, pos := "scale.go:70", after := #[⟨13, .data⟩], guard := none }
def oPc_15 : Oper := { dst := some 38, op := .fieldAddr 44 (.tmp 9) 3, type := 0, pos := "scale.go:70", after := #[], guard := none }
def oPc_16 : Oper := { dst := some 39, op := .load 3 (.tmp 38), type := 3, pos := "scale.go:70", after := #[⟨15, .data⟩], guard := none }
def oPc_17 : Oper := { dst := some 40, op := .call { callee := .value (.func 31), args := #[.tmp 32, .tmp 34, .tmp 35, .tmp 37, .tmp 39], argTypes := #[3, 3, 3, 3, 3] }, type := 72, pos := "scale.go:70", after := #[⟨9, .data⟩, ⟨11, .data⟩, ⟨12, .data⟩, ⟨14, .data⟩, ⟨16, .data⟩, ⟨8, .chain⟩], guard := none }
def oPc_18 : Oper := { dst := some 11, op := .alloc 72, type := 0, pos := "scale.go:70", after := #[], guard := none }
def oPc_19 : Oper := { dst := some 12, op := .alloc 72, type := 0, pos := "scale.go:70", after := #[], guard := none }
def oPc_20 : Oper := { dst := none, op := .store 72 (.tmp 11) (.tmp 31), type := 0, pos := "scale.go:70", after := #[⟨18, .data⟩, ⟨8, .data⟩, ⟨17, .chain⟩, ⟨0, .phase⟩, ⟨1, .phase⟩, ⟨2, .phase⟩, ⟨3, .phase⟩, ⟨4, .phase⟩, ⟨5, .phase⟩, ⟨6, .phase⟩, ⟨7, .phase⟩, ⟨8, .phase⟩, ⟨9, .textOnly .lateStores⟩, ⟨10, .textOnly .lateStores⟩, ⟨11, .textOnly .lateStores⟩, ⟨12, .textOnly .lateStores⟩, ⟨13, .textOnly .lateStores⟩, ⟨14, .textOnly .lateStores⟩, ⟨15, .textOnly .lateStores⟩, ⟨16, .textOnly .lateStores⟩, ⟨17, .textOnly .lateStoresUnsure⟩, ⟨18, .phase⟩, ⟨19, .phase⟩], guard := none }
def oPc_21 : Oper := { dst := none, op := .store 72 (.tmp 12) (.tmp 40), type := 0, pos := "scale.go:70", after := #[⟨19, .data⟩, ⟨17, .data⟩, ⟨20, .chain⟩, ⟨0, .phase⟩, ⟨1, .phase⟩, ⟨2, .phase⟩, ⟨3, .phase⟩, ⟨4, .phase⟩, ⟨5, .phase⟩, ⟨6, .phase⟩, ⟨7, .phase⟩, ⟨8, .phase⟩, ⟨9, .phase⟩, ⟨10, .phase⟩, ⟨11, .phase⟩, ⟨12, .phase⟩, ⟨13, .phase⟩, ⟨14, .phase⟩, ⟨15, .phase⟩, ⟨16, .phase⟩, ⟨17, .phase⟩, ⟨18, .phase⟩, ⟨19, .phase⟩, ⟨20, .phase⟩], guard := none }
def opsPc : List Oper := [oPc_0, oPc_1, oPc_2, oPc_3, oPc_4, oPc_5, oPc_6, oPc_7, oPc_8, oPc_9, oPc_10, oPc_11, oPc_12, oPc_13, oPc_14, oPc_15, oPc_16, oPc_17, oPc_18, oPc_19, oPc_20, oPc_21]
def sPc : List Nat := [23, 24, 25, 26, 27, 28, 29, 30, 31, 32, 33, 34, 35, 36, 37, 38, 39, 40, 11, 12]
def spPc (kind pa pb W H x0 x1 y0 y1 : Int) (b5 b9 : Nat) (A D : LLs) : List Sp3 := [iV (.int .i64 kind), iV (.pointer (some ⟨b5, 0, none⟩)), iV (.int .i64 pa), iV (.int .i64 W), iV (.pointer (some ⟨b9, 0, none⟩)), iV (.int .i64 x0), iV (.pointer (some ⟨b9, 2, none⟩)), iV (.int .i64 x1), lnS A, iV (.int .i64 kind), iV (.pointer (some ⟨b5, 1, none⟩)), iV (.int .i64 pb), iV (.int .i64 H), iV (.pointer (some ⟨b9, 1, none⟩)), iV (.int .i64 y0), iV (.pointer (some ⟨b9, 3, none⟩)), iV (.int .i64 y1), lnS D, bxL, bxL]
structure EnvPc (a0 : Act) (w : World) (kind pa pb W H x0 x1 y0 y1 : Int) (b5 b9 : Nat) (A D : LLs) : Prop where
  h1 : a0.tmps[1]? = some (.int .i64 kind)
  h2 : a0.tmps[2]? = some (.int .i64 W)
  h3 : a0.tmps[3]? = some (.int .i64 H)
  h5 : a0.tmps[5]? = some (.pointer (some ⟨b5, 0, none⟩))
  h9 : a0.tmps[9]? = some (.pointer (some ⟨b9, 0, none⟩))
  c50 : w.cell? ⟨b5, 0, none⟩ = some (.int .i64 pa)
  c51 : w.cell? ⟨b5, 1, none⟩ = some (.int .i64 pb)
  c90 : w.cell? ⟨b9, 0, none⟩ = some (.int .i64 x0)
  c91 : w.cell? ⟨b9, 1, none⟩ = some (.int .i64 y0)
  c92 : w.cell? ⟨b9, 2, none⟩ = some (.int .i64 x1)
  c93 : w.cell? ⟨b9, 3, none⟩ = some (.int .i64 y1)
  k1 : ∀ x : World, Calls Try.prog 31 #[.int .i64 kind, .int .i64 pa, .int .i64 W, .int .i64 x0, .int .i64 x1] x fun e x' => ∃ v, e = .returned v ∧ LnJ x.heap.size x'.heap.size x' v A ∧ Q x x'
  k2 : ∀ x : World, Calls Try.prog 31 #[.int .i64 kind, .int .i64 pb, .int .i64 H, .int .i64 y0, .int .i64 y1] x fun e x' => ∃ v, e = .returned v ∧ LnJ x.heap.size x'.heap.size x' v D ∧ Q x x'
theorem yPc_0 {a0 : Act} {w : World} {kind pa pb W H x0 x1 y0 y1 : Int} {b5 b9 : Nat} {A D : LLs} (E : EnvPc a0 w kind pa pb W H x0 x1 y0 y1 b5 b9 A D) {R : Exit → Act → World → Prop} {a : Act} {x : World} {val : Nat → Value} (q : Q w x) (oth : ∀ j, j ∉ sPc → a.tmps[j]? = a0.tmps[j]?) (dep : ∀ ed ∈ oPc_0.after, Region.binds .any ed = true → ∀ (s' : Sp3) t', (spPc kind pa pb W H x0 x1 y0 y1 b5 b9 A D)[ed.on]? = some s' → sPc[ed.on]? = some t' → a.tmps[t']? = some (val ed.on) ∧ ∃ lo hi, s'.p (val ed.on) val lo hi x) : Yld Try.prog R oPc_0 a x 23 (fun v x' => (iV (.int .i64 kind)).p v val x.heap.size x'.heap.size x') := by
  exact yld_move ((oth 1 (by decide)).trans E.h1) rfl
theorem yPc_1 {a0 : Act} {w : World} {kind pa pb W H x0 x1 y0 y1 : Int} {b5 b9 : Nat} {A D : LLs} (E : EnvPc a0 w kind pa pb W H x0 x1 y0 y1 b5 b9 A D) {R : Exit → Act → World → Prop} {a : Act} {x : World} {val : Nat → Value} (q : Q w x) (oth : ∀ j, j ∉ sPc → a.tmps[j]? = a0.tmps[j]?) (dep : ∀ ed ∈ oPc_1.after, Region.binds .any ed = true → ∀ (s' : Sp3) t', (spPc kind pa pb W H x0 x1 y0 y1 b5 b9 A D)[ed.on]? = some s' → sPc[ed.on]? = some t' → a.tmps[t']? = some (val ed.on) ∧ ∃ lo hi, s'.p (val ed.on) val lo hi x) : Yld Try.prog R oPc_1 a x 24 (fun v x' => (iV (.pointer (some ⟨b5, 0, none⟩))).p v val x.heap.size x'.heap.size x') := by
  have tt := (oth 5 (by decide)).trans E.h5
  exact yld_run (x' := x) rfl (by simp [oPc_1, execOp, tt, go_sem]) (Q.refl x) rfl
theorem yPc_2 {a0 : Act} {w : World} {kind pa pb W H x0 x1 y0 y1 : Int} {b5 b9 : Nat} {A D : LLs} (E : EnvPc a0 w kind pa pb W H x0 x1 y0 y1 b5 b9 A D) {R : Exit → Act → World → Prop} {a : Act} {x : World} {val : Nat → Value} (q : Q w x) (oth : ∀ j, j ∉ sPc → a.tmps[j]? = a0.tmps[j]?) (dep : ∀ ed ∈ oPc_2.after, Region.binds .any ed = true → ∀ (s' : Sp3) t', (spPc kind pa pb W H x0 x1 y0 y1 b5 b9 A D)[ed.on]? = some s' → sPc[ed.on]? = some t' → a.tmps[t']? = some (val ed.on) ∧ ∃ lo hi, s'.p (val ed.on) val lo hi x) : Yld Try.prog R oPc_2 a x 25 (fun v x' => (iV (.int .i64 pa)).p v val x.heap.size x'.heap.size x') := by
  obtain ⟨t1, lo1, hi1, f1⟩ := dep ⟨1, .data⟩ (by simp [oPc_2]) rfl _ 24 rfl rfl
  have f1 : val 1 = (.pointer (some ⟨b5, 0, none⟩)) := f1
  rw [f1] at t1
  have cc := q.cell E.c50
  exact yld_run (x' := x) rfl (by simp [oPc_2, execOp, t1, go_sem, cc]) (Q.refl x) rfl
theorem yPc_3 {a0 : Act} {w : World} {kind pa pb W H x0 x1 y0 y1 : Int} {b5 b9 : Nat} {A D : LLs} (E : EnvPc a0 w kind pa pb W H x0 x1 y0 y1 b5 b9 A D) {R : Exit → Act → World → Prop} {a : Act} {x : World} {val : Nat → Value} (q : Q w x) (oth : ∀ j, j ∉ sPc → a.tmps[j]? = a0.tmps[j]?) (dep : ∀ ed ∈ oPc_3.after, Region.binds .any ed = true → ∀ (s' : Sp3) t', (spPc kind pa pb W H x0 x1 y0 y1 b5 b9 A D)[ed.on]? = some s' → sPc[ed.on]? = some t' → a.tmps[t']? = some (val ed.on) ∧ ∃ lo hi, s'.p (val ed.on) val lo hi x) : Yld Try.prog R oPc_3 a x 26 (fun v x' => (iV (.int .i64 W)).p v val x.heap.size x'.heap.size x') := by
  exact yld_move ((oth 2 (by decide)).trans E.h2) rfl
theorem yPc_4 {a0 : Act} {w : World} {kind pa pb W H x0 x1 y0 y1 : Int} {b5 b9 : Nat} {A D : LLs} (E : EnvPc a0 w kind pa pb W H x0 x1 y0 y1 b5 b9 A D) {R : Exit → Act → World → Prop} {a : Act} {x : World} {val : Nat → Value} (q : Q w x) (oth : ∀ j, j ∉ sPc → a.tmps[j]? = a0.tmps[j]?) (dep : ∀ ed ∈ oPc_4.after, Region.binds .any ed = true → ∀ (s' : Sp3) t', (spPc kind pa pb W H x0 x1 y0 y1 b5 b9 A D)[ed.on]? = some s' → sPc[ed.on]? = some t' → a.tmps[t']? = some (val ed.on) ∧ ∃ lo hi, s'.p (val ed.on) val lo hi x) : Yld Try.prog R oPc_4 a x 27 (fun v x' => (iV (.pointer (some ⟨b9, 0, none⟩))).p v val x.heap.size x'.heap.size x') := by
  have tt := (oth 9 (by decide)).trans E.h9
  exact yld_run (x' := x) rfl (by simp [oPc_4, execOp, tt, go_sem]) (Q.refl x) rfl
theorem yPc_5 {a0 : Act} {w : World} {kind pa pb W H x0 x1 y0 y1 : Int} {b5 b9 : Nat} {A D : LLs} (E : EnvPc a0 w kind pa pb W H x0 x1 y0 y1 b5 b9 A D) {R : Exit → Act → World → Prop} {a : Act} {x : World} {val : Nat → Value} (q : Q w x) (oth : ∀ j, j ∉ sPc → a.tmps[j]? = a0.tmps[j]?) (dep : ∀ ed ∈ oPc_5.after, Region.binds .any ed = true → ∀ (s' : Sp3) t', (spPc kind pa pb W H x0 x1 y0 y1 b5 b9 A D)[ed.on]? = some s' → sPc[ed.on]? = some t' → a.tmps[t']? = some (val ed.on) ∧ ∃ lo hi, s'.p (val ed.on) val lo hi x) : Yld Try.prog R oPc_5 a x 28 (fun v x' => (iV (.int .i64 x0)).p v val x.heap.size x'.heap.size x') := by
  obtain ⟨t4, lo4, hi4, f4⟩ := dep ⟨4, .data⟩ (by simp [oPc_5]) rfl _ 27 rfl rfl
  have f4 : val 4 = (.pointer (some ⟨b9, 0, none⟩)) := f4
  rw [f4] at t4
  have cc := q.cell E.c90
  exact yld_run (x' := x) rfl (by simp [oPc_5, execOp, t4, go_sem, cc]) (Q.refl x) rfl
theorem yPc_6 {a0 : Act} {w : World} {kind pa pb W H x0 x1 y0 y1 : Int} {b5 b9 : Nat} {A D : LLs} (E : EnvPc a0 w kind pa pb W H x0 x1 y0 y1 b5 b9 A D) {R : Exit → Act → World → Prop} {a : Act} {x : World} {val : Nat → Value} (q : Q w x) (oth : ∀ j, j ∉ sPc → a.tmps[j]? = a0.tmps[j]?) (dep : ∀ ed ∈ oPc_6.after, Region.binds .any ed = true → ∀ (s' : Sp3) t', (spPc kind pa pb W H x0 x1 y0 y1 b5 b9 A D)[ed.on]? = some s' → sPc[ed.on]? = some t' → a.tmps[t']? = some (val ed.on) ∧ ∃ lo hi, s'.p (val ed.on) val lo hi x) : Yld Try.prog R oPc_6 a x 29 (fun v x' => (iV (.pointer (some ⟨b9, 2, none⟩))).p v val x.heap.size x'.heap.size x') := by
  have tt := (oth 9 (by decide)).trans E.h9
  exact yld_run (x' := x) rfl (by simp [oPc_6, execOp, tt, go_sem]) (Q.refl x) rfl
theorem yPc_7 {a0 : Act} {w : World} {kind pa pb W H x0 x1 y0 y1 : Int} {b5 b9 : Nat} {A D : LLs} (E : EnvPc a0 w kind pa pb W H x0 x1 y0 y1 b5 b9 A D) {R : Exit → Act → World → Prop} {a : Act} {x : World} {val : Nat → Value} (q : Q w x) (oth : ∀ j, j ∉ sPc → a.tmps[j]? = a0.tmps[j]?) (dep : ∀ ed ∈ oPc_7.after, Region.binds .any ed = true → ∀ (s' : Sp3) t', (spPc kind pa pb W H x0 x1 y0 y1 b5 b9 A D)[ed.on]? = some s' → sPc[ed.on]? = some t' → a.tmps[t']? = some (val ed.on) ∧ ∃ lo hi, s'.p (val ed.on) val lo hi x) : Yld Try.prog R oPc_7 a x 30 (fun v x' => (iV (.int .i64 x1)).p v val x.heap.size x'.heap.size x') := by
  obtain ⟨t6, lo6, hi6, f6⟩ := dep ⟨6, .data⟩ (by simp [oPc_7]) rfl _ 29 rfl rfl
  have f6 : val 6 = (.pointer (some ⟨b9, 2, none⟩)) := f6
  rw [f6] at t6
  have cc := q.cell E.c92
  exact yld_run (x' := x) rfl (by simp [oPc_7, execOp, t6, go_sem, cc]) (Q.refl x) rfl
theorem yPc_8 {a0 : Act} {w : World} {kind pa pb W H x0 x1 y0 y1 : Int} {b5 b9 : Nat} {A D : LLs} (E : EnvPc a0 w kind pa pb W H x0 x1 y0 y1 b5 b9 A D) {R : Exit → Act → World → Prop} {a : Act} {x : World} {val : Nat → Value} (q : Q w x) (oth : ∀ j, j ∉ sPc → a.tmps[j]? = a0.tmps[j]?) (dep : ∀ ed ∈ oPc_8.after, Region.binds .any ed = true → ∀ (s' : Sp3) t', (spPc kind pa pb W H x0 x1 y0 y1 b5 b9 A D)[ed.on]? = some s' → sPc[ed.on]? = some t' → a.tmps[t']? = some (val ed.on) ∧ ∃ lo hi, s'.p (val ed.on) val lo hi x) : Yld Try.prog R oPc_8 a x 31 (fun v x' => (lnS A).p v val x.heap.size x'.heap.size x') := by
  obtain ⟨t0, lo0, hi0, f0⟩ := dep ⟨0, .data⟩ (by simp [oPc_8]) rfl _ 23 rfl rfl
  have f0 : val 0 = (.int .i64 kind) := f0
  rw [f0] at t0
  obtain ⟨t2, lo2, hi2, f2⟩ := dep ⟨2, .data⟩ (by simp [oPc_8]) rfl _ 25 rfl rfl
  have f2 : val 2 = (.int .i64 pa) := f2
  rw [f2] at t2
  obtain ⟨t3, lo3, hi3, f3⟩ := dep ⟨3, .data⟩ (by simp [oPc_8]) rfl _ 26 rfl rfl
  have f3 : val 3 = (.int .i64 W) := f3
  rw [f3] at t3
  obtain ⟨t5, lo5, hi5, f5⟩ := dep ⟨5, .data⟩ (by simp [oPc_8]) rfl _ 28 rfl rfl
  have f5 : val 5 = (.int .i64 x0) := f5
  rw [f5] at t5
  obtain ⟨t7, lo7, hi7, f7⟩ := dep ⟨7, .data⟩ (by simp [oPc_8]) rfl _ 30 rfl rfl
  have f7 : val 7 = (.int .i64 x1) := f7
  rw [f7] at t7
  refine yld_call (enters_of Try.func31 (by kernel_rfl) rfl) (vs := #[.int .i64 kind, .int .i64 pa, .int .i64 W, .int .i64 x0, .int .i64 x1]) (by simp [tmp_eval t0, tmp_eval t2, tmp_eval t3, tmp_eval t5, tmp_eval t7]) ((E.k1 x).mono ?_)
  rintro u x' ⟨v, rfl, h, q'⟩
  exact ⟨v, rfl, q', h⟩
theorem yPc_9 {a0 : Act} {w : World} {kind pa pb W H x0 x1 y0 y1 : Int} {b5 b9 : Nat} {A D : LLs} (E : EnvPc a0 w kind pa pb W H x0 x1 y0 y1 b5 b9 A D) {R : Exit → Act → World → Prop} {a : Act} {x : World} {val : Nat → Value} (q : Q w x) (oth : ∀ j, j ∉ sPc → a.tmps[j]? = a0.tmps[j]?) (dep : ∀ ed ∈ oPc_9.after, Region.binds .any ed = true → ∀ (s' : Sp3) t', (spPc kind pa pb W H x0 x1 y0 y1 b5 b9 A D)[ed.on]? = some s' → sPc[ed.on]? = some t' → a.tmps[t']? = some (val ed.on) ∧ ∃ lo hi, s'.p (val ed.on) val lo hi x) : Yld Try.prog R oPc_9 a x 32 (fun v x' => (iV (.int .i64 kind)).p v val x.heap.size x'.heap.size x') := by
  exact yld_move ((oth 1 (by decide)).trans E.h1) rfl
theorem yPc_10 {a0 : Act} {w : World} {kind pa pb W H x0 x1 y0 y1 : Int} {b5 b9 : Nat} {A D : LLs} (E : EnvPc a0 w kind pa pb W H x0 x1 y0 y1 b5 b9 A D) {R : Exit → Act → World → Prop} {a : Act} {x : World} {val : Nat → Value} (q : Q w x) (oth : ∀ j, j ∉ sPc → a.tmps[j]? = a0.tmps[j]?) (dep : ∀ ed ∈ oPc_10.after, Region.binds .any ed = true → ∀ (s' : Sp3) t', (spPc kind pa pb W H x0 x1 y0 y1 b5 b9 A D)[ed.on]? = some s' → sPc[ed.on]? = some t' → a.tmps[t']? = some (val ed.on) ∧ ∃ lo hi, s'.p (val ed.on) val lo hi x) : Yld Try.prog R oPc_10 a x 33 (fun v x' => (iV (.pointer (some ⟨b5, 1, none⟩))).p v val x.heap.size x'.heap.size x') := by
  have tt := (oth 5 (by decide)).trans E.h5
  exact yld_run (x' := x) rfl (by simp [oPc_10, execOp, tt, go_sem]) (Q.refl x) rfl
theorem yPc_11 {a0 : Act} {w : World} {kind pa pb W H x0 x1 y0 y1 : Int} {b5 b9 : Nat} {A D : LLs} (E : EnvPc a0 w kind pa pb W H x0 x1 y0 y1 b5 b9 A D) {R : Exit → Act → World → Prop} {a : Act} {x : World} {val : Nat → Value} (q : Q w x) (oth : ∀ j, j ∉ sPc → a.tmps[j]? = a0.tmps[j]?) (dep : ∀ ed ∈ oPc_11.after, Region.binds .any ed = true → ∀ (s' : Sp3) t', (spPc kind pa pb W H x0 x1 y0 y1 b5 b9 A D)[ed.on]? = some s' → sPc[ed.on]? = some t' → a.tmps[t']? = some (val ed.on) ∧ ∃ lo hi, s'.p (val ed.on) val lo hi x) : Yld Try.prog R oPc_11 a x 34 (fun v x' => (iV (.int .i64 pb)).p v val x.heap.size x'.heap.size x') := by
  obtain ⟨t10, lo10, hi10, f10⟩ := dep ⟨10, .data⟩ (by simp [oPc_11]) rfl _ 33 rfl rfl
  have f10 : val 10 = (.pointer (some ⟨b5, 1, none⟩)) := f10
  rw [f10] at t10
  have cc := q.cell E.c51
  exact yld_run (x' := x) rfl (by simp [oPc_11, execOp, t10, go_sem, cc]) (Q.refl x) rfl
theorem yPc_12 {a0 : Act} {w : World} {kind pa pb W H x0 x1 y0 y1 : Int} {b5 b9 : Nat} {A D : LLs} (E : EnvPc a0 w kind pa pb W H x0 x1 y0 y1 b5 b9 A D) {R : Exit → Act → World → Prop} {a : Act} {x : World} {val : Nat → Value} (q : Q w x) (oth : ∀ j, j ∉ sPc → a.tmps[j]? = a0.tmps[j]?) (dep : ∀ ed ∈ oPc_12.after, Region.binds .any ed = true → ∀ (s' : Sp3) t', (spPc kind pa pb W H x0 x1 y0 y1 b5 b9 A D)[ed.on]? = some s' → sPc[ed.on]? = some t' → a.tmps[t']? = some (val ed.on) ∧ ∃ lo hi, s'.p (val ed.on) val lo hi x) : Yld Try.prog R oPc_12 a x 35 (fun v x' => (iV (.int .i64 H)).p v val x.heap.size x'.heap.size x') := by
  exact yld_move ((oth 3 (by decide)).trans E.h3) rfl
theorem yPc_13 {a0 : Act} {w : World} {kind pa pb W H x0 x1 y0 y1 : Int} {b5 b9 : Nat} {A D : LLs} (E : EnvPc a0 w kind pa pb W H x0 x1 y0 y1 b5 b9 A D) {R : Exit → Act → World → Prop} {a : Act} {x : World} {val : Nat → Value} (q : Q w x) (oth : ∀ j, j ∉ sPc → a.tmps[j]? = a0.tmps[j]?) (dep : ∀ ed ∈ oPc_13.after, Region.binds .any ed = true → ∀ (s' : Sp3) t', (spPc kind pa pb W H x0 x1 y0 y1 b5 b9 A D)[ed.on]? = some s' → sPc[ed.on]? = some t' → a.tmps[t']? = some (val ed.on) ∧ ∃ lo hi, s'.p (val ed.on) val lo hi x) : Yld Try.prog R oPc_13 a x 36 (fun v x' => (iV (.pointer (some ⟨b9, 1, none⟩))).p v val x.heap.size x'.heap.size x') := by
  have tt := (oth 9 (by decide)).trans E.h9
  exact yld_run (x' := x) rfl (by simp [oPc_13, execOp, tt, go_sem]) (Q.refl x) rfl
theorem yPc_14 {a0 : Act} {w : World} {kind pa pb W H x0 x1 y0 y1 : Int} {b5 b9 : Nat} {A D : LLs} (E : EnvPc a0 w kind pa pb W H x0 x1 y0 y1 b5 b9 A D) {R : Exit → Act → World → Prop} {a : Act} {x : World} {val : Nat → Value} (q : Q w x) (oth : ∀ j, j ∉ sPc → a.tmps[j]? = a0.tmps[j]?) (dep : ∀ ed ∈ oPc_14.after, Region.binds .any ed = true → ∀ (s' : Sp3) t', (spPc kind pa pb W H x0 x1 y0 y1 b5 b9 A D)[ed.on]? = some s' → sPc[ed.on]? = some t' → a.tmps[t']? = some (val ed.on) ∧ ∃ lo hi, s'.p (val ed.on) val lo hi x) : Yld Try.prog R oPc_14 a x 37 (fun v x' => (iV (.int .i64 y0)).p v val x.heap.size x'.heap.size x') := by
  obtain ⟨t13, lo13, hi13, f13⟩ := dep ⟨13, .data⟩ (by simp [oPc_14]) rfl _ 36 rfl rfl
  have f13 : val 13 = (.pointer (some ⟨b9, 1, none⟩)) := f13
  rw [f13] at t13
  have cc := q.cell E.c91
  exact yld_run (x' := x) rfl (by simp [oPc_14, execOp, t13, go_sem, cc]) (Q.refl x) rfl
theorem yPc_15 {a0 : Act} {w : World} {kind pa pb W H x0 x1 y0 y1 : Int} {b5 b9 : Nat} {A D : LLs} (E : EnvPc a0 w kind pa pb W H x0 x1 y0 y1 b5 b9 A D) {R : Exit → Act → World → Prop} {a : Act} {x : World} {val : Nat → Value} (q : Q w x) (oth : ∀ j, j ∉ sPc → a.tmps[j]? = a0.tmps[j]?) (dep : ∀ ed ∈ oPc_15.after, Region.binds .any ed = true → ∀ (s' : Sp3) t', (spPc kind pa pb W H x0 x1 y0 y1 b5 b9 A D)[ed.on]? = some s' → sPc[ed.on]? = some t' → a.tmps[t']? = some (val ed.on) ∧ ∃ lo hi, s'.p (val ed.on) val lo hi x) : Yld Try.prog R oPc_15 a x 38 (fun v x' => (iV (.pointer (some ⟨b9, 3, none⟩))).p v val x.heap.size x'.heap.size x') := by
  have tt := (oth 9 (by decide)).trans E.h9
  exact yld_run (x' := x) rfl (by simp [oPc_15, execOp, tt, go_sem]) (Q.refl x) rfl
theorem yPc_16 {a0 : Act} {w : World} {kind pa pb W H x0 x1 y0 y1 : Int} {b5 b9 : Nat} {A D : LLs} (E : EnvPc a0 w kind pa pb W H x0 x1 y0 y1 b5 b9 A D) {R : Exit → Act → World → Prop} {a : Act} {x : World} {val : Nat → Value} (q : Q w x) (oth : ∀ j, j ∉ sPc → a.tmps[j]? = a0.tmps[j]?) (dep : ∀ ed ∈ oPc_16.after, Region.binds .any ed = true → ∀ (s' : Sp3) t', (spPc kind pa pb W H x0 x1 y0 y1 b5 b9 A D)[ed.on]? = some s' → sPc[ed.on]? = some t' → a.tmps[t']? = some (val ed.on) ∧ ∃ lo hi, s'.p (val ed.on) val lo hi x) : Yld Try.prog R oPc_16 a x 39 (fun v x' => (iV (.int .i64 y1)).p v val x.heap.size x'.heap.size x') := by
  obtain ⟨t15, lo15, hi15, f15⟩ := dep ⟨15, .data⟩ (by simp [oPc_16]) rfl _ 38 rfl rfl
  have f15 : val 15 = (.pointer (some ⟨b9, 3, none⟩)) := f15
  rw [f15] at t15
  have cc := q.cell E.c93
  exact yld_run (x' := x) rfl (by simp [oPc_16, execOp, t15, go_sem, cc]) (Q.refl x) rfl
theorem yPc_17 {a0 : Act} {w : World} {kind pa pb W H x0 x1 y0 y1 : Int} {b5 b9 : Nat} {A D : LLs} (E : EnvPc a0 w kind pa pb W H x0 x1 y0 y1 b5 b9 A D) {R : Exit → Act → World → Prop} {a : Act} {x : World} {val : Nat → Value} (q : Q w x) (oth : ∀ j, j ∉ sPc → a.tmps[j]? = a0.tmps[j]?) (dep : ∀ ed ∈ oPc_17.after, Region.binds .any ed = true → ∀ (s' : Sp3) t', (spPc kind pa pb W H x0 x1 y0 y1 b5 b9 A D)[ed.on]? = some s' → sPc[ed.on]? = some t' → a.tmps[t']? = some (val ed.on) ∧ ∃ lo hi, s'.p (val ed.on) val lo hi x) : Yld Try.prog R oPc_17 a x 40 (fun v x' => (lnS D).p v val x.heap.size x'.heap.size x') := by
  obtain ⟨t9, lo9, hi9, f9⟩ := dep ⟨9, .data⟩ (by simp [oPc_17]) rfl _ 32 rfl rfl
  have f9 : val 9 = (.int .i64 kind) := f9
  rw [f9] at t9
  obtain ⟨t11, lo11, hi11, f11⟩ := dep ⟨11, .data⟩ (by simp [oPc_17]) rfl _ 34 rfl rfl
  have f11 : val 11 = (.int .i64 pb) := f11
  rw [f11] at t11
  obtain ⟨t12, lo12, hi12, f12⟩ := dep ⟨12, .data⟩ (by simp [oPc_17]) rfl _ 35 rfl rfl
  have f12 : val 12 = (.int .i64 H) := f12
  rw [f12] at t12
  obtain ⟨t14, lo14, hi14, f14⟩ := dep ⟨14, .data⟩ (by simp [oPc_17]) rfl _ 37 rfl rfl
  have f14 : val 14 = (.int .i64 y0) := f14
  rw [f14] at t14
  obtain ⟨t16, lo16, hi16, f16⟩ := dep ⟨16, .data⟩ (by simp [oPc_17]) rfl _ 39 rfl rfl
  have f16 : val 16 = (.int .i64 y1) := f16
  rw [f16] at t16
  refine yld_call (enters_of Try.func31 (by kernel_rfl) rfl) (vs := #[.int .i64 kind, .int .i64 pb, .int .i64 H, .int .i64 y0, .int .i64 y1]) (by simp [tmp_eval t9, tmp_eval t11, tmp_eval t12, tmp_eval t14, tmp_eval t16]) ((E.k2 x).mono ?_)
  rintro u x' ⟨v, rfl, h, q'⟩
  exact ⟨v, rfl, q', h⟩
theorem yPc_18 {a0 : Act} {w : World} {kind pa pb W H x0 x1 y0 y1 : Int} {b5 b9 : Nat} {A D : LLs} (E : EnvPc a0 w kind pa pb W H x0 x1 y0 y1 b5 b9 A D) {R : Exit → Act → World → Prop} {a : Act} {x : World} {val : Nat → Value} (q : Q w x) (oth : ∀ j, j ∉ sPc → a.tmps[j]? = a0.tmps[j]?) (dep : ∀ ed ∈ oPc_18.after, Region.binds .any ed = true → ∀ (s' : Sp3) t', (spPc kind pa pb W H x0 x1 y0 y1 b5 b9 A D)[ed.on]? = some s' → sPc[ed.on]? = some t' → a.tmps[t']? = some (val ed.on) ∧ ∃ lo hi, s'.p (val ed.on) val lo hi x) : Yld Try.prog R oPc_18 a x 11 (fun v x' => (bxL).p v val x.heap.size x'.heap.size x') := by
  exact yld_run (x' := x.alloc (.cells #[.int .i64 0, .nilFunc] 72)) rfl (by simp [oPc_18, execOp, go_sem]) ((Q.refl x).cells _ _) ⟨rfl, by simp, by simp [go_sem], by simp [go_sem], fun j => by simp [go_sem]⟩
theorem yPc_19 {a0 : Act} {w : World} {kind pa pb W H x0 x1 y0 y1 : Int} {b5 b9 : Nat} {A D : LLs} (E : EnvPc a0 w kind pa pb W H x0 x1 y0 y1 b5 b9 A D) {R : Exit → Act → World → Prop} {a : Act} {x : World} {val : Nat → Value} (q : Q w x) (oth : ∀ j, j ∉ sPc → a.tmps[j]? = a0.tmps[j]?) (dep : ∀ ed ∈ oPc_19.after, Region.binds .any ed = true → ∀ (s' : Sp3) t', (spPc kind pa pb W H x0 x1 y0 y1 b5 b9 A D)[ed.on]? = some s' → sPc[ed.on]? = some t' → a.tmps[t']? = some (val ed.on) ∧ ∃ lo hi, s'.p (val ed.on) val lo hi x) : Yld Try.prog R oPc_19 a x 12 (fun v x' => (bxL).p v val x.heap.size x'.heap.size x') := by
  exact yld_run (x' := x.alloc (.cells #[.int .i64 0, .nilFunc] 72)) rfl (by simp [oPc_19, execOp, go_sem]) ((Q.refl x).cells _ _) ⟨rfl, by simp, by simp [go_sem], by simp [go_sem], fun j => by simp [go_sem]⟩
theorem hopPc {a0 : Act} {w : World} {kind pa pb W H x0 x1 y0 y1 : Int} {b5 b9 : Nat} {A D : LLs} (E : EnvPc a0 w kind pa pb W H x0 x1 y0 y1 b5 b9 A D) {R : Exit → Act → World → Prop} : ∀ (i t : Nat) (o : Oper) (sp : Sp3) (a : Act) (x : World) (val : Nat → Value), sPc[i]? = some t → opsPc[i]? = some o → (spPc kind pa pb W H x0 x1 y0 y1 b5 b9 A D)[i]? = some sp → Q w x → (∀ j, j ∉ sPc → a.tmps[j]? = a0.tmps[j]?) → (∀ ed ∈ o.after, Region.binds .any ed = true → ∀ (s' : Sp3) t', (spPc kind pa pb W H x0 x1 y0 y1 b5 b9 A D)[ed.on]? = some s' → sPc[ed.on]? = some t' → a.tmps[t']? = some (val ed.on) ∧ ∃ lo hi, s'.p (val ed.on) val lo hi x) → Yld Try.prog R o a x t (fun v x' => sp.p v val x.heap.size x'.heap.size x')
  | 0, t, o, sp, a, x, val, ht, ho, hs, q, oth, dep => by
    have e1 : oPc_0 = o := Option.some.inj ho
    have e2 : 23 = t := Option.some.inj ht
    have e3 := Option.some.inj hs
    subst e1 e2 e3
    exact yPc_0 E q oth dep
  | 1, t, o, sp, a, x, val, ht, ho, hs, q, oth, dep => by
    have e1 : oPc_1 = o := Option.some.inj ho
    have e2 : 24 = t := Option.some.inj ht
    have e3 := Option.some.inj hs
    subst e1 e2 e3
    exact yPc_1 E q oth dep
  | 2, t, o, sp, a, x, val, ht, ho, hs, q, oth, dep => by
    have e1 : oPc_2 = o := Option.some.inj ho
    have e2 : 25 = t := Option.some.inj ht
    have e3 := Option.some.inj hs
    subst e1 e2 e3
    exact yPc_2 E q oth dep
  | 3, t, o, sp, a, x, val, ht, ho, hs, q, oth, dep => by
    have e1 : oPc_3 = o := Option.some.inj ho
    have e2 : 26 = t := Option.some.inj ht
    have e3 := Option.some.inj hs
    subst e1 e2 e3
    exact yPc_3 E q oth dep
  | 4, t, o, sp, a, x, val, ht, ho, hs, q, oth, dep => by
    have e1 : oPc_4 = o := Option.some.inj ho
    have e2 : 27 = t := Option.some.inj ht
    have e3 := Option.some.inj hs
    subst e1 e2 e3
    exact yPc_4 E q oth dep
  | 5, t, o, sp, a, x, val, ht, ho, hs, q, oth, dep => by
    have e1 : oPc_5 = o := Option.some.inj ho
    have e2 : 28 = t := Option.some.inj ht
    have e3 := Option.some.inj hs
    subst e1 e2 e3
    exact yPc_5 E q oth dep
  | 6, t, o, sp, a, x, val, ht, ho, hs, q, oth, dep => by
    have e1 : oPc_6 = o := Option.some.inj ho
    have e2 : 29 = t := Option.some.inj ht
    have e3 := Option.some.inj hs
    subst e1 e2 e3
    exact yPc_6 E q oth dep
  | 7, t, o, sp, a, x, val, ht, ho, hs, q, oth, dep => by
    have e1 : oPc_7 = o := Option.some.inj ho
    have e2 : 30 = t := Option.some.inj ht
    have e3 := Option.some.inj hs
    subst e1 e2 e3
    exact yPc_7 E q oth dep
  | 8, t, o, sp, a, x, val, ht, ho, hs, q, oth, dep => by
    have e1 : oPc_8 = o := Option.some.inj ho
    have e2 : 31 = t := Option.some.inj ht
    have e3 := Option.some.inj hs
    subst e1 e2 e3
    exact yPc_8 E q oth dep
  | 9, t, o, sp, a, x, val, ht, ho, hs, q, oth, dep => by
    have e1 : oPc_9 = o := Option.some.inj ho
    have e2 : 32 = t := Option.some.inj ht
    have e3 := Option.some.inj hs
    subst e1 e2 e3
    exact yPc_9 E q oth dep
  | 10, t, o, sp, a, x, val, ht, ho, hs, q, oth, dep => by
    have e1 : oPc_10 = o := Option.some.inj ho
    have e2 : 33 = t := Option.some.inj ht
    have e3 := Option.some.inj hs
    subst e1 e2 e3
    exact yPc_10 E q oth dep
  | 11, t, o, sp, a, x, val, ht, ho, hs, q, oth, dep => by
    have e1 : oPc_11 = o := Option.some.inj ho
    have e2 : 34 = t := Option.some.inj ht
    have e3 := Option.some.inj hs
    subst e1 e2 e3
    exact yPc_11 E q oth dep
  | 12, t, o, sp, a, x, val, ht, ho, hs, q, oth, dep => by
    have e1 : oPc_12 = o := Option.some.inj ho
    have e2 : 35 = t := Option.some.inj ht
    have e3 := Option.some.inj hs
    subst e1 e2 e3
    exact yPc_12 E q oth dep
  | 13, t, o, sp, a, x, val, ht, ho, hs, q, oth, dep => by
    have e1 : oPc_13 = o := Option.some.inj ho
    have e2 : 36 = t := Option.some.inj ht
    have e3 := Option.some.inj hs
    subst e1 e2 e3
    exact yPc_13 E q oth dep
  | 14, t, o, sp, a, x, val, ht, ho, hs, q, oth, dep => by
    have e1 : oPc_14 = o := Option.some.inj ho
    have e2 : 37 = t := Option.some.inj ht
    have e3 := Option.some.inj hs
    subst e1 e2 e3
    exact yPc_14 E q oth dep
  | 15, t, o, sp, a, x, val, ht, ho, hs, q, oth, dep => by
    have e1 : oPc_15 = o := Option.some.inj ho
    have e2 : 38 = t := Option.some.inj ht
    have e3 := Option.some.inj hs
    subst e1 e2 e3
    exact yPc_15 E q oth dep
  | 16, t, o, sp, a, x, val, ht, ho, hs, q, oth, dep => by
    have e1 : oPc_16 = o := Option.some.inj ho
    have e2 : 39 = t := Option.some.inj ht
    have e3 := Option.some.inj hs
    subst e1 e2 e3
    exact yPc_16 E q oth dep
  | 17, t, o, sp, a, x, val, ht, ho, hs, q, oth, dep => by
    have e1 : oPc_17 = o := Option.some.inj ho
    have e2 : 40 = t := Option.some.inj ht
    have e3 := Option.some.inj hs
    subst e1 e2 e3
    exact yPc_17 E q oth dep
  | 18, t, o, sp, a, x, val, ht, ho, hs, q, oth, dep => by
    have e1 : oPc_18 = o := Option.some.inj ho
    have e2 : 11 = t := Option.some.inj ht
    have e3 := Option.some.inj hs
    subst e1 e2 e3
    exact yPc_18 E q oth dep
  | 19, t, o, sp, a, x, val, ht, ho, hs, q, oth, dep => by
    have e1 : oPc_19 = o := Option.some.inj ho
    have e2 : 12 = t := Option.some.inj ht
    have e3 := Option.some.inj hs
    subst e1 e2 e3
    exact yPc_19 E q oth dep
  | i + 20, t, o, sp, a, x, val, ht, ho, hs, q, oth, dep => by cases ht
set_option maxHeartbeats 1000000 in
theorem regionPc {id : Nat} {l : List Oper} {R : Exit → Act → World → Prop} {a0 : Act} {w : World} {kind pa pb W H x0 x1 y0 y1 : Int} {b5 b9 : Nat} {A D : LLs} (hl : l = opsPc) (hsz : a0.tmps.size = 113) (E : EnvPc a0 w kind pa pb W H x0 x1 y0 y1 b5 b9 A D)
    (hR : ∀ x bA bD g1 g2, TwoL A D bA bD g1 g2 w x → R .normal (putAll a0 [(23, .int .i64 kind), (24, .pointer (some ⟨b5, 0, none⟩)), (25, .int .i64 pa), (26, .int .i64 W), (27, .pointer (some ⟨b9, 0, none⟩)), (28, .int .i64 x0), (29, .pointer (some ⟨b9, 2, none⟩)), (30, .int .i64 x1), (31, .agg #[.int .i64 (A.length : Nat), .func (.func 47) #[] #[.pointer (some ⟨bA, 0, none⟩)]]), (32, .int .i64 kind), (33, .pointer (some ⟨b5, 1, none⟩)), (34, .int .i64 pb), (35, .int .i64 H), (36, .pointer (some ⟨b9, 1, none⟩)), (37, .int .i64 y0), (38, .pointer (some ⟨b9, 3, none⟩)), (39, .int .i64 y1), (40, .agg #[.int .i64 (D.length : Nat), .func (.func 47) #[] #[.pointer (some ⟨bD, 0, none⟩)]]), (11, .pointer (some ⟨g1, 0, none⟩)), (12, .pointer (some ⟨g2, 0, none⟩))]) x) :
    (Code.region id l.toArray true).wp Try.prog R a0 w := by
  subst hl
  refine wp_region_newI 20 sPc (spPc kind pa pb W H x0 x1 y0 y1 b5 b9 A D) [[], [], [], [], [], [], [], [], [], [], [], [], [], [], [], [], [], [], [], []] (by kernel_rfl) (by decide +kernel) (by decide +kernel) rfl (by decide) (fun t ht => ?_) (hopPc E) (fun a x val iv q size defers other facts ivs apart => ?_)
  · rw [hsz]
    revert t
    decide
  · obtain ⟨t0, f0⟩ := facts 0 23 _ rfl rfl
    have f0 : val 0 = (.int .i64 kind) := f0
    rw [f0] at t0
    obtain ⟨t1, f1⟩ := facts 1 24 _ rfl rfl
    have f1 : val 1 = (.pointer (some ⟨b5, 0, none⟩)) := f1
    rw [f1] at t1
    obtain ⟨t2, f2⟩ := facts 2 25 _ rfl rfl
    have f2 : val 2 = (.int .i64 pa) := f2
    rw [f2] at t2
    obtain ⟨t3, f3⟩ := facts 3 26 _ rfl rfl
    have f3 : val 3 = (.int .i64 W) := f3
    rw [f3] at t3
    obtain ⟨t4, f4⟩ := facts 4 27 _ rfl rfl
    have f4 : val 4 = (.pointer (some ⟨b9, 0, none⟩)) := f4
    rw [f4] at t4
    obtain ⟨t5, f5⟩ := facts 5 28 _ rfl rfl
    have f5 : val 5 = (.int .i64 x0) := f5
    rw [f5] at t5
    obtain ⟨t6, f6⟩ := facts 6 29 _ rfl rfl
    have f6 : val 6 = (.pointer (some ⟨b9, 2, none⟩)) := f6
    rw [f6] at t6
    obtain ⟨t7, f7⟩ := facts 7 30 _ rfl rfl
    have f7 : val 7 = (.int .i64 x1) := f7
    rw [f7] at t7
    obtain ⟨t8, f8⟩ := facts 8 31 _ rfl rfl
    obtain ⟨t9, f9⟩ := facts 9 32 _ rfl rfl
    have f9 : val 9 = (.int .i64 kind) := f9
    rw [f9] at t9
    obtain ⟨t10, f10⟩ := facts 10 33 _ rfl rfl
    have f10 : val 10 = (.pointer (some ⟨b5, 1, none⟩)) := f10
    rw [f10] at t10
    obtain ⟨t11, f11⟩ := facts 11 34 _ rfl rfl
    have f11 : val 11 = (.int .i64 pb) := f11
    rw [f11] at t11
    obtain ⟨t12, f12⟩ := facts 12 35 _ rfl rfl
    have f12 : val 12 = (.int .i64 H) := f12
    rw [f12] at t12
    obtain ⟨t13, f13⟩ := facts 13 36 _ rfl rfl
    have f13 : val 13 = (.pointer (some ⟨b9, 1, none⟩)) := f13
    rw [f13] at t13
    obtain ⟨t14, f14⟩ := facts 14 37 _ rfl rfl
    have f14 : val 14 = (.int .i64 y0) := f14
    rw [f14] at t14
    obtain ⟨t15, f15⟩ := facts 15 38 _ rfl rfl
    have f15 : val 15 = (.pointer (some ⟨b9, 3, none⟩)) := f15
    rw [f15] at t15
    obtain ⟨t16, f16⟩ := facts 16 39 _ rfl rfl
    have f16 : val 16 = (.int .i64 y1) := f16
    rw [f16] at t16
    obtain ⟨t17, f17⟩ := facts 17 40 _ rfl rfl
    obtain ⟨t18, f18⟩ := facts 18 11 _ rfl rfl
    obtain ⟨t19, f19⟩ := facts 19 12 _ rfl rfl
    have hA8 := f8
    have hD17 := f17
    obtain ⟨bA, gA, vA, _⟩ := f8
    obtain ⟨bD, gD, vD, _⟩ := f17
    obtain ⟨e18, l18, c180, c181, z18⟩ := f18
    obtain ⟨e19, l19, c190, c191, z19⟩ := f19
    have i8 := ivs 8 (by decide)
    have i17 := ivs 17 (by decide)
    have i18 := ivs 18 (by decide)
    have i19 := ivs 19 (by decide)
    have a818 := apart 8 18 (by decide) (by decide) (by decide)
    have a819 := apart 8 19 (by decide) (by decide) (by decide)
    have a1718 := apart 17 18 (by decide) (by decide) (by decide)
    have a1719 := apart 17 19 (by decide) (by decide) (by decide)
    have a1819 := apart 18 19 (by decide) (by decide) (by decide)
    rw [vA.v] at t8
    rw [vD.v] at t17
    rw [e18] at t18
    rw [e19] at t19
    have vAe := vA.v
    have vDe := vD.v
    rw [vAe] at hA8
    rw [vDe] at hD17
    generalize (iv 18).1 = g1 at *
    generalize (iv 19).1 = g2 at *
    have hA := act_puts (a := a) (a0 := a0) [(23, .int .i64 kind), (24, .pointer (some ⟨b5, 0, none⟩)), (25, .int .i64 pa), (26, .int .i64 W), (27, .pointer (some ⟨b9, 0, none⟩)), (28, .int .i64 x0), (29, .pointer (some ⟨b9, 2, none⟩)), (30, .int .i64 x1), (31, .agg #[.int .i64 (A.length : Nat), .func (.func 47) #[] #[.pointer (some ⟨bA, 0, none⟩)]]), (32, .int .i64 kind), (33, .pointer (some ⟨b5, 1, none⟩)), (34, .int .i64 pb), (35, .int .i64 H), (36, .pointer (some ⟨b9, 1, none⟩)), (37, .int .i64 y0), (38, .pointer (some ⟨b9, 3, none⟩)), (39, .int .i64 y1), (40, .agg #[.int .i64 (D.length : Nat), .func (.func 47) #[] #[.pointer (some ⟨bD, 0, none⟩)]]), (11, .pointer (some ⟨g1, 0, none⟩)), (12, .pointer (some ⟨g2, 0, none⟩))] (show ([23, 24, 25, 26, 27, 28, 29, 30, 31, 32, 33, 34, 35, 36, 37, 38, 39, 40, 11, 12] : List Nat).Nodup by decide) size defers (fun j hj => other j (by simpa [sPc] using hj)) (fun r hr => ?_)
    · refine ⟨?_⟩
      have hne : g1 ≠ g2 := by omega
      have k190 : ((x.setCell ⟨g1, 0, none⟩ (.int .i64 (A.length : Nat))).setCell ⟨g1, 1, none⟩ (.func (.func 47) #[] #[.pointer (some ⟨bA, 0, none⟩)])).cell? ⟨g2, 0, none⟩ = some (.int .i64 0) := (World.cell?_setCell_other _ _ _ _ (fun e => by injection e with e; omega)).trans ((World.cell?_setCell_other _ _ _ _ (fun e => by injection e with e; omega)).trans c190)
      have k191 : ((x.setCell ⟨g1, 0, none⟩ (.int .i64 (A.length : Nat))).setCell ⟨g1, 1, none⟩ (.func (.func 47) #[] #[.pointer (some ⟨bA, 0, none⟩)])).cell? ⟨g2, 1, none⟩ = some .nilFunc := (World.cell?_setCell_other _ _ _ _ (fun e => by injection e with e; omega)).trans ((World.cell?_setCell_other _ _ _ _ (fun e => by injection e with e; omega)).trans c191)
      have z19' : ∀ j, ((x.setCell ⟨g1, 0, none⟩ (.int .i64 (A.length : Nat))).setCell ⟨g1, 1, none⟩ (.func (.func 47) #[] #[.pointer (some ⟨bA, 0, none⟩)])).frozen? ⟨g2, j, none⟩ = false := fun j => by rw [World.frozen?_setCell, World.frozen?_setCell]; exact z19 j
      refine post_skip (x' := (x.setCell ⟨g1, 0, none⟩ (.int .i64 (A.length : Nat))).setCell ⟨g1, 1, none⟩ (.func (.func 47) #[] #[.pointer (some ⟨bA, 0, none⟩)])) rfl (by simp [oPc_20, execOp, t8, t18, go_sem, c180, c181, z18]) ?_
      refine post_skip (x' := (((x.setCell ⟨g1, 0, none⟩ (.int .i64 (A.length : Nat))).setCell ⟨g1, 1, none⟩ (.func (.func 47) #[] #[.pointer (some ⟨bA, 0, none⟩)])).setCell ⟨g2, 0, none⟩ (.int .i64 (D.length : Nat))).setCell ⟨g2, 1, none⟩ (.func (.func 47) #[] #[.pointer (some ⟨bD, 0, none⟩)])) rfl (run_stl t17 t19 k190 k191 z19') ?_
      show R .normal a _
      rw [hA]
      refine hR _ bA bD g1 g2 ⟨?_, ?_, ?_, ?_, ?_, ?_, ?_, hne, ?_, ?_⟩
      · exact (((q.set (show w.heap.size ≤ g1 by omega) _).set (show w.heap.size ≤ g1 by omega) _).set (show w.heap.size ≤ g2 by omega) _).set (show w.heap.size ≤ g2 by omega) _
      · exact ((((hA8.other (p := ⟨g1, 0, none⟩) (by show g1 < _ ∨ _ ≤ g1; omega) _).other (p := ⟨g1, 1, none⟩) (by show g1 < _ ∨ _ ≤ g1; omega) _).other (p := ⟨g2, 0, none⟩) (by show g2 < _ ∨ _ ≤ g2; omega) _).other (p := ⟨g2, 1, none⟩) (by show g2 < _ ∨ _ ≤ g2; omega) _).x
      · exact ((((hD17.other (p := ⟨g1, 0, none⟩) (by show g1 < _ ∨ _ ≤ g1; omega) _).other (p := ⟨g1, 1, none⟩) (by show g1 < _ ∨ _ ≤ g1; omega) _).other (p := ⟨g2, 0, none⟩) (by show g2 < _ ∨ _ ≤ g2; omega) _).other (p := ⟨g2, 1, none⟩) (by show g2 < _ ∨ _ ≤ g2; omega) _).x
      · rw [World.cell?_setCell_other _ _ _ _ (fun e => by injection e with e; omega), World.cell?_setCell_other _ _ _ _ (fun e => by injection e with e; omega), World.cell?_setCell_other _ _ _ _ (fun e => by injection e with _ e; cases e)]; exact World.cell?_setCell_same _ _ _ c180
      · rw [World.cell?_setCell_other _ _ _ _ (fun e => by injection e with e; omega), World.cell?_setCell_other _ _ _ _ (fun e => by injection e with e; omega)]; exact World.cell?_setCell_same _ _ _ ((World.cell?_setCell_other _ _ _ _ (fun e => by injection e with _ e; cases e)).trans c181)
      · rw [World.cell?_setCell_other _ _ _ _ (fun e => by injection e with _ e; cases e)]; exact World.cell?_setCell_same _ _ _ k190
      · exact World.cell?_setCell_same _ _ _ ((World.cell?_setCell_other _ _ _ _ (fun e => by injection e with _ e; cases e)).trans k191)
      · omega
      · omega
    · simp only [List.mem_cons, List.not_mem_nil, or_false] at hr
      rcases hr with rfl | rfl | rfl | rfl | rfl | rfl | rfl | rfl | rfl | rfl | rfl | rfl | rfl | rfl | rfl | rfl | rfl | rfl | rfl | rfl
      · exact t0
      · exact t1
      · exact t2
      · exact t3
      · exact t4
      · exact t5
      · exact t6
      · exact t7
      · exact t8
      · exact t9
      · exact t10
      · exact t11
      · exact t12
      · exact t13
      · exact t14
      · exact t15
      · exact t16
      · exact t17
      · exact t18
      · exact t19
set_option maxRecDepth 100000 in
theorem normPc {t0 t1 t2 t3 t4 t5 t6 t7 t8 t9 t10 t11 t12 t13 t14 t15 t16 t17 t18 t19 t20 t21 t22 t23 t24 t25 t26 t27 t28 t29 t30 t31 t32 t33 t34 t35 t36 t37 t38 t39 t40 t41 t42 t43 t44 t45 t46 t47 t48 t49 t50 t51 t52 t53 t54 t55 t56 t57 t58 t59 t60 t61 t62 t63 t64 t65 t66 t67 t68 t69 t70 t71 t72 t73 t74 t75 t76 t77 t78 t79 t80 t81 t82 t83 t84 t85 t86 t87 t88 t89 t90 t91 t92 t93 t94 t95 t96 t97 t98 t99 t100 t101 t102 t103 t104 t105 t106 t107 t108 t109 t110 t111 t112 v23 v24 v25 v26 v27 v28 v29 v30 v31 v32 v33 v34 v35 v36 v37 v38 v39 v40 v11 v12 : Value} {d : List Deferred} : putAll ⟨#[t0, t1, t2, t3, t4, t5, t6, t7, t8, t9, t10, t11, t12, t13, t14, t15, t16, t17, t18, t19, t20, t21, t22, t23, t24, t25, t26, t27, t28, t29, t30, t31, t32, t33, t34, t35, t36, t37, t38, t39, t40, t41, t42, t43, t44, t45, t46, t47, t48, t49, t50, t51, t52, t53, t54, t55, t56, t57, t58, t59, t60, t61, t62, t63, t64, t65, t66, t67, t68, t69, t70, t71, t72, t73, t74, t75, t76, t77, t78, t79, t80, t81, t82, t83, t84, t85, t86, t87, t88, t89, t90, t91, t92, t93, t94, t95, t96, t97, t98, t99, t100, t101, t102, t103, t104, t105, t106, t107, t108, t109, t110, t111, t112], d⟩ [(23, v23), (24, v24), (25, v25), (26, v26), (27, v27), (28, v28), (29, v29), (30, v30), (31, v31), (32, v32), (33, v33), (34, v34), (35, v35), (36, v36), (37, v37), (38, v38), (39, v39), (40, v40), (11, v11), (12, v12)] = ⟨#[t0, t1, t2, t3, t4, t5, t6, t7, t8, t9, t10, v11, v12, t13, t14, t15, t16, t17, t18, t19, t20, t21, t22, v23, v24, v25, v26, v27, v28, v29, v30, v31, v32, v33, v34, v35, v36, v37, v38, v39, v40, t41, t42, t43, t44, t45, t46, t47, t48, t49, t50, t51, t52, t53, t54, t55, t56, t57, t58, t59, t60, t61, t62, t63, t64, t65, t66, t67, t68, t69, t70, t71, t72, t73, t74, t75, t76, t77, t78, t79, t80, t81, t82, t83, t84, t85, t86, t87, t88, t89, t90, t91, t92, t93, t94, t95, t96, t97, t98, t99, t100, t101, t102, t103, t104, t105, t106, t107, t108, t109, t110, t111, t112], d⟩ := by
  kernel_rfl
end Go.Proofs.Ytdbbpmadkhedlaa
