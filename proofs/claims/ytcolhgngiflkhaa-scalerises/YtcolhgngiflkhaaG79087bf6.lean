/- piece: the plane that is told, made in whatever order. -/
import Derived.Test.YtcolhgngiflkhaaG50c16f84
import Derived.Test.YtcolhgngiflkhaaG9907aa2c
namespace Go.Proofs.Ytcolhgngiflkhaa
open Go.RowKit
set_option linter.unusedVariables false
set_option linter.unusedSimpArgs false

/-- Samples that lie at the head of a block, and may be written over. -/
structure URow (x : World) (g : Nat) (zs : List Nat) : Prop where
  cell : ∀ i z, zs[i]? = some z → x.cell? ⟨g, i, none⟩ = some (.int .u32 (z : Nat))
  free : ∀ j, x.frozen? ⟨g, j, none⟩ = false
theorem URow.next {x x' : World} {g : Nat} {zs : List Nat} (h : URow x g zs) (q : Q x x') : URow x' g zs := ⟨fun i z hi => q.cell (h.cell i z hi), fun j => by rw [q.2]; exact h.free j⟩
theorem URow.other {x : World} {g : Nat} {zs : List Nat} (h : URow x g zs) {p : Addr} (hp : p.block ≠ g) (v : Value) : URow (x.setCell p v) g zs :=
  ⟨fun i z hi => (World.cell?_setCell_other _ _ _ _ (fun e => hp (by rw [e]))).trans (h.cell i z hi), fun j => by rw [World.frozen?_setCell]; exact h.free j⟩
theorem URow.set {x : World} {g : Nat} {zs : List Nat} (h : URow x g zs) {i : Nat} (hi : i < zs.length) (z : Nat) : URow (x.setCell ⟨g, i, none⟩ (.int .u32 (z : Nat))) g (zs.set i z) := by
  refine ⟨fun k u hk => ?_, fun j => by rw [World.frozen?_setCell]; exact h.free j⟩
  by_cases e : i = k
  · subst e
    rw [List.getElem?_set_self hi] at hk
    cases hk
    exact World.cell?_setCell_same _ _ _ (h.cell i _ (List.getElem?_eq_getElem hi))
  · rw [List.getElem?_set_ne e] at hk
    rw [World.cell?_setCell_other _ _ _ _ (fun e' => e (by injection e'))]
    exact h.cell k u hk
theorem URow.uis {x : World} {g : Nat} {zs : List Nat} (h : URow x g zs) : UIs x g 0 zs := fun i hi => by
  rw [Nat.zero_add, List.getD_eq_getElem?_getD, List.getElem?_eq_getElem hi]
  exact h.cell i _ (List.getElem?_eq_getElem hi)
theorem urow_fill {w x : World} {b n : Nat} (h : Fill w x b n (fun _ => 0) n) : URow x b (List.replicate n 0) := by
  refine ⟨fun i z hi => ?_, h.free⟩
  rw [List.getElem?_replicate] at hi
  split at hi
  · rename_i hlt
    cases hi
    exact h.done i hlt
  · cases hi
/-- Lists told place by place. -/
def tabN (n : Nat) (f : Nat → Nat) : List Nat := (List.range n).map f
theorem tabN_len (n : Nat) (f : Nat → Nat) : (tabN n f).length = n := by simp [tabN]
theorem tabN_at {n : Nat} {f : Nat → Nat} {i : Nat} (h : i < n) : (tabN n f)[i]? = some (f i) := by unfold tabN; rw [List.getElem?_map, List.getElem?_range h]; rfl
theorem tabN_set {n : Nat} {f g : Nat → Nat} {k : Nat} {v : Nat} (hv : v = g k) (hs : ∀ i, i < n → i ≠ k → g i = f i) : (tabN n f).set k v = tabN n g := by
  apply List.ext_getElem?
  intro i
  by_cases hi : i < n
  · rw [tabN_at hi]
    by_cases e : k = i
    · subst e; rw [List.getElem?_set_self (by rw [tabN_len]; exact hi), hv]
    · rw [List.getElem?_set_ne e, tabN_at hi, hs i hi (fun h => e h.symm)]
  · rw [List.getElem?_eq_none (by rw [List.length_set, tabN_len]; omega), List.getElem?_eq_none (by rw [tabN_len]; omega)]
theorem tabN_zero (n : Nat) : List.replicate n (0 : Nat) = tabN n (fun _ => 0) := by
  apply List.ext_getElem?
  intro i
  by_cases hi : i < n
  · rw [tabN_at hi, List.getElem?_replicate, if_pos hi]
  · rw [List.getElem?_eq_none (by simp; omega), List.getElem?_eq_none (by rw [tabN_len]; omega)]
theorem tabN_congr {n : Nat} {f g : Nat → Nat} (h : ∀ i, i < n → f i = g i) : tabN n f = tabN n g := List.map_congr_left (fun i hi => h i (List.mem_range.1 hi))
/-- A row of noughts that is made. -/
def rwU (n : Nat) : Sp3 := iP (fun v lo hi x => v = .slice (some ⟨lo, 0, none⟩) n n ∧ lo < hi ∧ URow x lo (List.replicate n 0)) (fun v lo hi x x' ⟨h1, h2, h3⟩ q => ⟨h1, h2, h3.next q⟩)
def iB9 (nA nD j : Nat) : Sp3 := ⟨fun v val _ _ _ => v = .agg #[.int .i64 (nA : Nat), .int .i64 (nD : Nat), val j], [j], fun h _ e => by rw [h, e j (by simp)]⟩
/-- A new box for a plane. -/
def bxP : Sp3 := iP (fun v lo hi x => v = .pointer (some ⟨lo, 0, none⟩) ∧ lo < hi ∧ x.cell? ⟨lo, 0, none⟩ = some (.int .i64 0) ∧ x.cell? ⟨lo, 1, none⟩ = some (.int .i64 0) ∧ x.cell? ⟨lo, 2, none⟩ = some (.slice none 0 0) ∧ ∀ j, x.frozen? ⟨lo, j, none⟩ = false)
  (fun v lo hi x x' ⟨h1, h2, h3, h4, h5, h6⟩ q => ⟨h1, h2, q.cell h3, q.cell h4, q.cell h5, fun j => by rw [q.2]; exact h6 j⟩)
structure PlN (nA nD n gt g16 : Nat) (w x : World) : Prop where
  q : Q w x
  l1 : w.heap.size ≤ gt
  l2 : w.heap.size ≤ g16
  ne : gt ≠ g16
  row : URow x gt (List.replicate n 0)
  c0 : x.cell? ⟨g16, 0, none⟩ = some (.int .i64 (nA : Nat))
  c1 : x.cell? ⟨g16, 1, none⟩ = some (.int .i64 (nD : Nat))
  c2 : x.cell? ⟨g16, 2, none⟩ = some (.slice (some ⟨gt, 0, none⟩) n n)
def oPd_0 : Oper := { dst := some 49, op := .fieldAddr 55 (.tmp 11) 0, type := 0, pos := "scale.go:73", after := #[], guard := none }
def oPd_1 : Oper := { dst := some 50, op := .load 3 (.tmp 49), type := 3, pos := "scale.go:73", after := #[⟨0, .data⟩], guard := none }
def oPd_2 : Oper := { dst := some 51, op := .fieldAddr 55 (.tmp 12) 0, type := 0, pos := "scale.go:73", after := #[], guard := none }
def oPd_3 : Oper := { dst := some 52, op := .load 3 (.tmp 51), type := 3, pos := "scale.go:73", after := #[⟨2, .data⟩], guard := none }
def oPd_4 : Oper := { dst := some 53, op := .fieldAddr 55 (.tmp 11) 0, type := 0, pos := "scale.go:73", after := #[], guard := none }
def oPd_5 : Oper := { dst := some 54, op := .load 3 (.tmp 53), type := 3, pos := "scale.go:73", after := #[⟨4, .data⟩], guard := none }
def oPd_6 : Oper := { dst := some 55, op := .fieldAddr 55 (.tmp 12) 0, type := 0, pos := "scale.go:73", after := #[], guard := none }
def oPd_7 : Oper := { dst := some 56, op := .load 3 (.tmp 55), type := 3, pos := "scale.go:73", after := #[⟨6, .data⟩], guard := none }
def oPd_8 : Oper := { dst := some 57, op := .binOp .mul 3 (.tmp 54) (.tmp 56) 3, type := 3, pos := "scale.go:73", after := #[⟨5, .data⟩, ⟨7, .data⟩], guard := none }
def oPd_9 : Oper := { dst := some 58, op := .makeSlice 22 (.tmp 57) (.tmp 57), type := 22, pos := "scale.go:73", after := #[⟨8, .data⟩, ⟨8, .data⟩], guard := none }
def oPd_10 : Oper := { dst := some 59, op := .build 24 #[(0, .tmp 50), (1, .tmp 52), (2, .tmp 58)], type := 24, pos := "scale.go:73", after := #[⟨1, .data⟩, ⟨3, .data⟩, ⟨9, .data⟩], guard := none }
def oPd_11 : Oper := { dst := some 16, op := .alloc 24, type := 0, pos := "scale.go:73", after := #[], guard := none }
def oPd_12 : Oper := { dst := none, op := .store 24 (.tmp 16) (.tmp 59), type := 0, pos := "scale.go:73", after := #[⟨11, .data⟩, ⟨10, .data⟩, ⟨0, .phase⟩, ⟨1, .phase⟩, ⟨2, .phase⟩, ⟨3, .phase⟩, ⟨4, .phase⟩, ⟨5, .phase⟩, ⟨6, .phase⟩, ⟨7, .phase⟩, ⟨8, .phase⟩, ⟨9, .phase⟩, ⟨10, .phase⟩, ⟨11, .phase⟩], guard := none }
def opsPd : List Oper := [oPd_0, oPd_1, oPd_2, oPd_3, oPd_4, oPd_5, oPd_6, oPd_7, oPd_8, oPd_9, oPd_10, oPd_11, oPd_12]
def sPd : List Nat := [49, 50, 51, 52, 53, 54, 55, 56, 57, 58, 59, 16]
def spPd (nA nD n : Nat) (g1 g2 : Nat) : List Sp3 := [iV (.pointer (some ⟨g1, 0, none⟩)), iV (.int .i64 (nA : Nat)), iV (.pointer (some ⟨g2, 0, none⟩)), iV (.int .i64 (nD : Nat)), iV (.pointer (some ⟨g1, 0, none⟩)), iV (.int .i64 (nA : Nat)), iV (.pointer (some ⟨g2, 0, none⟩)), iV (.int .i64 (nD : Nat)), iV (.int .i64 (n : Nat)), rwU n, iB9 nA nD 9, bxP]
structure EnvPd (a0 : Act) (w : World) (nA nD n : Nat) (g1 g2 : Nat) : Prop where
  h11 : a0.tmps[11]? = some (.pointer (some ⟨g1, 0, none⟩))
  h12 : a0.tmps[12]? = some (.pointer (some ⟨g2, 0, none⟩))
  c10 : w.cell? ⟨g1, 0, none⟩ = some (.int .i64 (nA : Nat))
  c20 : w.cell? ⟨g2, 0, none⟩ = some (.int .i64 (nD : Nat))
  hn : n ≤ 1099511627776
  hw : IntKind.i64.wrap ((nA : Int) * (nD : Int)) = (n : Int)
theorem yPd_0 {a0 : Act} {w : World} {nA nD n : Nat} {g1 g2 : Nat} (E : EnvPd a0 w nA nD n g1 g2) {R : Exit → Act → World → Prop} {a : Act} {x : World} {val : Nat → Value} (q : Q w x) (oth : ∀ j, j ∉ sPd → a.tmps[j]? = a0.tmps[j]?) (dep : ∀ ed ∈ oPd_0.after, Region.binds .any ed = true → ∀ (s' : Sp3) t', (spPd nA nD n g1 g2)[ed.on]? = some s' → sPd[ed.on]? = some t' → a.tmps[t']? = some (val ed.on) ∧ ∃ lo hi, s'.p (val ed.on) val lo hi x) : Yld Try.prog R oPd_0 a x 49 (fun v x' => (iV (.pointer (some ⟨g1, 0, none⟩))).p v val x.heap.size x'.heap.size x') := by
  have tt := (oth 11 (by decide)).trans E.h11
  exact yld_run (x' := x) rfl (by simp [oPd_0, execOp, tt, go_sem]) (Q.refl x) rfl
theorem yPd_1 {a0 : Act} {w : World} {nA nD n : Nat} {g1 g2 : Nat} (E : EnvPd a0 w nA nD n g1 g2) {R : Exit → Act → World → Prop} {a : Act} {x : World} {val : Nat → Value} (q : Q w x) (oth : ∀ j, j ∉ sPd → a.tmps[j]? = a0.tmps[j]?) (dep : ∀ ed ∈ oPd_1.after, Region.binds .any ed = true → ∀ (s' : Sp3) t', (spPd nA nD n g1 g2)[ed.on]? = some s' → sPd[ed.on]? = some t' → a.tmps[t']? = some (val ed.on) ∧ ∃ lo hi, s'.p (val ed.on) val lo hi x) : Yld Try.prog R oPd_1 a x 50 (fun v x' => (iV (.int .i64 (nA : Nat))).p v val x.heap.size x'.heap.size x') := by
  obtain ⟨t0, lo0, hi0, f0⟩ := dep ⟨0, .data⟩ (by simp [oPd_1]) rfl _ 49 rfl rfl
  have f0 : val 0 = (.pointer (some ⟨g1, 0, none⟩)) := f0
  rw [f0] at t0
  have cc := q.cell E.c10
  exact yld_run (x' := x) rfl (by simp [oPd_1, execOp, t0, go_sem, cc]) (Q.refl x) rfl
theorem yPd_2 {a0 : Act} {w : World} {nA nD n : Nat} {g1 g2 : Nat} (E : EnvPd a0 w nA nD n g1 g2) {R : Exit → Act → World → Prop} {a : Act} {x : World} {val : Nat → Value} (q : Q w x) (oth : ∀ j, j ∉ sPd → a.tmps[j]? = a0.tmps[j]?) (dep : ∀ ed ∈ oPd_2.after, Region.binds .any ed = true → ∀ (s' : Sp3) t', (spPd nA nD n g1 g2)[ed.on]? = some s' → sPd[ed.on]? = some t' → a.tmps[t']? = some (val ed.on) ∧ ∃ lo hi, s'.p (val ed.on) val lo hi x) : Yld Try.prog R oPd_2 a x 51 (fun v x' => (iV (.pointer (some ⟨g2, 0, none⟩))).p v val x.heap.size x'.heap.size x') := by
  have tt := (oth 12 (by decide)).trans E.h12
  exact yld_run (x' := x) rfl (by simp [oPd_2, execOp, tt, go_sem]) (Q.refl x) rfl
theorem yPd_3 {a0 : Act} {w : World} {nA nD n : Nat} {g1 g2 : Nat} (E : EnvPd a0 w nA nD n g1 g2) {R : Exit → Act → World → Prop} {a : Act} {x : World} {val : Nat → Value} (q : Q w x) (oth : ∀ j, j ∉ sPd → a.tmps[j]? = a0.tmps[j]?) (dep : ∀ ed ∈ oPd_3.after, Region.binds .any ed = true → ∀ (s' : Sp3) t', (spPd nA nD n g1 g2)[ed.on]? = some s' → sPd[ed.on]? = some t' → a.tmps[t']? = some (val ed.on) ∧ ∃ lo hi, s'.p (val ed.on) val lo hi x) : Yld Try.prog R oPd_3 a x 52 (fun v x' => (iV (.int .i64 (nD : Nat))).p v val x.heap.size x'.heap.size x') := by
  obtain ⟨t2, lo2, hi2, f2⟩ := dep ⟨2, .data⟩ (by simp [oPd_3]) rfl _ 51 rfl rfl
  have f2 : val 2 = (.pointer (some ⟨g2, 0, none⟩)) := f2
  rw [f2] at t2
  have cc := q.cell E.c20
  exact yld_run (x' := x) rfl (by simp [oPd_3, execOp, t2, go_sem, cc]) (Q.refl x) rfl
theorem yPd_4 {a0 : Act} {w : World} {nA nD n : Nat} {g1 g2 : Nat} (E : EnvPd a0 w nA nD n g1 g2) {R : Exit → Act → World → Prop} {a : Act} {x : World} {val : Nat → Value} (q : Q w x) (oth : ∀ j, j ∉ sPd → a.tmps[j]? = a0.tmps[j]?) (dep : ∀ ed ∈ oPd_4.after, Region.binds .any ed = true → ∀ (s' : Sp3) t', (spPd nA nD n g1 g2)[ed.on]? = some s' → sPd[ed.on]? = some t' → a.tmps[t']? = some (val ed.on) ∧ ∃ lo hi, s'.p (val ed.on) val lo hi x) : Yld Try.prog R oPd_4 a x 53 (fun v x' => (iV (.pointer (some ⟨g1, 0, none⟩))).p v val x.heap.size x'.heap.size x') := by
  have tt := (oth 11 (by decide)).trans E.h11
  exact yld_run (x' := x) rfl (by simp [oPd_4, execOp, tt, go_sem]) (Q.refl x) rfl
theorem yPd_5 {a0 : Act} {w : World} {nA nD n : Nat} {g1 g2 : Nat} (E : EnvPd a0 w nA nD n g1 g2) {R : Exit → Act → World → Prop} {a : Act} {x : World} {val : Nat → Value} (q : Q w x) (oth : ∀ j, j ∉ sPd → a.tmps[j]? = a0.tmps[j]?) (dep : ∀ ed ∈ oPd_5.after, Region.binds .any ed = true → ∀ (s' : Sp3) t', (spPd nA nD n g1 g2)[ed.on]? = some s' → sPd[ed.on]? = some t' → a.tmps[t']? = some (val ed.on) ∧ ∃ lo hi, s'.p (val ed.on) val lo hi x) : Yld Try.prog R oPd_5 a x 54 (fun v x' => (iV (.int .i64 (nA : Nat))).p v val x.heap.size x'.heap.size x') := by
  obtain ⟨t4, lo4, hi4, f4⟩ := dep ⟨4, .data⟩ (by simp [oPd_5]) rfl _ 53 rfl rfl
  have f4 : val 4 = (.pointer (some ⟨g1, 0, none⟩)) := f4
  rw [f4] at t4
  have cc := q.cell E.c10
  exact yld_run (x' := x) rfl (by simp [oPd_5, execOp, t4, go_sem, cc]) (Q.refl x) rfl
theorem yPd_6 {a0 : Act} {w : World} {nA nD n : Nat} {g1 g2 : Nat} (E : EnvPd a0 w nA nD n g1 g2) {R : Exit → Act → World → Prop} {a : Act} {x : World} {val : Nat → Value} (q : Q w x) (oth : ∀ j, j ∉ sPd → a.tmps[j]? = a0.tmps[j]?) (dep : ∀ ed ∈ oPd_6.after, Region.binds .any ed = true → ∀ (s' : Sp3) t', (spPd nA nD n g1 g2)[ed.on]? = some s' → sPd[ed.on]? = some t' → a.tmps[t']? = some (val ed.on) ∧ ∃ lo hi, s'.p (val ed.on) val lo hi x) : Yld Try.prog R oPd_6 a x 55 (fun v x' => (iV (.pointer (some ⟨g2, 0, none⟩))).p v val x.heap.size x'.heap.size x') := by
  have tt := (oth 12 (by decide)).trans E.h12
  exact yld_run (x' := x) rfl (by simp [oPd_6, execOp, tt, go_sem]) (Q.refl x) rfl
theorem yPd_7 {a0 : Act} {w : World} {nA nD n : Nat} {g1 g2 : Nat} (E : EnvPd a0 w nA nD n g1 g2) {R : Exit → Act → World → Prop} {a : Act} {x : World} {val : Nat → Value} (q : Q w x) (oth : ∀ j, j ∉ sPd → a.tmps[j]? = a0.tmps[j]?) (dep : ∀ ed ∈ oPd_7.after, Region.binds .any ed = true → ∀ (s' : Sp3) t', (spPd nA nD n g1 g2)[ed.on]? = some s' → sPd[ed.on]? = some t' → a.tmps[t']? = some (val ed.on) ∧ ∃ lo hi, s'.p (val ed.on) val lo hi x) : Yld Try.prog R oPd_7 a x 56 (fun v x' => (iV (.int .i64 (nD : Nat))).p v val x.heap.size x'.heap.size x') := by
  obtain ⟨t6, lo6, hi6, f6⟩ := dep ⟨6, .data⟩ (by simp [oPd_7]) rfl _ 55 rfl rfl
  have f6 : val 6 = (.pointer (some ⟨g2, 0, none⟩)) := f6
  rw [f6] at t6
  have cc := q.cell E.c20
  exact yld_run (x' := x) rfl (by simp [oPd_7, execOp, t6, go_sem, cc]) (Q.refl x) rfl
theorem yPd_8 {a0 : Act} {w : World} {nA nD n : Nat} {g1 g2 : Nat} (E : EnvPd a0 w nA nD n g1 g2) {R : Exit → Act → World → Prop} {a : Act} {x : World} {val : Nat → Value} (q : Q w x) (oth : ∀ j, j ∉ sPd → a.tmps[j]? = a0.tmps[j]?) (dep : ∀ ed ∈ oPd_8.after, Region.binds .any ed = true → ∀ (s' : Sp3) t', (spPd nA nD n g1 g2)[ed.on]? = some s' → sPd[ed.on]? = some t' → a.tmps[t']? = some (val ed.on) ∧ ∃ lo hi, s'.p (val ed.on) val lo hi x) : Yld Try.prog R oPd_8 a x 57 (fun v x' => (iV (.int .i64 (n : Nat))).p v val x.heap.size x'.heap.size x') := by
  obtain ⟨t5, lo5, hi5, f5⟩ := dep ⟨5, .data⟩ (by simp [oPd_8]) rfl _ 54 rfl rfl
  have f5 : val 5 = (.int .i64 (nA : Nat)) := f5
  rw [f5] at t5
  obtain ⟨t7, lo7, hi7, f7⟩ := dep ⟨7, .data⟩ (by simp [oPd_8]) rfl _ 56 rfl rfl
  have f7 : val 7 = (.int .i64 (nD : Nat)) := f7
  rw [f7] at t7
  have hw := E.hw
  exact yld_run (x' := x) rfl (by simp [oPd_8, execOp, t5, t7, go_sem, hw]) (Q.refl x) rfl
theorem yPd_9 {a0 : Act} {w : World} {nA nD n : Nat} {g1 g2 : Nat} (E : EnvPd a0 w nA nD n g1 g2) {R : Exit → Act → World → Prop} {a : Act} {x : World} {val : Nat → Value} (q : Q w x) (oth : ∀ j, j ∉ sPd → a.tmps[j]? = a0.tmps[j]?) (dep : ∀ ed ∈ oPd_9.after, Region.binds .any ed = true → ∀ (s' : Sp3) t', (spPd nA nD n g1 g2)[ed.on]? = some s' → sPd[ed.on]? = some t' → a.tmps[t']? = some (val ed.on) ∧ ∃ lo hi, s'.p (val ed.on) val lo hi x) : Yld Try.prog R oPd_9 a x 58 (fun v x' => (rwU n).p v val x.heap.size x'.heap.size x') := by
  obtain ⟨t8, lo8, hi8, f8⟩ := dep ⟨8, .data⟩ (by simp [oPd_9]) rfl _ 57 rfl rfl
  have f8 : val 8 = (.int .i64 (n : Nat)) := f8
  rw [f8] at t8
  obtain ⟨M, hM, hF⟩ := make_u32 n E.hn
  have hrun : (execOp a.eval oPd_9).run Try.prog x = .ok (.value (.slice (some ⟨x.heap.size, 0, none⟩) n n)) (x.alloc (.cells M 31)) := by
    have := tmp_eval t8
    simp [oPd_9, execOp, this, hM]
  exact yld_run rfl hrun ((Q.refl x).cells _ _) ⟨rfl, by simp, urow_fill (hF x)⟩
theorem yPd_10 {a0 : Act} {w : World} {nA nD n : Nat} {g1 g2 : Nat} (E : EnvPd a0 w nA nD n g1 g2) {R : Exit → Act → World → Prop} {a : Act} {x : World} {val : Nat → Value} (q : Q w x) (oth : ∀ j, j ∉ sPd → a.tmps[j]? = a0.tmps[j]?) (dep : ∀ ed ∈ oPd_10.after, Region.binds .any ed = true → ∀ (s' : Sp3) t', (spPd nA nD n g1 g2)[ed.on]? = some s' → sPd[ed.on]? = some t' → a.tmps[t']? = some (val ed.on) ∧ ∃ lo hi, s'.p (val ed.on) val lo hi x) : Yld Try.prog R oPd_10 a x 59 (fun v x' => (iB9 nA nD 9).p v val x.heap.size x'.heap.size x') := by
  obtain ⟨t1, lo1, hi1, f1⟩ := dep ⟨1, .data⟩ (by simp [oPd_10]) rfl _ 50 rfl rfl
  have f1 : val 1 = (.int .i64 (nA : Nat)) := f1
  rw [f1] at t1
  obtain ⟨t3, lo3, hi3, f3⟩ := dep ⟨3, .data⟩ (by simp [oPd_10]) rfl _ 52 rfl rfl
  have f3 : val 3 = (.int .i64 (nD : Nat)) := f3
  rw [f3] at t3
  obtain ⟨t9, lo9, hi9, f9⟩ := dep ⟨9, .data⟩ (by simp [oPd_10]) rfl _ 58 rfl rfl
  obtain ⟨e9, _⟩ := f9
  have t9' := t9
  rw [e9] at t9'
  exact yld_run (x' := x) (v := .agg #[.int .i64 (nA : Nat), .int .i64 (nD : Nat), val 9]) rfl (by rw [e9]; simp [oPd_10, execOp, t1, t3, t9', go_sem]) (Q.refl x) rfl
theorem yPd_11 {a0 : Act} {w : World} {nA nD n : Nat} {g1 g2 : Nat} (E : EnvPd a0 w nA nD n g1 g2) {R : Exit → Act → World → Prop} {a : Act} {x : World} {val : Nat → Value} (q : Q w x) (oth : ∀ j, j ∉ sPd → a.tmps[j]? = a0.tmps[j]?) (dep : ∀ ed ∈ oPd_11.after, Region.binds .any ed = true → ∀ (s' : Sp3) t', (spPd nA nD n g1 g2)[ed.on]? = some s' → sPd[ed.on]? = some t' → a.tmps[t']? = some (val ed.on) ∧ ∃ lo hi, s'.p (val ed.on) val lo hi x) : Yld Try.prog R oPd_11 a x 16 (fun v x' => (bxP).p v val x.heap.size x'.heap.size x') := by
  exact yld_run (x' := x.alloc (.cells #[.int .i64 0, .int .i64 0, .slice none 0 0] 24)) rfl (by simp [oPd_11, execOp, go_sem]) ((Q.refl x).cells _ _) ⟨rfl, by simp, by simp [go_sem], by simp [go_sem], by simp [go_sem], fun j => by simp [go_sem]⟩
theorem hopPd {a0 : Act} {w : World} {nA nD n : Nat} {g1 g2 : Nat} (E : EnvPd a0 w nA nD n g1 g2) {R : Exit → Act → World → Prop} : ∀ (i t : Nat) (o : Oper) (sp : Sp3) (a : Act) (x : World) (val : Nat → Value), sPd[i]? = some t → opsPd[i]? = some o → (spPd nA nD n g1 g2)[i]? = some sp → Q w x → (∀ j, j ∉ sPd → a.tmps[j]? = a0.tmps[j]?) → (∀ ed ∈ o.after, Region.binds .any ed = true → ∀ (s' : Sp3) t', (spPd nA nD n g1 g2)[ed.on]? = some s' → sPd[ed.on]? = some t' → a.tmps[t']? = some (val ed.on) ∧ ∃ lo hi, s'.p (val ed.on) val lo hi x) → Yld Try.prog R o a x t (fun v x' => sp.p v val x.heap.size x'.heap.size x')
  | 0, t, o, sp, a, x, val, ht, ho, hs, q, oth, dep => by
    have e1 : oPd_0 = o := Option.some.inj ho
    have e2 : 49 = t := Option.some.inj ht
    have e3 := Option.some.inj hs
    subst e1 e2 e3
    exact yPd_0 E q oth dep
  | 1, t, o, sp, a, x, val, ht, ho, hs, q, oth, dep => by
    have e1 : oPd_1 = o := Option.some.inj ho
    have e2 : 50 = t := Option.some.inj ht
    have e3 := Option.some.inj hs
    subst e1 e2 e3
    exact yPd_1 E q oth dep
  | 2, t, o, sp, a, x, val, ht, ho, hs, q, oth, dep => by
    have e1 : oPd_2 = o := Option.some.inj ho
    have e2 : 51 = t := Option.some.inj ht
    have e3 := Option.some.inj hs
    subst e1 e2 e3
    exact yPd_2 E q oth dep
  | 3, t, o, sp, a, x, val, ht, ho, hs, q, oth, dep => by
    have e1 : oPd_3 = o := Option.some.inj ho
    have e2 : 52 = t := Option.some.inj ht
    have e3 := Option.some.inj hs
    subst e1 e2 e3
    exact yPd_3 E q oth dep
  | 4, t, o, sp, a, x, val, ht, ho, hs, q, oth, dep => by
    have e1 : oPd_4 = o := Option.some.inj ho
    have e2 : 53 = t := Option.some.inj ht
    have e3 := Option.some.inj hs
    subst e1 e2 e3
    exact yPd_4 E q oth dep
  | 5, t, o, sp, a, x, val, ht, ho, hs, q, oth, dep => by
    have e1 : oPd_5 = o := Option.some.inj ho
    have e2 : 54 = t := Option.some.inj ht
    have e3 := Option.some.inj hs
    subst e1 e2 e3
    exact yPd_5 E q oth dep
  | 6, t, o, sp, a, x, val, ht, ho, hs, q, oth, dep => by
    have e1 : oPd_6 = o := Option.some.inj ho
    have e2 : 55 = t := Option.some.inj ht
    have e3 := Option.some.inj hs
    subst e1 e2 e3
    exact yPd_6 E q oth dep
  | 7, t, o, sp, a, x, val, ht, ho, hs, q, oth, dep => by
    have e1 : oPd_7 = o := Option.some.inj ho
    have e2 : 56 = t := Option.some.inj ht
    have e3 := Option.some.inj hs
    subst e1 e2 e3
    exact yPd_7 E q oth dep
  | 8, t, o, sp, a, x, val, ht, ho, hs, q, oth, dep => by
    have e1 : oPd_8 = o := Option.some.inj ho
    have e2 : 57 = t := Option.some.inj ht
    have e3 := Option.some.inj hs
    subst e1 e2 e3
    exact yPd_8 E q oth dep
  | 9, t, o, sp, a, x, val, ht, ho, hs, q, oth, dep => by
    have e1 : oPd_9 = o := Option.some.inj ho
    have e2 : 58 = t := Option.some.inj ht
    have e3 := Option.some.inj hs
    subst e1 e2 e3
    exact yPd_9 E q oth dep
  | 10, t, o, sp, a, x, val, ht, ho, hs, q, oth, dep => by
    have e1 : oPd_10 = o := Option.some.inj ho
    have e2 : 59 = t := Option.some.inj ht
    have e3 := Option.some.inj hs
    subst e1 e2 e3
    exact yPd_10 E q oth dep
  | 11, t, o, sp, a, x, val, ht, ho, hs, q, oth, dep => by
    have e1 : oPd_11 = o := Option.some.inj ho
    have e2 : 16 = t := Option.some.inj ht
    have e3 := Option.some.inj hs
    subst e1 e2 e3
    exact yPd_11 E q oth dep
  | i + 12, t, o, sp, a, x, val, ht, ho, hs, q, oth, dep => by cases ht
set_option maxHeartbeats 1000000 in
theorem regionPd {id : Nat} {l : List Oper} {R : Exit → Act → World → Prop} {a0 : Act} {w : World} {nA nD n : Nat} {g1 g2 : Nat} (hl : l = opsPd) (hsz : a0.tmps.size = 113) (E : EnvPd a0 w nA nD n g1 g2)
    (hR : ∀ x gt g16, PlN nA nD n gt g16 w x → R .normal (putAll a0 [(49, .pointer (some ⟨g1, 0, none⟩)), (50, .int .i64 (nA : Nat)), (51, .pointer (some ⟨g2, 0, none⟩)), (52, .int .i64 (nD : Nat)), (53, .pointer (some ⟨g1, 0, none⟩)), (54, .int .i64 (nA : Nat)), (55, .pointer (some ⟨g2, 0, none⟩)), (56, .int .i64 (nD : Nat)), (57, .int .i64 (n : Nat)), (58, .slice (some ⟨gt, 0, none⟩) n n), (59, .agg #[.int .i64 (nA : Nat), .int .i64 (nD : Nat), .slice (some ⟨gt, 0, none⟩) n n]), (16, .pointer (some ⟨g16, 0, none⟩))]) x) :
    (Code.region id l.toArray true).wp Try.prog R a0 w := by
  subst hl
  refine wp_region_newI 12 sPd (spPd nA nD n g1 g2) [[], [], [], [], [], [], [], [], [], [], [9], []] (by kernel_rfl) (by decide +kernel) (by decide +kernel) rfl (by decide) (fun t ht => ?_) (hopPd E) (fun a x val iv q size defers other facts ivs apart => ?_)
  · rw [hsz]
    revert t
    decide
  · obtain ⟨t0, f0⟩ := facts 0 49 _ rfl rfl
    have f0 : val 0 = (.pointer (some ⟨g1, 0, none⟩)) := f0
    rw [f0] at t0
    obtain ⟨t1, f1⟩ := facts 1 50 _ rfl rfl
    have f1 : val 1 = (.int .i64 (nA : Nat)) := f1
    rw [f1] at t1
    obtain ⟨t2, f2⟩ := facts 2 51 _ rfl rfl
    have f2 : val 2 = (.pointer (some ⟨g2, 0, none⟩)) := f2
    rw [f2] at t2
    obtain ⟨t3, f3⟩ := facts 3 52 _ rfl rfl
    have f3 : val 3 = (.int .i64 (nD : Nat)) := f3
    rw [f3] at t3
    obtain ⟨t4, f4⟩ := facts 4 53 _ rfl rfl
    have f4 : val 4 = (.pointer (some ⟨g1, 0, none⟩)) := f4
    rw [f4] at t4
    obtain ⟨t5, f5⟩ := facts 5 54 _ rfl rfl
    have f5 : val 5 = (.int .i64 (nA : Nat)) := f5
    rw [f5] at t5
    obtain ⟨t6, f6⟩ := facts 6 55 _ rfl rfl
    have f6 : val 6 = (.pointer (some ⟨g2, 0, none⟩)) := f6
    rw [f6] at t6
    obtain ⟨t7, f7⟩ := facts 7 56 _ rfl rfl
    have f7 : val 7 = (.int .i64 (nD : Nat)) := f7
    rw [f7] at t7
    obtain ⟨t8, f8⟩ := facts 8 57 _ rfl rfl
    have f8 : val 8 = (.int .i64 (n : Nat)) := f8
    rw [f8] at t8
    obtain ⟨t9, f9⟩ := facts 9 58 _ rfl rfl
    obtain ⟨t10, f10⟩ := facts 10 59 _ rfl rfl
    obtain ⟨t11, f11⟩ := facts 11 16 _ rfl rfl
    obtain ⟨e9, l9, r9⟩ := f9
    have f10 : val 10 = .agg #[.int .i64 (nA : Nat), .int .i64 (nD : Nat), val 9] := f10
    obtain ⟨e11, l11, c0, c1, c2, z⟩ := f11
    have i9 := ivs 9 (by decide)
    have i11 := ivs 11 (by decide)
    have ap := apart 9 11 (by decide) (by decide) (by decide)
    rw [f10, e9] at t10
    rw [e9] at t9
    rw [e11] at t11
    clear e9 e11 f10
    generalize (iv 9).1 = gt at *
    generalize (iv 11).1 = g16 at *
    have hA := act_puts (a := a) (a0 := a0) [(49, .pointer (some ⟨g1, 0, none⟩)), (50, .int .i64 (nA : Nat)), (51, .pointer (some ⟨g2, 0, none⟩)), (52, .int .i64 (nD : Nat)), (53, .pointer (some ⟨g1, 0, none⟩)), (54, .int .i64 (nA : Nat)), (55, .pointer (some ⟨g2, 0, none⟩)), (56, .int .i64 (nD : Nat)), (57, .int .i64 (n : Nat)), (58, .slice (some ⟨gt, 0, none⟩) n n), (59, .agg #[.int .i64 (nA : Nat), .int .i64 (nD : Nat), .slice (some ⟨gt, 0, none⟩) n n]), (16, .pointer (some ⟨g16, 0, none⟩))] (show ([49, 50, 51, 52, 53, 54, 55, 56, 57, 58, 59, 16] : List Nat).Nodup by decide) size defers (fun j hj => other j (by simpa [sPd] using hj)) (fun r hr => ?_)
    · refine ⟨?_⟩
      have hne : gt ≠ g16 := by omega
      refine post_skip (x' := ((x.setCell ⟨g16, 0, none⟩ (.int .i64 (nA : Nat))).setCell ⟨g16, 1, none⟩ (.int .i64 (nD : Nat))).setCell ⟨g16, 2, none⟩ (.slice (some ⟨gt, 0, none⟩) n n)) rfl (by simp [oPd_12, execOp, t10, t11, go_sem, c0, c1, c2, z]) ?_
      show R .normal a _
      rw [hA]
      refine hR _ gt g16 ⟨?_, by omega, by omega, hne, ?_, ?_, ?_, ?_⟩
      · exact ((q.set (show w.heap.size ≤ g16 by omega) _).set (show w.heap.size ≤ g16 by omega) _).set (show w.heap.size ≤ g16 by omega) _
      · exact ((r9.other (p := ⟨g16, 0, none⟩) (fun e => hne e.symm) _).other (p := ⟨g16, 1, none⟩) (fun e => hne e.symm) _).other (p := ⟨g16, 2, none⟩) (fun e => hne e.symm) _
      · rw [World.cell?_setCell_other _ _ _ _ (fun e => by injection e with _ e; cases e), World.cell?_setCell_other _ _ _ _ (fun e => by injection e with _ e; cases e)]; exact World.cell?_setCell_same _ _ _ c0
      · rw [World.cell?_setCell_other _ _ _ _ (fun e => by injection e with _ e; cases e)]; exact World.cell?_setCell_same _ _ _ ((World.cell?_setCell_other _ _ _ _ (fun e => by injection e with _ e; cases e)).trans c1)
      · exact World.cell?_setCell_same _ _ _ ((World.cell?_setCell_other _ _ _ _ (fun e => by injection e with _ e; cases e)).trans ((World.cell?_setCell_other _ _ _ _ (fun e => by injection e with _ e; cases e)).trans c2))
    · simp only [List.mem_cons, List.not_mem_nil, or_false] at hr
      rcases hr with rfl | rfl | rfl | rfl | rfl | rfl | rfl | rfl | rfl | rfl | rfl | rfl
      · exact t0
      · exact t1
      · exact t2
      · exact t3
      · exact t4
      · exact t5
      · exact t6
      · exact t7
      · exact t8
      · exact t9
      · exact t10
      · exact t11
set_option maxRecDepth 100000 in
theorem normPd {t0 t1 t2 t3 t4 t5 t6 t7 t8 t9 t10 t11 t12 t13 t14 t15 t16 t17 t18 t19 t20 t21 t22 t23 t24 t25 t26 t27 t28 t29 t30 t31 t32 t33 t34 t35 t36 t37 t38 t39 t40 t41 t42 t43 t44 t45 t46 t47 t48 t49 t50 t51 t52 t53 t54 t55 t56 t57 t58 t59 t60 t61 t62 t63 t64 t65 t66 t67 t68 t69 t70 t71 t72 t73 t74 t75 t76 t77 t78 t79 t80 t81 t82 t83 t84 t85 t86 t87 t88 t89 t90 t91 t92 t93 t94 t95 t96 t97 t98 t99 t100 t101 t102 t103 t104 t105 t106 t107 t108 t109 t110 t111 t112 v49 v50 v51 v52 v53 v54 v55 v56 v57 v58 v59 v16 : Value} {d : List Deferred} : putAll ⟨#[t0, t1, t2, t3, t4, t5, t6, t7, t8, t9, t10, t11, t12, t13, t14, t15, t16, t17, t18, t19, t20, t21, t22, t23, t24, t25, t26, t27, t28, t29, t30, t31, t32, t33, t34, t35, t36, t37, t38, t39, t40, t41, t42, t43, t44, t45, t46, t47, t48, t49, t50, t51, t52, t53, t54, t55, t56, t57, t58, t59, t60, t61, t62, t63, t64, t65, t66, t67, t68, t69, t70, t71, t72, t73, t74, t75, t76, t77, t78, t79, t80, t81, t82, t83, t84, t85, t86, t87, t88, t89, t90, t91, t92, t93, t94, t95, t96, t97, t98, t99, t100, t101, t102, t103, t104, t105, t106, t107, t108, t109, t110, t111, t112], d⟩ [(49, v49), (50, v50), (51, v51), (52, v52), (53, v53), (54, v54), (55, v55), (56, v56), (57, v57), (58, v58), (59, v59), (16, v16)] = ⟨#[t0, t1, t2, t3, t4, t5, t6, t7, t8, t9, t10, t11, t12, t13, t14, t15, v16, t17, t18, t19, t20, t21, t22, t23, t24, t25, t26, t27, t28, t29, t30, t31, t32, t33, t34, t35, t36, t37, t38, t39, t40, t41, t42, t43, t44, t45, t46, t47, t48, v49, v50, v51, v52, v53, v54, v55, v56, v57, v58, v59, t60, t61, t62, t63, t64, t65, t66, t67, t68, t69, t70, t71, t72, t73, t74, t75, t76, t77, t78, t79, t80, t81, t82, t83, t84, t85, t86, t87, t88, t89, t90, t91, t92, t93, t94, t95, t96, t97, t98, t99, t100, t101, t102, t103, t104, t105, t106, t107, t108, t109, t110, t111, t112], d⟩ := by
  kernel_rfl
end Go.Proofs.Ytcolhgngiflkhaa
