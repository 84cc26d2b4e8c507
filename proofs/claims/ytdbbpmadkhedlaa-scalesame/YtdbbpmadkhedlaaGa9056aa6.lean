/- piece: the plane that is told, made in whatever order. -/
import Derived.Test.YtdbbpmadkhedlaaG347cabc6
import Derived.Test.YtdbbpmadkhedlaaG17fb7a69
import Derived.Test.YtdbbpmadkhedlaaGca2bb6aa
import Derived.Test.YtdbbpmadkhedlaaG2e05c6c0
namespace Go.Proofs.Ytdbbpmadkhedlaa
open Go.RowKit
set_option linter.unusedVariables false
set_option linter.unusedSimpArgs false

/-- Samples that lie at the head of a block, and may be written over. -/
structure URow (x : World) (g : Nat) (zs : List Nat) : Prop where
  cell : ∀ i z, zs[i]? = some z → x.cell? ⟨g, i, none⟩ = some (.int .u32 (z : Nat))
  free : ∀ j, x.frozen? ⟨g, j, none⟩ = false
theorem URow.next {x x' : World} {g : Nat} {zs : List Nat} (h : URow x g zs) (q : Q x x') : URow x' g zs := ⟨fun i z hi => q.cell (h.cell i z hi), fun j => by rw [q.2]; exact h.free j⟩
theorem URow.other {x : World} {g : Nat} {zs : List Nat} (h : URow x g zs) {p : Addr} (hp : p.block ≠ g) (v : Value) : URow (x.setCell p v) g zs :=
  ⟨fun i z hi => (World.cell?_setCell_other _ _ _ _ (fun e => hp (by rw [e]))).trans (h.cell i z hi), fun j => by rw [World.frozen?_setCell]; exact h.free j⟩
theorem URow.set {x : World} {g : Nat} {zs : List Nat} (h : URow x g zs) {i : Nat} (hi : i < zs.length) (z : Nat) : URow (x.setCell ⟨g, i, none⟩ (.int .u32 (z : Nat))) g (zs.set i z) := by
  refine ⟨fun k u hk => ?_, fun j => by rw [World.frozen?_setCell]; exact h.free j⟩
  by_cases e : i = k
  · subst e
    rw [List.getElem?_set_self hi] at hk
    cases hk
    exact World.cell?_setCell_same _ _ _ (h.cell i _ (List.getElem?_eq_getElem hi))
  · rw [List.getElem?_set_ne e] at hk
    rw [World.cell?_setCell_other _ _ _ _ (fun e' => e (by injection e'))]
    exact h.cell k u hk
theorem URow.uis {x : World} {g : Nat} {zs : List Nat} (h : URow x g zs) : UIs x g 0 zs := fun i hi => by
  rw [Nat.zero_add, List.getD_eq_getElem?_getD, List.getElem?_eq_getElem hi]
  exact h.cell i _ (List.getElem?_eq_getElem hi)
theorem urow_fill {w x : World} {b n : Nat} (h : Fill w x b n (fun _ => 0) n) : URow x b (List.replicate n 0) := by
  refine ⟨fun i z hi => ?_, h.free⟩
  rw [List.getElem?_replicate] at hi
  split at hi
  · rename_i hlt
    cases hi
    exact h.done i hlt
  · cases hi
/-- Lists told place by place. -/
def tabN (n : Nat) (f : Nat → Nat) : List Nat := (List.range n).map f
theorem tabN_len (n : Nat) (f : Nat → Nat) : (tabN n f).length = n := by simp [tabN]
theorem tabN_at {n : Nat} {f : Nat → Nat} {i : Nat} (h : i < n) : (tabN n f)[i]? = some (f i) := by unfold tabN; rw [List.getElem?_map, List.getElem?_range h]; rfl
theorem tabN_set {n : Nat} {f g : Nat → Nat} {k : Nat} {v : Nat} (hv : v = g k) (hs : ∀ i, i < n → i ≠ k → g i = f i) : (tabN n f).set k v = tabN n g := by
  apply List.ext_getElem?
  intro i
  by_cases hi : i < n
  · rw [tabN_at hi]
    by_cases e : k = i
    · subst e; rw [List.getElem?_set_self (by rw [tabN_len]; exact hi), hv]
    · rw [List.getElem?_set_ne e, tabN_at hi, hs i hi (fun h => e h.symm)]
  · rw [List.getElem?_eq_none (by rw [List.length_set, tabN_len]; omega), List.getElem?_eq_none (by rw [tabN_len]; omega)]
theorem tabN_zero (n : Nat) : List.replicate n (0 : Nat) = tabN n (fun _ => 0) := by
  apply List.ext_getElem?
  intro i
  by_cases hi : i < n
  · rw [tabN_at hi, List.getElem?_replicate, if_pos hi]
  · rw [List.getElem?_eq_none (by simp; omega), List.getElem?_eq_none (by rw [tabN_len]; omega)]
theorem tabN_congr {n : Nat} {f g : Nat → Nat} (h : ∀ i, i < n → f i = g i) : tabN n f = tabN n g := List.map_congr_left (fun i hi => h i (List.mem_range.1 hi))
/-- A row of noughts that is made. -/
def rwU (n : Nat) : Sp3 := iP (fun v lo hi x => v = .slice (some ⟨lo, 0, none⟩) n n ∧ lo < hi ∧ URow x lo (List.replicate n 0)) (fun v lo hi x x' ⟨h1, h2, h3⟩ q => ⟨h1, h2, h3.next q⟩)
def iB9 (nA nD j : Nat) : Sp3 := ⟨fun v val _ _ _ => v = .agg #[.int .i64 (nA : Nat), .int .i64 (nD : Nat), val j], [j], fun h _ e => by rw [h, e j (by simp)]⟩
/-- A new box for a plane. -/
def bxP : Sp3 := iP (fun v lo hi x => v = .pointer (some ⟨lo, 0, none⟩) ∧ lo < hi ∧ x.cell? ⟨lo, 0, none⟩ = some (.int .i64 0) ∧ x.cell? ⟨lo, 1, none⟩ = some (.int .i64 0) ∧ x.cell? ⟨lo, 2, none⟩ = some (.slice none 0 0) ∧ ∀ j, x.frozen? ⟨lo, j, none⟩ = false)
  (fun v lo hi x x' ⟨h1, h2, h3, h4, h5, h6⟩ q => ⟨h1, h2, q.cell h3, q.cell h4, q.cell h5, fun j => by rw [q.2]; exact h6 j⟩)
structure PlN (nA nD n gt g16 : Nat) (w x : World) : Prop where
  q : Q w x
  l1 : w.heap.size ≤ gt
  l2 : w.heap.size ≤ g16
  ne : gt ≠ g16
  row : URow x gt (List.replicate n 0)
  c0 : x.cell? ⟨g16, 0, none⟩ = some (.int .i64 (nA : Nat))
  c1 : x.cell? ⟨g16, 1, none⟩ = some (.int .i64 (nD : Nat))
  c2 : x.cell? ⟨g16, 2, none⟩ = some (.slice (some ⟨gt, 0, none⟩) n n)
def oPd_0 : Oper := { dst := some 49, op := .fieldAddr 72 (.tmp 11) 0, type := 0, pos := "scale.go:73", after := #[], guard := none }
def oPd_1 : Oper := { dst := some 50, op := .load 3 (.tmp 49), type := 3, pos := "scale.go:73", after := #[⟨0, .data⟩], guard := none }
def oPd_2 : Oper := { dst := some 51, op := .fieldAddr 72 (.tmp 12) 0, type := 0, pos := "scale.go:73", after := #[], guard := none }
def oPd_3 : Oper := { dst := some 52, op := .load 3 (.tmp 51), type := 3, pos := "scale.go:73", after := #[⟨2, .data⟩], guard := none }
def oPd_4 : Oper := { dst := some 53, op := .fieldAddr 72 (.tmp 11) 0, type := 0, pos := "scale.go:73", after := #[], guard := none }
def oPd_5 : Oper := { dst := some 54, op := .load 3 (.tmp 53), type := 3, pos := "scale.go:73", after := #[⟨4, .data⟩], guard := none }
def oPd_6 : Oper := { dst := some 55, op := .fieldAddr 72 (.tmp 12) 0, type := 0, pos := "scale.go:73", after := #[], guard := none }
def oPd_7 : Oper := { dst := some 56, op := .load 3 (.tmp 55), type := 3, pos := "scale.go:73", after := #[⟨6, .data⟩], guard := none }
def oPd_8 : Oper := { dst := some 57, op := .binOp .mul 3 (.tmp 54) (.tmp 56) 3, type := 3, pos := "scale.go:73", after := #[⟨5, .data⟩, ⟨7, .data⟩], guard := none }
def oPd_9 : Oper := { dst := some 58, op := .makeSlice 31 (.tmp 57) (.tmp 57), type := 31, pos := "scale.go:73", after := #[⟨8, .data⟩, ⟨8, .data⟩], guard := none }
def oPd_10 : Oper := { dst := some 59, op := .build 33 #[(0, .tmp 50), (1, .tmp 52), (2, .tmp 58)], type := 33, pos := "scale.go:73", after := #[⟨1, .data⟩, ⟨3, .data⟩, ⟨9, .data⟩], guard := none }
def oPd_11 : Oper := { dst := some 16, op := .alloc 33, type := 0, pos := "scale.go:73", after := #[], guard := none }
def oPd_12 : Oper := { dst := none, op := .store 33 (.tmp 16) (.tmp 59), type := 0, pos := "scale.go:73", after := #[⟨11, .data⟩, ⟨10, .data⟩, ⟨0, .phase⟩, ⟨1, .phase⟩, ⟨2, .phase⟩, ⟨3, .phase⟩, ⟨4, .phase⟩, ⟨5, .phase⟩, ⟨6, .phase⟩, ⟨7, .phase⟩, ⟨8, .phase⟩, ⟨9, .phase⟩, ⟨10, .phase⟩, ⟨11, .phase⟩], guard := none }
def opsPd : List Oper := [oPd_0, oPd_1, oPd_2, oPd_3, oPd_4, oPd_5, oPd_6, oPd_7, oPd_8, oPd_9, oPd_10, oPd_11, oPd_12]
def sPd : List Nat := [49, 50, 51, 52, 53, 54, 55, 56, 57, 58, 59, 16]
def spPd (nA nD n : Nat) (g1 g2 : Nat) : List Sp3 := [iV (.pointer (some ⟨g1, 0, none⟩)), iV (.int .i64 (nA : Nat)), iV (.pointer (some ⟨g2, 0, none⟩)), iV (.int .i64 (nD : Nat)), iV (.pointer (some ⟨g1, 0, none⟩)), iV (.int .i64 (nA : Nat)), iV (.pointer (some ⟨g2, 0, none⟩)), iV (.int .i64 (nD : Nat)), iV (.int .i64 (n : Nat)), rwU n, iB9 nA nD 9, bxP]
structure EnvPd (a0 : Act) (w : World) (nA nD n : Nat) (g1 g2 : Nat) : Prop where
  h11 : a0.tmps[11]? = some (.pointer (some ⟨g1, 0, none⟩))
  h12 : a0.tmps[12]? = some (.pointer (some ⟨g2, 0, none⟩))
  c10 : w.cell? ⟨g1, 0, none⟩ = some (.int .i64 (nA : Nat))
  c20 : w.cell? ⟨g2, 0, none⟩ = some (.int .i64 (nD : Nat))
  hn : n ≤ 1099511627776
  hw : IntKind.i64.wrap ((nA : Int) * (nD : Int)) = (n : Int)
theorem yPd_0 {a0 : Act} {w : World} {nA nD n : Nat} {g1 g2 : Nat} (E : EnvPd a0 w nA nD n g1 g2) {R : Exit → Act → World → Prop} {a : Act} {x : World} {val : Nat → Value} (q : Q w x) (oth : ∀ j, j ∉ sPd → a.tmps[j]? = a0.tmps[j]?) (dep : ∀ ed ∈ oPd_0.after, Region.binds .any ed = true → ∀ (s' : Sp3) t', (spPd nA nD n g1 g2)[ed.on]? = some s' → sPd[ed.on]? = some t' → a.tmps[t']? = some (val ed.on) ∧ ∃ lo hi, s'.p (val ed.on) val lo hi x) : Yld Try.prog R oPd_0 a x 49 (fun v x' => (iV (.pointer (some ⟨g1, 0, none⟩))).p v val x.heap.size x'.heap.size x') := by
  have tt := (oth 11 (by decide)).trans E.h11
  exact yld_run (x' := x) rfl (by simp [oPd_0, execOp, tt, go_sem]) (Q.refl x) rfl
theorem yPd_1 {a0 : Act} {w : World} {nA nD n : Nat} {g1 g2 : Nat} (E : EnvPd a0 w nA nD n g1 g2) {R : Exit → Act → World → Prop} {a : Act} {x : World} {val : Nat → Value} (q : Q w x) (oth : ∀ j, j ∉ sPd → a.tmps[j]? = a0.tmps[j]?) (dep : ∀ ed ∈ oPd_1.after, Region.binds .any ed = true → ∀ (s' : Sp3) t', (spPd nA nD n g1 g2)[ed.on]? = some s' → sPd[ed.on]? = some t' → a.tmps[t']? = some (val ed.on) ∧ ∃ lo hi, s'.p (val ed.on) val lo hi x) : Yld Try.prog R oPd_1 a x 50 (fun v x' => (iV (.int .i64 (nA : Nat))).p v val x.heap.size x'.heap.size x') := by
  obtain ⟨t0, lo0, hi0, f0⟩ := dep ⟨0, .data⟩ (by simp [oPd_1]) rfl _ 49 rfl rfl
  have f0 : val 0 = (.pointer (some ⟨g1, 0, none⟩)) := f0
  rw [f0] at t0
  have cc := q.cell E.c10
  exact yld_run (x' := x) rfl (by simp [oPd_1, execOp, t0, go_sem, cc]) (Q.refl x) rfl
theorem yPd_2 {a0 : Act} {w : World} {nA nD n : Nat} {g1 g2 : Nat} (E : EnvPd a0 w nA nD n g1 g2) {R : Exit → Act → World → Prop} {a : Act} {x : World} {val : Nat → Value} (q : Q w x) (oth : ∀ j, j ∉ sPd → a.tmps[j]? = a0.tmps[j]?) (dep : ∀ ed ∈ oPd_2.after, Region.binds .any ed = true → ∀ (s' : Sp3) t', (spPd nA nD n g1 g2)[ed.on]? = some s' → sPd[ed.on]? = some t' → a.tmps[t']? = some (val ed.on) ∧ ∃ lo hi, s'.p (val ed.on) val lo hi x) : Yld Try.prog R oPd_2 a x 51 (fun v x' => (iV (.pointer (some ⟨g2, 0, none⟩))).p v val x.heap.size x'.heap.size x') := by
  have tt := (oth 12 (by decide)).trans E.h12
  exact yld_run (x' := x) rfl (by simp [oPd_2, execOp, tt, go_sem]) (Q.refl x) rfl
theorem yPd_3 {a0 : Act} {w : World} {nA nD n : Nat} {g1 g2 : Nat} (E : EnvPd a0 w nA nD n g1 g2) {R : Exit → Act → World → Prop} {a : Act} {x : World} {val : Nat → Value} (q : Q w x) (oth : ∀ j, j ∉ sPd → a.tmps[j]? = a0.tmps[j]?) (dep : ∀ ed ∈ oPd_3.after, Region.binds .any ed = true → ∀ (s' : Sp3) t', (spPd nA nD n g1 g2)[ed.on]? = some s' → sPd[ed.on]? = some t' → a.tmps[t']? = some (val ed.on) ∧ ∃ lo hi, s'.p (val ed.on) val lo hi x) : Yld Try.prog R oPd_3 a x 52 (fun v x' => (iV (.int .i64 (nD : Nat))).p v val x.heap.size x'.heap.size x') := by
  obtain ⟨t2, lo2, hi2, f2⟩ := dep ⟨2, .data⟩ (by simp [oPd_3]) rfl _ 51 rfl rfl
  have f2 : val 2 = (.pointer (some ⟨g2, 0, none⟩)) := f2
  rw [f2] at t2
  have cc := q.cell E.c20
  exact yld_run (x' := x) rfl (by simp [oPd_3, execOp, t2, go_sem, cc]) (Q.refl x) rfl
theorem yPd_4 {a0 : Act} {w : World} {nA nD n : Nat} {g1 g2 : Nat} (E : EnvPd a0 w nA nD n g1 g2) {R : Exit → Act → World → Prop} {a : Act} {x : World} {val : Nat → Value} (q : Q w x) (oth : ∀ j, j ∉ sPd → a.tmps[j]? = a0.tmps[j]?) (dep : ∀ ed ∈ oPd_4.after, Region.binds .any ed = true → ∀ (s' : Sp3) t', (spPd nA nD n g1 g2)[ed.on]? = some s' → sPd[ed.on]? = some t' → a.tmps[t']? = some (val ed.on) ∧ ∃ lo hi, s'.p (val ed.on) val lo hi x) : Yld Try.prog R oPd_4 a x 53 (fun v x' => (iV (.pointer (some ⟨g1, 0, none⟩))).p v val x.heap.size x'.heap.size x') := by
  have tt := (oth 11 (by decide)).trans E.h11
  exact yld_run (x' := x) rfl (by simp [oPd_4, execOp, tt, go_sem]) (Q.refl x) rfl
theorem yPd_5 {a0 : Act} {w : World} {nA nD n : Nat} {g1 g2 : Nat} (E : EnvPd a0 w nA nD n g1 g2) {R : Exit → Act → World → Prop} {a : Act} {x : World} {val : Nat → Value} (q : Q w x) (oth : ∀ j, j ∉ sPd → a.tmps[j]? = a0.tmps[j]?) (dep : ∀ ed ∈ oPd_5.after, Region.binds .any ed = true → ∀ (s' : Sp3) t', (spPd nA nD n g1 g2)[ed.on]? = some s' → sPd[ed.on]? = some t' → a.tmps[t']? = some (val ed.on) ∧ ∃ lo hi, s'.p (val ed.on) val lo hi x) : Yld Try.prog R oPd_5 a x 54 (fun v x' => (iV (.int .i64 (nA : Nat))).p v val x.heap.size x'.heap.size x') := by
  obtain ⟨t4, lo4, hi4, f4⟩ := dep ⟨4, .data⟩ (by simp [oPd_5]) rfl _ 53 rfl rfl
  have f4 : val 4 = (.pointer (some ⟨g1, 0, none⟩)) := f4
  rw [f4] at t4
  have cc := q.cell E.c10
  exact yld_run (x' := x) rfl (by simp [oPd_5, execOp, t4, go_sem, cc]) (Q.refl x) rfl
theorem yPd_6 {a0 : Act} {w : World} {nA nD n : Nat} {g1 g2 : Nat} (E : EnvPd a0 w nA nD n g1 g2) {R : Exit → Act → World → Prop} {a : Act} {x : World} {val : Nat → Value} (q : Q w x) (oth : ∀ j, j ∉ sPd → a.tmps[j]? = a0.tmps[j]?) (dep : ∀ ed ∈ oPd_6.after, Region.binds .any ed = true → ∀ (s' : Sp3) t', (spPd nA nD n g1 g2)[ed.on]? = some s' → sPd[ed.on]? = some t' → a.tmps[t']? = some (val ed.on) ∧ ∃ lo hi, s'.p (val ed.on) val lo hi x) : Yld Try.prog R oPd_6 a x 55 (fun v x' => (iV (.pointer (some ⟨g2, 0, none⟩))).p v val x.heap.size x'.heap.size x') := by
  have tt := (oth 12 (by decide)).trans E.h12
  exact yld_run (x' := x) rfl (by simp [oPd_6, execOp, tt, go_sem]) (Q.refl x) rfl
theorem yPd_7 {a0 : Act} {w : World} {nA nD n : Nat} {g1 g2 : Nat} (E : EnvPd a0 w nA nD n g1 g2) {R : Exit → Act → World → Prop} {a : Act} {x : World} {val : Nat → Value} (q : Q w x) (oth : ∀ j, j ∉ sPd → a.tmps[j]? = a0.tmps[j]?) (dep : ∀ ed ∈ oPd_7.after, Region.binds .any ed = true → ∀ (s' : Sp3) t', (spPd nA nD n g1 g2)[ed.on]? = some s' → sPd[ed.on]? = some t' → a.tmps[t']? = some (val ed.on) ∧ ∃ lo hi, s'.p (val ed.on) val lo hi x) : Yld Try.prog R oPd_7 a x 56 (fun v x' => (iV (.int .i64 (nD : Nat))).p v val x.heap.size x'.heap.size x') := by
  obtain ⟨t6, lo6, hi6, f6⟩ := dep ⟨6, .data⟩ (by simp [oPd_7]) rfl _ 55 rfl rfl
  have f6 : val 6 = (.pointer (some ⟨g2, 0, none⟩)) := f6
  rw [f6] at t6
  have cc := q.cell E.c20
  exact yld_run (x' := x) rfl (by simp [oPd_7, execOp, t6, go_sem, cc]) (Q.refl x) rfl
theorem yPd_8 {a0 : Act} {w : World} {nA nD n : Nat} {g1 g2 : Nat} (E : EnvPd a0 w nA nD n g1 g2) {R : Exit → Act → World → Prop} {a : Act} {x : World} {val : Nat → Value} (q : Q w x) (oth : ∀ j, j ∉ sPd → a.tmps[j]? = a0.tmps[j]?) (dep : ∀ ed ∈ oPd_8.after, Region.binds .any ed = true → ∀ (s' : Sp3) t', (spPd nA nD n g1 g2)[ed.on]? = some s' → sPd[ed.on]? = some t' → a.tmps[t']? = some (val ed.on) ∧ ∃ lo hi, s'.p (val ed.on) val lo hi x) : Yld Try.prog R oPd_8 a x 57 (fun v x' => (iV (.int .i64 (n : Nat))).p v val x.heap.size x'.heap.size x') := by
  obtain ⟨t5, lo5, hi5, f5⟩ := dep ⟨5, .data⟩ (by simp [oPd_8]) rfl _ 54 rfl rfl
  have f5 : val 5 = (.int .i64 (nA : Nat)) := f5
  rw [f5] at t5
  obtain ⟨t7, lo7, hi7, f7⟩ := dep ⟨7, .data⟩ (by simp [oPd_8]) rfl _ 56 rfl rfl
  have f7 : val 7 = (.int .i64 (nD : Nat)) := f7
  rw [f7] at t7
  have hw := E.hw
  exact yld_run (x' := x) rfl (by simp [oPd_8, execOp, t5, t7, go_sem, hw]) (Q.refl x) rfl
theorem yPd_9 {a0 : Act} {w : World} {nA nD n : Nat} {g1 g2 : Nat} (E : EnvPd a0 w nA nD n g1 g2) {R : Exit → Act → World → Prop} {a : Act} {x : World} {val : Nat → Value} (q : Q w x) (oth : ∀ j, j ∉ sPd → a.tmps[j]? = a0.tmps[j]?) (dep : ∀ ed ∈ oPd_9.after, Region.binds .any ed = true → ∀ (s' : Sp3) t', (spPd nA nD n g1 g2)[ed.on]? = some s' → sPd[ed.on]? = some t' → a.tmps[t']? = some (val ed.on) ∧ ∃ lo hi, s'.p (val ed.on) val lo hi x) : Yld Try.prog R oPd_9 a x 58 (fun v x' => (rwU n).p v val x.heap.size x'.heap.size x') := by
  obtain ⟨t8, lo8, hi8, f8⟩ := dep ⟨8, .data⟩ (by simp [oPd_9]) rfl _ 57 rfl rfl
  have f8 : val 8 = (.int .i64 (n : Nat)) := f8
  rw [f8] at t8
  obtain ⟨M, hM, hF⟩ := make_u32 n E.hn
  have hrun : (execOp a.eval oPd_9).run Try.prog x = .ok (.value (.slice (some ⟨x.heap.size, 0, none⟩) n n)) (x.alloc (.cells M 34)) := by
    have := tmp_eval t8
    simp [oPd_9, execOp, this, hM]
  exact yld_run rfl hrun ((Q.refl x).cells _ _) ⟨rfl, by simp, urow_fill (hF x)⟩
theorem yPd_10 {a0 : Act} {w : World} {nA nD n : Nat} {g1 g2 : Nat} (E : EnvPd a0 w nA nD n g1 g2) {R : Exit → Act → World → Prop} {a : Act} {x : World} {val : Nat → Value} (q : Q w x) (oth : ∀ j, j ∉ sPd → a.tmps[j]? = a0.tmps[j]?) (dep : ∀ ed ∈ oPd_10.after, Region.binds .any ed = true → ∀ (s' : Sp3) t', (spPd nA nD n g1 g2)[ed.on]? = some s' → sPd[ed.on]? = some t' → a.tmps[t']? = some (val ed.on) ∧ ∃ lo hi, s'.p (val ed.on) val lo hi x) : Yld Try.prog R oPd_10 a x 59 (fun v x' => (iB9 nA nD 9).p v val x.heap.size x'.heap.size x') := by
  obtain ⟨t1, lo1, hi1, f1⟩ := dep ⟨1, .data⟩ (by simp [oPd_10]) rfl _ 50 rfl rfl
  have f1 : val 1 = (.int .i64 (nA : Nat)) := f1
  rw [f1] at t1
  obtain ⟨t3, lo3, hi3, f3⟩ := dep ⟨3, .data⟩ (by simp [oPd_10]) rfl _ 52 rfl rfl
  have f3 : val 3 = (.int .i64 (nD : Nat)) := f3
  rw [f3] at t3
  obtain ⟨t9, lo9, hi9, f9⟩ := dep ⟨9, .data⟩ (by simp [oPd_10]) rfl _ 58 rfl rfl
  obtain ⟨e9, _⟩ := f9
  have t9' := t9
  rw [e9] at t9'
  exact yld_run (x' := x) (v := .agg #[.int .i64 (nA : Nat), .int .i64 (nD : Nat), val 9]) rfl (by rw [e9]; simp [oPd_10, execOp, t1, t3, t9', go_sem]) (Q.refl x) rfl
theorem yPd_11 {a0 : Act} {w : World} {nA nD n : Nat} {g1 g2 : Nat} (E : EnvPd a0 w nA nD n g1 g2) {R : Exit → Act → World → Prop} {a : Act} {x : World} {val : Nat → Value} (q : Q w x) (oth : ∀ j, j ∉ sPd → a.tmps[j]? = a0.tmps[j]?) (dep : ∀ ed ∈ oPd_11.after, Region.binds .any ed = true → ∀ (s' : Sp3) t', (spPd nA nD n g1 g2)[ed.on]? = some s' → sPd[ed.on]? = some t' → a.tmps[t']? = some (val ed.on) ∧ ∃ lo hi, s'.p (val ed.on) val lo hi x) : Yld Try.prog R oPd_11 a x 16 (fun v x' => (bxP).p v val x.heap.size x'.heap.size x') := by
  exact yld_run (x' := x.alloc (.cells #[.int .i64 0, .int .i64 0, .slice none 0 0] 33)) rfl (by simp [oPd_11, execOp, go_sem]) ((Q.refl x).cells _ _) ⟨rfl, by simp, by simp [go_sem], by simp [go_sem], by simp [go_sem], fun j => by simp [go_sem]⟩
theorem hopPd {a0 : Act} {w : World} {nA nD n : Nat} {g1 g2 : Nat} (E : EnvPd a0 w nA nD n g1 g2) {R : Exit → Act → World → Prop} : ∀ (i t : Nat) (o : Oper) (sp : Sp3) (a : Act) (x : World) (val : Nat → Value), sPd[i]? = some t → opsPd[i]? = some o → (spPd nA nD n g1 g2)[i]? = some sp → Q w x → (∀ j, j ∉ sPd → a.tmps[j]? = a0.tmps[j]?) → (∀ ed ∈ o.after, Region.binds .any ed = true → ∀ (s' : Sp3) t', (spPd nA nD n g1 g2)[ed.on]? = some s' → sPd[ed.on]? = some t' → a.tmps[t']? = some (val ed.on) ∧ ∃ lo hi, s'.p (val ed.on) val lo hi x) → Yld Try.prog R o a x t (fun v x' => sp.p v val x.heap.size x'.heap.size x')
  | 0, t, o, sp, a, x, val, ht, ho, hs, q, oth, dep => by
    have e1 : oPd_0 = o := Option.some.inj ho
    have e2 : 49 = t := Option.some.inj ht
    have e3 := Option.some.inj hs
    subst e1 e2 e3
    exact yPd_0 E q oth dep
  | 1, t, o, sp, a, x, val, ht, ho, hs, q, oth, dep => by
    have e1 : oPd_1 = o := Option.some.inj ho
    have e2 : 50 = t := Option.some.inj ht
    have e3 := Option.some.inj hs
    subst e1 e2 e3
    exact yPd_1 E q oth dep
  | 2, t, o, sp, a, x, val, ht, ho, hs, q, oth, dep => by
    have e1 : oPd_2 = o := Option.some.inj ho
    have e2 : 51 = t := Option.some.inj ht
    have e3 := Option.some.inj hs
    subst e1 e2 e3
    exact yPd_2 E q oth dep
  | 3, t, o, sp, a, x, val, ht, ho, hs, q, oth, dep => by
    have e1 : oPd_3 = o := Option.some.inj ho
    have e2 : 52 = t := Option.some.inj ht
    have e3 := Option.some.inj hs
    subst e1 e2 e3
    exact yPd_3 E q oth dep
  | 4, t, o, sp, a, x, val, ht, ho, hs, q, oth, dep => by
    have e1 : oPd_4 = o := Option.some.inj ho
    have e2 : 53 = t := Option.some.inj ht
    have e3 := Option.some.inj hs
    subst e1 e2 e3
    exact yPd_4 E q oth dep
  | 5, t, o, sp, a, x, val, ht, ho, hs, q, oth, dep => by
    have e1 : oPd_5 = o := Option.some.inj ho
    have e2 : 54 = t := Option.some.inj ht
    have e3 := Option.some.inj hs
    subst e1 e2 e3
    exact yPd_5 E q oth dep
  | 6, t, o, sp, a, x, val, ht, ho, hs, q, oth, dep => by
    have e1 : oPd_6 = o := Option.some.inj ho
    have e2 : 55 = t := Option.some.inj ht
    have e3 := Option.some.inj hs
    subst e1 e2 e3
    exact yPd_6 E q oth dep
  | 7, t, o, sp, a, x, val, ht, ho, hs, q, oth, dep => by
    have e1 : oPd_7 = o := Option.some.inj ho
    have e2 : 56 = t := Option.some.inj ht
    have e3 := Option.some.inj hs
    subst e1 e2 e3
    exact yPd_7 E q oth dep
  | 8, t, o, sp, a, x, val, ht, ho, hs, q, oth, dep => by
    have e1 : oPd_8 = o := Option.some.inj ho
    have e2 : 57 = t := Option.some.inj ht
    have e3 := Option.some.inj hs
    subst e1 e2 e3
    exact yPd_8 E q oth dep
  | 9, t, o, sp, a, x, val, ht, ho, hs, q, oth, dep => by
    have e1 : oPd_9 = o := Option.some.inj ho
    have e2 : 58 = t := Option.some.inj ht
    have e3 := Option.some.inj hs
    subst e1 e2 e3
    exact yPd_9 E q oth dep
  | 10, t, o, sp, a, x, val, ht, ho, hs, q, oth, dep => by
    have e1 : oPd_10 = o := Option.some.inj ho
    have e2 : 59 = t := Option.some.inj ht
    have e3 := Option.some.inj hs
    subst e1 e2 e3
    exact yPd_10 E q oth dep
  | 11, t, o, sp, a, x, val, ht, ho, hs, q, oth, dep => by
    have e1 : oPd_11 = o := Option.some.inj ho
    have e2 : 16 = t := Option.some.inj ht
    have e3 := Option.some.inj hs
    subst e1 e2 e3
    exact yPd_11 E q oth dep
  | i + 12, t, o, sp, a, x, val, ht, ho, hs, q, oth, dep => by cases ht
set_option maxHeartbeats 1000000 in
theorem regionPd {id : Nat} {l : List Oper} {R : Exit → Act → World → Prop} {a0 : Act} {w : World} {nA nD n : Nat} {g1 g2 : Nat} (hl : l = opsPd) (hsz : a0.tmps.size = 113) (E : EnvPd a0 w nA nD n g1 g2)
    (hR : ∀ x gt g16, PlN nA nD n gt g16 w x → R .normal (putAll a0 [(49, .pointer (some ⟨g1, 0, none⟩)), (50, .int .i64 (nA : Nat)), (51, .pointer (some ⟨g2, 0, none⟩)), (52, .int .i64 (nD : Nat)), (53, .pointer (some ⟨g1, 0, none⟩)), (54, .int .i64 (nA : Nat)), (55, .pointer (some ⟨g2, 0, none⟩)), (56, .int .i64 (nD : Nat)), (57, .int .i64 (n : Nat)), (58, .slice (some ⟨gt, 0, none⟩) n n), (59, .agg #[.int .i64 (nA : Nat), .int .i64 (nD : Nat), .slice (some ⟨gt, 0, none⟩) n n]), (16, .pointer (some ⟨g16, 0, none⟩))]) x) :
    (Code.region id l.toArray true).wp Try.prog R a0 w := by
  subst hl
  refine wp_region_newI 12 sPd (spPd nA nD n g1 g2) [[], [], [], [], [], [], [], [], [], [], [9], []] (by kernel_rfl) (by decide +kernel) (by decide +kernel) rfl (by decide) (fun t ht => ?_) (hopPd E) (fun a x val iv q size defers other facts ivs apart => ?_)
  · rw [hsz]
    revert t
    decide
  · obtain ⟨t0, f0⟩ := facts 0 49 _ rfl rfl
    have f0 : val 0 = (.pointer (some ⟨g1, 0, none⟩)) := f0
    rw [f0] at t0
    obtain ⟨t1, f1⟩ := facts 1 50 _ rfl rfl
    have f1 : val 1 = (.int .i64 (nA : Nat)) := f1
    rw [f1] at t1
    obtain ⟨t2, f2⟩ := facts 2 51 _ rfl rfl
    have f2 : val 2 = (.pointer (some ⟨g2, 0, none⟩)) := f2
    rw [f2] at t2
    obtain ⟨t3, f3⟩ := facts 3 52 _ rfl rfl
    have f3 : val 3 = (.int .i64 (nD : Nat)) := f3
    rw [f3] at t3
    obtain ⟨t4, f4⟩ := facts 4 53 _ rfl rfl
    have f4 : val 4 = (.pointer (some ⟨g1, 0, none⟩)) := f4
    rw [f4] at t4
    obtain ⟨t5, f5⟩ := facts 5 54 _ rfl rfl
    have f5 : val 5 = (.int .i64 (nA : Nat)) := f5
    rw [f5] at t5
    obtain ⟨t6, f6⟩ := facts 6 55 _ rfl rfl
    have f6 : val 6 = (.pointer (some ⟨g2, 0, none⟩)) := f6
    rw [f6] at t6
    obtain ⟨t7, f7⟩ := facts 7 56 _ rfl rfl
    have f7 : val 7 = (.int .i64 (nD : Nat)) := f7
    rw [f7] at t7
    obtain ⟨t8, f8⟩ := facts 8 57 _ rfl rfl
    have f8 : val 8 = (.int .i64 (n : Nat)) := f8
    rw [f8] at t8
    obtain ⟨t9, f9⟩ := facts 9 58 _ rfl rfl
    obtain ⟨t10, f10⟩ := facts 10 59 _ rfl rfl
    obtain ⟨t11, f11⟩ := facts 11 16 _ rfl rfl
    obtain ⟨e9, l9, r9⟩ := f9
    have f10 : val 10 = .agg #[.int .i64 (nA : Nat), .int .i64 (nD : Nat), val 9] := f10
    obtain ⟨e11, l11, c0, c1, c2, z⟩ := f11
    have i9 := ivs 9 (by decide)
    have i11 := ivs 11 (by decide)
    have ap := apart 9 11 (by decide) (by decide) (by decide)
    rw [f10, e9] at t10
    rw [e9] at t9
    rw [e11] at t11
    clear e9 e11 f10
    generalize (iv 9).1 = gt at *
    generalize (iv 11).1 = g16 at *
    have hA := act_puts (a := a) (a0 := a0) [(49, .pointer (some ⟨g1, 0, none⟩)), (50, .int .i64 (nA : Nat)), (51, .pointer (some ⟨g2, 0, none⟩)), (52, .int .i64 (nD : Nat)), (53, .pointer (some ⟨g1, 0, none⟩)), (54, .int .i64 (nA : Nat)), (55, .pointer (some ⟨g2, 0, none⟩)), (56, .int .i64 (nD : Nat)), (57, .int .i64 (n : Nat)), (58, .slice (some ⟨gt, 0, none⟩) n n), (59, .agg #[.int .i64 (nA : Nat), .int .i64 (nD : Nat), .slice (some ⟨gt, 0, none⟩) n n]), (16, .pointer (some ⟨g16, 0, none⟩))] (show ([49, 50, 51, 52, 53, 54, 55, 56, 57, 58, 59, 16] : List Nat).Nodup by decide) size defers (fun j hj => other j (by simpa [sPd] using hj)) (fun r hr => ?_)
    · refine ⟨?_⟩
      have hne : gt ≠ g16 := by omega
      refine post_skip (x' := ((x.setCell ⟨g16, 0, none⟩ (.int .i64 (nA : Nat))).setCell ⟨g16, 1, none⟩ (.int .i64 (nD : Nat))).setCell ⟨g16, 2, none⟩ (.slice (some ⟨gt, 0, none⟩) n n)) rfl (by simp [oPd_12, execOp, t10, t11, go_sem, c0, c1, c2, z]) ?_
      show R .normal a _
      rw [hA]
      refine hR _ gt g16 ⟨?_, by omega, by omega, hne, ?_, ?_, ?_, ?_⟩
      · exact ((q.set (show w.heap.size ≤ g16 by omega) _).set (show w.heap.size ≤ g16 by omega) _).set (show w.heap.size ≤ g16 by omega) _
      · exact ((r9.other (p := ⟨g16, 0, none⟩) (fun e => hne e.symm) _).other (p := ⟨g16, 1, none⟩) (fun e => hne e.symm) _).other (p := ⟨g16, 2, none⟩) (fun e => hne e.symm) _
      · rw [World.cell?_setCell_other _ _ _ _ (fun e => by injection e with _ e; cases e), World.cell?_setCell_other _ _ _ _ (fun e => by injection e with _ e; cases e)]; exact World.cell?_setCell_same _ _ _ c0
      · rw [World.cell?_setCell_other _ _ _ _ (fun e => by injection e with _ e; cases e)]; exact World.cell?_setCell_same _ _ _ ((World.cell?_setCell_other _ _ _ _ (fun e => by injection e with _ e; cases e)).trans c1)
      · exact World.cell?_setCell_same _ _ _ ((World.cell?_setCell_other _ _ _ _ (fun e => by injection e with _ e; cases e)).trans ((World.cell?_setCell_other _ _ _ _ (fun e => by injection e with _ e; cases e)).trans c2))
    · simp only [List.mem_cons, List.not_mem_nil, or_false] at hr
      rcases hr with rfl | rfl | rfl | rfl | rfl | rfl | rfl | rfl | rfl | rfl | rfl | rfl
      · exact t0
      · exact t1
      · exact t2
      · exact t3
      · exact t4
      · exact t5
      · exact t6
      · exact t7
      · exact t8
      · exact t9
      · exact t10
      · exact t11
set_option maxRecDepth 100000 in
theorem normPd {t0 t1 t2 t3 t4 t5 t6 t7 t8 t9 t10 t11 t12 t13 t14 t15 t16 t17 t18 t19 t20 t21 t22 t23 t24 t25 t26 t27 t28 t29 t30 t31 t32 t33 t34 t35 t36 t37 t38 t39 t40 t41 t42 t43 t44 t45 t46 t47 t48 t49 t50 t51 t52 t53 t54 t55 t56 t57 t58 t59 t60 t61 t62 t63 t64 t65 t66 t67 t68 t69 t70 t71 t72 t73 t74 t75 t76 t77 t78 t79 t80 t81 t82 t83 t84 t85 t86 t87 t88 t89 t90 t91 t92 t93 t94 t95 t96 t97 t98 t99 t100 t101 t102 t103 t104 t105 t106 t107 t108 t109 t110 t111 t112 v49 v50 v51 v52 v53 v54 v55 v56 v57 v58 v59 v16 : Value} {d : List Deferred} : putAll ⟨#[t0, t1, t2, t3, t4, t5, t6, t7, t8, t9, t10, t11, t12, t13, t14, t15, t16, t17, t18, t19, t20, t21, t22, t23, t24, t25, t26, t27, t28, t29, t30, t31, t32, t33, t34, t35, t36, t37, t38, t39, t40, t41, t42, t43, t44, t45, t46, t47, t48, t49, t50, t51, t52, t53, t54, t55, t56, t57, t58, t59, t60, t61, t62, t63, t64, t65, t66, t67, t68, t69, t70, t71, t72, t73, t74, t75, t76, t77, t78, t79, t80, t81, t82, t83, t84, t85, t86, t87, t88, t89, t90, t91, t92, t93, t94, t95, t96, t97, t98, t99, t100, t101, t102, t103, t104, t105, t106, t107, t108, t109, t110, t111, t112], d⟩ [(49, v49), (50, v50), (51, v51), (52, v52), (53, v53), (54, v54), (55, v55), (56, v56), (57, v57), (58, v58), (59, v59), (16, v16)] = ⟨#[t0, t1, t2, t3, t4, t5, t6, t7, t8, t9, t10, t11, t12, t13, t14, t15, v16, t17, t18, t19, t20, t21, t22, t23, t24, t25, t26, t27, t28, t29, t30, t31, t32, t33, t34, t35, t36, t37, t38, t39, t40, t41, t42, t43, t44, t45, t46, t47, t48, v49, v50, v51, v52, v53, v54, v55, v56, v57, v58, v59, t60, t61, t62, t63, t64, t65, t66, t67, t68, t69, t70, t71, t72, t73, t74, t75, t76, t77, t78, t79, t80, t81, t82, t83, t84, t85, t86, t87, t88, t89, t90, t91, t92, t93, t94, t95, t96, t97, t98, t99, t100, t101, t102, t103, t104, t105, t106, t107, t108, t109, t110, t111, t112], d⟩ := by
  kernel_rfl
end Go.Proofs.Ytdbbpmadkhedlaa
/- piece, plain: how far the column and the piece are written. -/
namespace Go.Proofs.Ytdbbpmadkhedlaa
open Go.RowKit
set_option linter.unusedVariables false
set_option linter.unusedSimpArgs false

/-- What stands between: a column of the new width. -/
def colV (A : List (Int × Int)) (S : List Nat) (pa y : Nat) : Nat := smpV A (S.drop (y * pa))
/-- The sample at a place of the piece. -/
def pieceV (A D : LLs) (S : List Nat) (pa pb x y : Nat) : Nat := smpV (D.getD y []) (tabN pb (colV (A.getD x []) S pa))
/-- How far the column is written. -/
def btwV (A : LLs) (S : List Nat) (pa f e k i y : Nat) : Nat := if f ≤ y ∧ y < f + i then colV (A.getD k []) S pa y else if k = 0 then 0 else if f ≤ y ∧ y < e then colV (A.getD (k - 1) []) S pa y else 0
/-- How far the piece is written. -/
def tolV (A D : LLs) (S : List Nat) (pa pb nx k j i : Nat) : Nat := if i % nx < k ∨ (i % nx = k ∧ i / nx < j) then pieceV A D S pa pb (i % nx) (i / nx) else 0
theorem smpV_congr {L : List (Int × Int)} {S S' : List Nat} (h : ∀ e ∈ L, S.getD e.1.toNat 0 = S'.getD e.1.toNat 0) : smpV L S = smpV L S' := by
  unfold smpV
  have : pickV L S = pickV L S' := List.map_congr_left h
  rw [this]
theorem tabN_getD {n : Nat} {f : Nat → Nat} {i : Nat} (h : i < n) : (tabN n f).getD i 0 = f i := by rw [List.getD_eq_getElem?_getD, tabN_at h]; rfl
theorem btw_start (A : LLs) (S : List Nat) (pa f e y : Nat) : btwV A S pa f e 0 0 y = 0 := by unfold btwV; rw [if_neg (by omega), if_pos rfl]
theorem btw_new {A : LLs} {S : List Nat} {pa f e k i : Nat} : colV (A.getD k []) S pa (f + i) = btwV A S pa f e k (i + 1) (f + i) := by unfold btwV; rw [if_pos (by omega)]
theorem btw_old {A : LLs} {S : List Nat} {pa f e k i y : Nat} (h : y ≠ f + i) : btwV A S pa f e k (i + 1) y = btwV A S pa f e k i y := by
  unfold btwV
  by_cases c : f ≤ y ∧ y < f + i
  · rw [if_pos c, if_pos (by omega)]
  · rw [if_neg c, if_neg (by omega)]
theorem btw_end {A : LLs} {S : List Nat} {pa f e k d y : Nat} (hd : f + d = e) : btwV A S pa f e k d y = btwV A S pa f e (k + 1) 0 y := by
  unfold btwV
  rw [hd, if_neg (show ¬ (f ≤ y ∧ y < f + 0) by omega), if_neg (show ¬ k + 1 = 0 by omega), show k + 1 - 1 = k by omega]
  by_cases c : f ≤ y ∧ y < e
  · rw [if_pos c, if_pos c]
  · rw [if_neg c, if_neg c]
    split <;> rfl
theorem btw_in {A : LLs} {S : List Nat} {pa f e k d y : Nat} (hd : f + d = e) (h1 : f ≤ y) (h2 : y < e) : btwV A S pa f e k d y = colV (A.getD k []) S pa y := by unfold btwV; rw [if_pos (by omega)]
theorem tol_start (A D : LLs) (S : List Nat) (pa pb nx i : Nat) : tolV A D S pa pb nx 0 0 i = 0 := by
  unfold tolV
  rw [if_neg (fun h => by rcases h with h | ⟨_, h⟩ <;> exact absurd h (Nat.not_lt_zero _))]
theorem tol_new {A D : LLs} {S : List Nat} {pa pb nx k j : Nat} (hk : k < nx) : pieceV A D S pa pb k j = tolV A D S pa pb nx k (j + 1) (j * nx + k) := by
  unfold tolV
  rw [place_mod j hk, place_div j hk, if_pos (by omega)]
theorem tol_old {A D : LLs} {S : List Nat} {pa pb nx k j i : Nat} (hk : k < nx) (h : i ≠ j * nx + k) : tolV A D S pa pb nx k (j + 1) i = tolV A D S pa pb nx k j i := by
  unfold tolV
  have hdm : nx * (i / nx) + i % nx = i := Nat.div_add_mod i nx
  by_cases c : i % nx < k ∨ (i % nx = k ∧ i / nx < j)
  · rw [if_pos c, if_pos (by omega)]
  · rw [if_neg c, if_neg (fun c' => ?_)]
    have h1 : i % nx = k := by omega
    have h2 : i / nx = j := by omega
    rw [h1, h2, Nat.mul_comm] at hdm
    omega
theorem tol_end {A D : LLs} {S : List Nat} {pa pb nx ny k i : Nat} (hi : i < nx * ny) : tolV A D S pa pb nx k ny i = tolV A D S pa pb nx (k + 1) 0 i := by
  unfold tolV
  obtain ⟨_, _, h2⟩ := row_lt hi
  generalize pieceV A D S pa pb (i % nx) (i / nx) = z
  generalize i % nx = a at *
  generalize i / nx = b at *
  by_cases c : a < k ∨ (a = k ∧ b < ny)
  · rw [if_pos c, if_pos (by omega)]
  · rw [if_neg c, if_neg (by omega)]
theorem tol_all {A D : LLs} {S : List Nat} {pa pb nx ny i : Nat} (hi : i < nx * ny) : tolV A D S pa pb nx nx 0 i = pieceV A D S pa pb (i % nx) (i / nx) := by
  unfold tolV
  obtain ⟨_, h1, _⟩ := row_lt hi
  rw [if_pos (Or.inl h1)]
/-- What is told of a column is what is told of all of it. -/
theorem piece_at {A D : LLs} {S : List Nat} {pa pb f e d k j : Nat} {L : List (Int × Int)} (hd : f + d = e) (he : e ≤ pb) (hL : D[j]? = some L) (hI : ∀ p ∈ L, (f : Int) ≤ p.1 ∧ p.1 < (e : Int)) : smpV L (tabN pb (btwV A S pa f e k d)) = pieceV A D S pa pb k j := by
  unfold pieceV
  have hg : D.getD j [] = L := by rw [List.getD_eq_getElem?_getD, hL]; rfl
  rw [hg]
  refine smpV_congr fun p hp => ?_
  obtain ⟨h1, h2⟩ := hI p hp
  have hp1 : p.1.toNat < pb := by omega
  rw [tabN_getD hp1, tabN_getD hp1, btw_in hd (by omega) (by omega)]
structure Pcs (w2 wr : World) (gbt gt g16 nx ny n pb : Nat) (fb ft : Nat → Nat) : Prop where
  q : Q w2 wr
  bt : URow wr gbt (tabN pb fb)
  tl : URow wr gt (tabN n ft)
  c0 : wr.cell? ⟨g16, 0, none⟩ = some (.int .i64 (nx : Nat))
  c1 : wr.cell? ⟨g16, 1, none⟩ = some (.int .i64 (ny : Nat))
  c2 : wr.cell? ⟨g16, 2, none⟩ = some (.slice (some ⟨gt, 0, none⟩) n n)
  l1 : w2.heap.size ≤ gbt
  l2 : w2.heap.size ≤ gt
  n1 : gbt ≠ gt
  n2 : gbt ≠ g16
  n3 : gt ≠ g16
theorem Pcs.next {w2 wr x : World} {gbt gt g16 nx ny n pb : Nat} {fb ft : Nat → Nat} (h : Pcs w2 wr gbt gt g16 nx ny n pb fb ft) (q : Q wr x) : Pcs w2 x gbt gt g16 nx ny n pb fb ft :=
  ⟨h.q.trans q, h.bt.next q, h.tl.next q, q.cell h.c0, q.cell h.c1, q.cell h.c2, h.l1, h.l2, h.n1, h.n2, h.n3⟩
theorem Pcs.setb {w2 wr : World} {gbt gt g16 nx ny n pb : Nat} {fb ft f' : Nat → Nat} (h : Pcs w2 wr gbt gt g16 nx ny n pb fb ft) {i v : Nat} (hi : i < pb) (hv : v = f' i) (hs : ∀ j, j ≠ i → f' j = fb j) : Pcs w2 (wr.setCell ⟨gbt, i, none⟩ (.int .u32 (v : Nat))) gbt gt g16 nx ny n pb f' ft := by
  have hr := h.bt.set (i := i) (by rw [tabN_len]; exact hi) v
  rw [tabN_set (g := f') hv (fun j _ hj => hs j hj)] at hr
  exact ⟨h.q.set h.l1 _, hr, h.tl.other (p := ⟨gbt, i, none⟩) h.n1 _, (World.cell?_setCell_other _ _ _ _ (fun e => h.n2 (by injection e))).trans h.c0, (World.cell?_setCell_other _ _ _ _ (fun e => h.n2 (by injection e))).trans h.c1, (World.cell?_setCell_other _ _ _ _ (fun e => h.n2 (by injection e))).trans h.c2, h.l1, h.l2, h.n1, h.n2, h.n3⟩
theorem Pcs.sett {w2 wr : World} {gbt gt g16 nx ny n pb : Nat} {fb ft f' : Nat → Nat} (h : Pcs w2 wr gbt gt g16 nx ny n pb fb ft) {i v : Nat} (hi : i < n) (hv : v = f' i) (hs : ∀ j, j ≠ i → f' j = ft j) : Pcs w2 (wr.setCell ⟨gt, i, none⟩ (.int .u32 (v : Nat))) gbt gt g16 nx ny n pb fb f' := by
  have hr := h.tl.set (i := i) (by rw [tabN_len]; exact hi) v
  rw [tabN_set (g := f') hv (fun j _ hj => hs j hj)] at hr
  exact ⟨h.q.set h.l2 _, h.bt.other (p := ⟨gt, i, none⟩) (fun e => h.n1 e.symm) _, hr, (World.cell?_setCell_other _ _ _ _ (fun e => h.n3 (by injection e))).trans h.c0, (World.cell?_setCell_other _ _ _ _ (fun e => h.n3 (by injection e))).trans h.c1, (World.cell?_setCell_other _ _ _ _ (fun e => h.n3 (by injection e))).trans h.c2, h.l1, h.l2, h.n1, h.n2, h.n3⟩
theorem Pcs.alike {w2 wr : World} {gbt gt g16 nx ny n pb : Nat} {fb ft fb' ft' : Nat → Nat} (h : Pcs w2 wr gbt gt g16 nx ny n pb fb ft) (h1 : ∀ i, i < pb → fb' i = fb i) (h2 : ∀ i, i < n → ft' i = ft i) : Pcs w2 wr gbt gt g16 nx ny n pb fb' ft' := by
  have a := h.bt
  have b := h.tl
  rw [← tabN_congr h1] at a
  rw [← tabN_congr h2] at b
  exact ⟨h.q, a, b, h.c0, h.c1, h.c2, h.l1, h.l2, h.n1, h.n2, h.n3⟩
theorem usl_drop {w : World} {gs os cs sl ya : Nat} {S : List Nat} (hU : UIs w gs os S) (hl : S.length = sl) (hc : S.length ≤ cs) (hy : ya ≤ sl) : USl w (.slice (some ⟨gs, os + ya, none⟩) (sl - ya) (cs - ya)) (S.drop ya) := by
  have hlen : (S.drop ya).length = sl - ya := by rw [List.length_drop, hl]
  have h : UIs w gs (os + ya) (S.drop ya) := fun i hi => by
    rw [hlen] at hi
    have := hU (ya + i) (by omega)
    rw [show os + ya + i = os + (ya + i) by omega, this]
    congr 3
    rw [List.getD_eq_getElem?_getD, List.getD_eq_getElem?_getD, List.getElem?_drop]
  have := h.usl (cap := cs - ya) (by rw [hlen]; omega)
  rw [hlen] at this
  exact this
theorem drop_bd {S : List Nat} (h : ∀ i, S.getD i 0 < 4294967296) (ya i : Nat) : (S.drop ya).getD i 0 < 4294967296 := by
  have := h (ya + i)
  rw [List.getD_eq_getElem?_getD] at this ⊢
  rw [List.getElem?_drop]
  exact this
section
variable {ρ : Operand → Value} {x : World} {d : Option Tmp} {ty : TypeId} {ps : String} {af : Array Edge} {gd : Option (Nat × Bool)}
theorem run_ixu {j k gg Lw cap i : Nat} (h : ρ (.tmp j) = .slice (some ⟨gg, 0, none⟩) Lw cap) (h' : ρ (.tmp k) = .int .i64 (i : Nat)) (hi : i < Lw) : (execOp ρ { dst := d, op := .indexAddr 31 (.tmp j) (.tmp k), type := ty, pos := ps, after := af, guard := gd }).run Try.prog x = .ok (.value (.pointer (some ⟨gg, i, none⟩))) x := by
  simp [execOp, h, h', go_sem, hi]
theorem run_stu {j k : Nat} {B i : Nat} {n : Nat} {u : Value} (h : ρ (.tmp j) = .pointer (some ⟨B, i, none⟩)) (h' : ρ (.tmp k) = .int .u32 (n : Nat)) (c : x.cell? ⟨B, i, none⟩ = some u) (f : x.frozen? ⟨B, i, none⟩ = false) : (execOp ρ { dst := none, op := .store 34 (.tmp j) (.tmp k), type := ty, pos := ps, after := af, guard := gd }).run Try.prog x = .ok .skip (x.setCell ⟨B, i, none⟩ (.int .u32 (n : Nat))) := by
  simp [execOp, h, h', go_sem, c, f]
end
theorem overW_lt (X : Nat) : overW X < 4294967296 := by
  unfold overW
  split
  · decide
  · exact toldD_lt _
theorem smpV_lt (L : List (Int × Int)) (S : List Nat) : smpV L S < 4294967296 := overW_lt _
theorem btw_lt {A : LLs} {S : List Nat} {pa f e k i : Nat} (h : ∀ i, S.getD i 0 < 4294967296) (y : Nat) : btwV A S pa f e k i y < 4294967296 := by
  unfold btwV
  split
  · exact smpV_lt _ _
  · split
    · decide
    · split
      · exact smpV_lt _ _
      · decide
end Go.Proofs.Ytdbbpmadkhedlaa
/- One sample stays. Plain. -/
namespace Go.Proofs.Ytdbbpmadkhedlaa
open Go.RowKit
set_option linter.unusedVariables false
set_option linter.unusedSimpArgs false

/-- Sizes of weights together. -/
def absL (L : List (Int × Int)) : Nat := (L.map fun e => e.2.natAbs).sum
theorem absL_app (L M : List (Int × Int)) : absL (L ++ M) = absL L + absL M := by simp [absL]
theorem absL_put (L : List (Int × Int)) (p n : Int) : absL (wput L p n) ≤ absL L + n.natAbs := by
  rcases wput_cases L p n with ⟨h, e⟩ | ⟨_, h, _⟩ | ⟨M, x, _, h1, h2⟩
  · rw [h]; omega
  · rw [h, absL_app]; simp [absL]
  · rw [h1] at h2 ⊢
    rw [h2, absL_app, absL_app]
    simp only [absL, List.map_cons, List.map_nil, List.sum_cons, List.sum_nil]
    omega
theorem absL_run {f pl : Int → Int} {a : Int} {B : Nat} (hf : ∀ k, (f k).natAbs ≤ B) : ∀ n, absL (wrun f pl a n) ≤ n * B
  | 0 => by simp [wrun, absL]
  | n + 1 => by
    have := absL_run (pl := pl) (a := a) hf n
    have h2 := absL_put (wrun f pl a n) (pl (a + n)) (f (a + n))
    have h3 := hf (a + n)
    rw [Nat.succ_mul]
    show absL (wput _ _ _) ≤ _
    omega
theorem absL_sum {L : List (Int × Int)} (hp : ∀ e ∈ L, 0 < e.2) : (absL L : Int) = sndSum L := by
  unfold absL sndSum
  induction L with
  | nil => rfl
  | cons e L ih =>
    have := ih (fun e he => hp e (by simp [he]))
    have h1 := hp e (by simp)
    simp only [List.map_cons, List.sum_cons]
    rw [Int.natCast_add, this]
    omega
theorem wls_abs {kind : Int} {F T i : Nat} (hk : kind = 1 ∨ kind = 2 ∨ kind = 3) (h : Sz F T i) : (absL (wlsV kind F T i) : Int) ≤ 992 * sndSum (wlsV kind F T i) := by
  have hS := wls_pos hk h
  have hm0 : 0 < ((max F T : Nat) : Int) := by have := h.f1; omega
  by_cases h3 : kind = 3
  · subst h3
    have hl := low_cubic h
    have hw := (win_facts (kind := 3) h).2.1
    have hn : winV 3 F T i ≤ 62 := by unfold winV; omega
    have hM : 0 < ((max F T : Nat) : Int) * ((max F T : Nat) : Int) * ((max F T : Nat) : Int) := Int.mul_pos (Int.mul_pos hm0 hm0) hm0
    obtain ⟨B, hB⟩ : ∃ B : Nat, (B : Int) = 16 * (((max F T : Nat) : Int) * ((max F T : Nat) : Int) * ((max F T : Nat) : Int)) := ⟨(16 * (((max F T : Nat) : Int) * ((max F T : Nat) : Int) * ((max F T : Nat) : Int))).toNat, by omega⟩
    have := absL_run (f := wfV 3 F T i) (pl := plV F) (a := fstV 3 F T i) (B := B) (fun k => by
      have := cub_rel (c := absI (2 * (T : Int) * k - midV F T i)) (by unfold absI; omega) hm0
      show (cubV (absI (2 * (T : Int) * k - midV F T i)) (2 * ((max F T : Nat) : Int))).natAbs ≤ B
      omega) (winV 3 F T i)
    generalize ((max F T : Nat) : Int) * ((max F T : Nat) : Int) * ((max F T : Nat) : Int) = M at *
    have h62 : winV 3 F T i * B ≤ 62 * B := Nat.mul_le_mul_right _ hn
    show (absL (wrun _ _ _ _) : Int) ≤ _
    have : ((absL (wrun (wfV 3 F T i) (plV F) (fstV 3 F T i) (winV 3 F T i)) : Nat) : Int) ≤ 62 * (B : Int) := by omega
    omega
  · have hp : ∀ e ∈ wlsV kind F T i, 0 < e.2 := wrun_pos (fun k => by
      show 0 ≤ wgt kind _ _
      rcases hk with rfl | rfl | rfl
      · show 0 ≤ if _ then (1 : Int) else 0; split <;> omega
      · show 0 ≤ max (2 * ((max F T : Nat) : Int) - absI _) 0; omega
      · exact absurd rfl h3) _
    rw [absL_sum hp]
    omega
/-- Shares are not great together. -/
def absF (f : Nat → Int) : Nat → Nat
  | 0 => 0
  | k + 1 => absF f k + (f k).natAbs
theorem absF_zf (zs : List Int) : ∀ k, k ≤ zs.length → absF (zf zs) k = ((zs.take k).map Int.natAbs).sum
  | 0, _ => by simp [absF]
  | k + 1, hk => by
    unfold absF
    rw [absF_zf zs k (by omega), List.take_add_one, List.getElem?_eq_getElem (by omega), List.map_append, List.sum_append]
    unfold zf
    rw [List.getD_eq_getElem?_getD, List.getElem?_eq_getElem (by omega)]
    simp
theorem flo_abs {z : Nat → Int} {S : Int} (hS : 0 < S) : ∀ n : Nat, S * (absF (flo z S) n : Int) ≤ 65536 * (absF z n : Int) + (n : Int) * S
  | 0 => by simp [absF]
  | n + 1 => by
    have ih := flo_abs (z := z) hS n
    have e := flo_rs z S n
    have r0 := rs_nonneg z hS (n : Int)
    have r1 := rs_lt z hS (n : Int)
    unfold absF
    have key : S * ((flo z S n).natAbs : Int) ≤ 65536 * ((z n).natAbs : Int) + S := by
      rcases Int.lt_or_le (flo z S n) 0 with c | c
      · have h1 : ((flo z S n).natAbs : Int) = -(flo z S n) := by omega
        rw [h1, Int.mul_neg]
        omega
      · have h1 : ((flo z S n).natAbs : Int) = flo z S n := by omega
        rw [h1]
        omega
    rw [Int.natCast_add, Int.mul_add, Int.natCast_add, Int.mul_add, show (((n + 1 : Nat) : Int)) * S = (n : Int) * S + S by rw [Int.natCast_add, Int.add_mul]; simp]
    omega
theorem tpK_abs (L : List (Int × Int)) (sh : Nat → Int) : ∀ j, absL (tpK L sh j) = absF sh j
  | 0 => rfl
  | j + 1 => by
    unfold tpK absF
    split
    · rename_i h; rw [tpK_abs L sh j, h]; rfl
    · rw [absL_app, tpK_abs L sh j]; simp [absL]
theorem absF_le {f g : Nat → Int} (h : ∀ i, (f i).natAbs ≤ (g i).natAbs + 1) : ∀ n, absF f n ≤ absF g n + n
  | 0 => Nat.le_refl _
  | n + 1 => by
    have := absF_le h n
    have := h n
    unfold absF
    omega
theorem tpA_abs {kind F T i : Int} (h : tapE kind F T i = 0) : absL (tpA kind F T i) ≤ 2 ^ 27 := by
  obtain ⟨hk, hz, e1, e2, e3⟩ := tapE_ok h
  have hS := wls_pos hk hz
  have ha := wls_abs hk hz
  have hl := (wls_bound (kind := kind) hz).1
  have etp : tpA kind F T i = tapsL (wlsV kind F.toNat T.toNat i.toNat) := by unfold tpA; rw [if_pos h]
  rw [etp]
  unfold tapsL
  generalize wlsV kind F.toNat T.toNat i.toNat = L at *
  rw [tpK_abs]
  have hz1 : absF (zf (L.map Prod.snd)) L.length = absL L := by
    have := absF_zf (L.map Prod.snd) L.length (by rw [List.length_map]; exact Nat.le_refl _)
    rw [this, List.take_of_length_le (by rw [List.length_map]; exact Nat.le_refl _), List.map_map]
    rfl
  rw [sndSum_zf] at hS ha
  have hf := flo_abs (z := zf (L.map Prod.snd)) hS L.length
  have hs := absF_le (f := shrV (zf (L.map Prod.snd)) L.length) (g := flo (zf (L.map Prod.snd)) (sumF (zf (L.map Prod.snd)) L.length)) (fun i => by
    unfold shrV shrK
    split <;> omega) L.length
  rw [hz1] at hf
  generalize sumF (zf (L.map Prod.snd)) L.length = S at *
  have h3 : S * (absF (flo (zf (L.map Prod.snd)) S) L.length : Int) ≤ S * 65011774 := by
    have : (L.length : Int) * S ≤ 62 * S := Int.mul_le_mul_of_nonneg_right (by omega) (by omega)
    omega
  have h4 : (absF (flo (zf (L.map Prod.snd)) S) L.length : Int) ≤ 65011774 := Int.le_of_mul_le_mul_left h3 hS
  have : (2 : Nat) ^ 27 = 134217728 := by decide
  omega
end Go.Proofs.Ytdbbpmadkhedlaa
/- One sample, with weights that sum to 65536, is that sample. Plain. -/
namespace Go.Proofs.Ytdbbpmadkhedlaa
open Go.RowKit
set_option linter.unusedVariables false
set_option linter.unusedSimpArgs false

theorem finite_nan {x : Nat} (hx : rung32 x < 2139095040) : nanN x = false := by rw [nanN_rung]; exact decide_eq_false (by omega)
theorem sampleZ_zero {x : Nat} (h : sampleZ x = 0) : rung32 x = 0 := by
  rcases Nat.eq_zero_or_pos (rung32 x) with c | c
  · exact c
  · have hv : 0 < val32 (rung32 x) := Nat.lt_of_le_of_lt (Nat.zero_le _) (val_inj_lt32.2 c)
    have hm : 0 < mag32 (rung32 x) := Nat.pos_of_ne_zero (fun z => by unfold val32 at hv; rw [z, Nat.zero_mul] at hv; exact absurd hv (Nat.lt_irrefl 0))
    have e : (sampleZ x).natAbs = mag32 (rung32 x) * 2 ^ (plc32 (rung32 x) + 925) := signed_abs _ _ _
    have := Nat.mul_pos hm (Nat.two_pow_pos (plc32 (rung32 x) + 925))
    rw [← e, h] at this
    exact absurd this (Nat.lt_irrefl 0)
theorem sval_abs (a : Nat) : (sval64 a).natAbs = val64 (rung64 a) := by
  unfold sval64
  generalize val64 (rung64 a) = v
  split <;> omega
theorem nlt_eq {a b v : Nat} (h1 : val64 a = v) (h2 : val64 b = v) : a = b := by
  have n1 : ¬ a < b := fun h => by have := val_inj_lt64.2 h; rw [h1, h2] at this; exact absurd this (Nat.lt_irrefl _)
  have n2 : ¬ b < a := fun h => by have := val_inj_lt64.2 h; rw [h1, h2] at this; exact absurd this (Nat.lt_irrefl _)
  omega
theorem neg_65536 (X : Int) : decide (65536 * X < 0) = decide (X < 0) := decide_eq_decide.2 ⟨fun h => by omega, fun h => by omega⟩
theorem abs_65536 (X : Int) : (65536 * X).natAbs = X.natAbs * 2 ^ 16 := by rw [Int.natAbs_mul]; show 65536 * _ = _ * 65536; exact Nat.mul_comm _ _
theorem over_fin {D : Nat} (h : rung64 D < 9218868437227405312) : overW D = toldD (some (Ieee.double.read (Ieee.double.word (sgn64 D) (rungOf Ieee.double (mag64 (rung64 D)) (-1074 + (plc64 (rung64 D) : Int) - 16))))) := by
  have e : floatBits .quo .f64 D 4679240012837945344 = some (Ieee.double.word (sgn64 D) (rungOf Ieee.double (mag64 (rung64 D)) (-1074 + (plc64 (rung64 D) : Int) - 16))) := by
    show ((Ieee.double.read D).quotient (Ieee.double.fractionBits + 2) (Ieee.double.read 4679240012837945344)).map Ieee.double.write = _
    rw [read_fin64 h, read_65536q]
    have := quo_power64q (sgn64 D) (mag_lt64 (rung64 D)) (-1074 + (plc64 (rung64 D) : Int)) (-36)
    rw [show -1074 + (plc64 (rung64 D) : Int) - -36 - 52 = -1074 + (plc64 (rung64 D) : Int) - 16 by omega] at this
    exact this
  unfold overW
  rw [e]
theorem over_const {x D : Nat} (hx : rung32 x < 2139095040) (hx4 : x < 4294967296) (hD : IsDq (sampleZ x) 65536 D) (h0 : sampleZ x ≠ 0) : overW D = x := by
  obtain ⟨m, g, h1, h2, h3⟩ := X_formq hx
  obtain ⟨r1, s1⟩ := hD.sval h1 h2 h3 (by decide)
  obtain ⟨v1, f1⟩ := kX_valq (k := 1) h1 h2 h3 (by decide)
  rw [Int.one_mul] at v1 f1
  obtain ⟨w1, w2, w3⟩ := wide_fin hx
  have hne : (65536 : Int) * sampleZ x ≠ 0 := Int.mul_ne_zero (by decide) h0
  have hsg : sgn64 D = sgn32 x := by
    rw [hD.2.2 hne]
    have hsx : sgn32 x = decide (sampleZ x < 0) := signed_sign (s := sgn32 x) (m := mag32 (rung32 x)) (k := plc32 (rung32 x) + 925) h0
    rw [hsx]
    exact neg_65536 _
  have hval : mag64 (rung64 D) * 2 ^ plc64 (rung64 D) = (sampleZ x).natAbs * 2 ^ 16 := by
    have e1 : val64 (rung64 D) = (65536 * sampleZ x).natAbs := by
      rw [hD.2.1]
      exact (kX_valq (k := 65536) h1 h2 h3 (by decide)).1
    have e2 : val64 (rung64 D) = mag64 (rung64 D) * 2 ^ plc64 (rung64 D) := rfl
    rw [← e2, e1]
    exact abs_65536 _
  have hr : rungOf Ieee.double (mag64 (rung64 D)) (-1074 + (plc64 (rung64 D) : Int) - 16) = rungOf Ieee.double (sampleZ x).natAbs (-1074) := by
    have a := rung_scale Ieee.double (mag64 (rung64 D)) (plc64 (rung64 D)) (-1090)
    have b := rung_scale Ieee.double (sampleZ x).natAbs 16 (-1090)
    rw [hval, b] at a
    rw [show -1074 + (plc64 (rung64 D) : Int) - 16 = -1090 + (plc64 (rung64 D) : Int) by omega, ← a]
    rfl
  have hrw : rungOf Ieee.double (sampleZ x).natAbs (-1074) = rung64 (wideN x) := by
    have e : val64 (rung64 (wideN x)) = (sampleZ x).natAbs := by
      rw [← w3]
      exact (sval_abs _).symm
    exact nlt_eq v1 e
  rw [over_fin r1, hr, hrw, hsg]
  obtain ⟨k1, k2⟩ := sgn_word64 (sgn32 x) (r := rung64 (wideN x)) (by omega)
  have hread : Ieee.double.read (Ieee.double.word (sgn32 x) (rung64 (wideN x))) = Ieee.double.read (wideN x) := by
    rw [read_fin64 (by rw [k2]; exact w1), read_fin64 w1, k1, k2, w2]
  have hn := finite_nan hx
  have ew : wideW x = wideN x := by unfold wideW; rw [hn]; rfl
  rw [hread, ← ew, narrow_wide hx4, madeN_of hn]
/-- Noughts. -/
theorem prod_zero {y : Int} {s : Nat} (hs : s = 0 ∨ s = 2147483648) (h0 : y ≤ 268435456) (h1 : -268435456 ≤ y) : prodV y s = if (decide (y < 0) ^^ decide (s = 2147483648)) = true then 9223372036854775808 else 0 := by
  obtain ⟨j, p, hr, hp⟩ := read_weightq h0 h1
  have hw : Ieee.double.read (wideW s) = .number (decide (s = 2147483648)) 0 (-1074) := by
    rcases hs with rfl | rfl
    · decide +kernel
    · decide +kernel
  unfold prodV
  rw [hr, hw]
  have he : (Ieee.Datum.number (decide (y < 0)) (y.natAbs * 2 ^ j) p).product (.number (decide (s = 2147483648)) 0 (-1074)) = some (.number (decide (y < 0) ^^ decide (s = 2147483648)) (y.natAbs * 2 ^ j * 0) (p + -1074)) := rfl
  rw [he, told64_numq, Nat.mul_zero, rungOf_zero]
  cases (decide (y < 0) ^^ decide (s = 2147483648))
  · rfl
  · decide
theorem add_00 : add64V 0 0 = 0 := by decide +kernel
theorem add_0m : add64V 0 9223372036854775808 = 0 := by decide +kernel
theorem add_m0 : add64V 9223372036854775808 0 = 0 := by decide +kernel
theorem add_mm : add64V 9223372036854775808 9223372036854775808 = 9223372036854775808 := by decide +kernel
theorem over_0 : overW 0 = 0 := by decide +kernel
theorem over_m : overW 9223372036854775808 = 2147483648 := by decide +kernel
theorem fold_zero : ∀ (l : List Nat) (A : Nat), (A = 0 ∨ A = 9223372036854775808) → (∀ p ∈ l, p = 0 ∨ p = 9223372036854775808) → (l.foldl add64V A = 0 ∨ l.foldl add64V A = 9223372036854775808) ∧ ((A = 0 ∨ 0 ∈ l) → l.foldl add64V A = 0) ∧ ((A = 9223372036854775808 ∧ ∀ p ∈ l, p = 9223372036854775808) → l.foldl add64V A = 9223372036854775808)
  | [], A, hA, _ => by
    refine ⟨hA, fun h => ?_, fun h => h.1⟩
    rcases h with h | h
    · exact h
    · cases h
  | p :: l, A, hA, hl => by
    rw [List.foldl_cons]
    have hp := hl p (by simp)
    have hA2 : add64V A p = 0 ∨ add64V A p = 9223372036854775808 := by
      rcases hA with rfl | rfl <;> rcases hp with rfl | rfl
      · exact Or.inl add_00
      · exact Or.inl add_0m
      · exact Or.inl add_m0
      · exact Or.inr add_mm
    obtain ⟨a, b, c⟩ := fold_zero l (add64V A p) hA2 (fun q hq => hl q (by simp [hq]))
    refine ⟨a, fun h => ?_, fun h => ?_⟩
    · rcases h with h | h
      · subst h
        refine b (Or.inl ?_)
        rcases hp with rfl | rfl
        · exact add_00
        · exact add_0m
      · rcases List.mem_cons.1 h with h | h
        · subst h
          refine b (Or.inl ?_)
          rcases hA with rfl | rfl
          · exact add_00
          · exact add_m0
        · exact b (Or.inr h)
    · obtain ⟨rfl, h2⟩ := h
      have e := h2 p (by simp)
      subst e
      exact c ⟨add_mm, fun q hq => h2 q (by simp [hq])⟩
theorem prods_one {W : List Int} {x : Nat} {P : List Nat} (hl : P.length = W.length) (hP : ∀ p ∈ P, p = x) : prods W P = W.map fun y => prodV y x := by
  have e : P = List.replicate W.length x := by rw [← hl]; exact List.eq_replicate_iff.2 ⟨rfl, hP⟩
  rw [e]
  refine List.ext_getElem? fun i => ?_
  rcases Nat.lt_or_ge i W.length with h | h
  · have hp := prods_at W (List.replicate W.length x) (i := i) (by simp; exact h)
    have hl : i < (prods W (List.replicate W.length x)).length := by rw [prods_length]; simp; exact h
    rw [List.getD_eq_getElem?_getD, List.getElem?_eq_getElem hl] at hp
    rw [List.getElem?_eq_getElem hl, List.getElem?_map, List.getElem?_eq_getElem h]
    simp only [Option.getD_some, Option.map_some] at hp ⊢
    rw [hp, List.getD_eq_getElem?_getD, List.getElem?_eq_getElem h, List.getD_eq_getElem?_getD, List.getElem?_replicate, if_pos h]
    rfl
  · rw [List.getElem?_eq_none (by rw [prods_length]; simp; exact h), List.getElem?_eq_none (by simp; exact h)]
/-- Taps whose weights sum to 65536, of one sample. -/
theorem smp_const {L : List (Int × Int)} {S : List Nat} {x m : Nat} (ok : TOk m L) (hs : sndSum L = 65536) (ha : absL L ≤ 2 ^ 27) (hx : rung32 x < 2139095040) (hx4 : x < 4294967296) (hS : ∀ e ∈ L, S.getD e.1.toNat 0 = x) :
    (smpV L S = x ∨ (x = 2147483648 ∧ smpV L S = 0)) ∧ ((∀ e ∈ L, 0 < e.2) → smpV L S = x) := by
  have hp : prods (L.map Prod.snd) (pickV L S) = (L.map Prod.snd).map fun y => prodV y x := prods_one (by unfold pickV; simp) (fun p hp => by
    unfold pickV at hp
    obtain ⟨e, he, rfl⟩ := List.mem_map.1 hp
    exact hS e he)
  have hb : ∀ y ∈ L.map Prod.snd, y ≤ 268435456 ∧ -268435456 ≤ y := fun y hy => by
    obtain ⟨e, he, rfl⟩ := List.mem_map.1 hy
    have := ok.wt e he
    omega
  have hne : (L.map Prod.snd).map (fun y => prodV y x) ≠ [] := fun e => by
    have := congrArg List.length e
    rw [List.length_map, List.length_map] at this
    have h1 := ok.one
    rw [this] at h1
    cases h1
  by_cases h0 : sampleZ x = 0
  · have hx0 : x = 0 ∨ x = 2147483648 := by
      have hr : rung32 x = 0 := sampleZ_zero h0
      unfold rung32 at hr
      omega
    have key : ∀ p ∈ (L.map Prod.snd).map (fun y => prodV y x), p = 0 ∨ p = 9223372036854775808 := fun p hp => by
      obtain ⟨y, hy, rfl⟩ := List.mem_map.1 hp
      rw [prod_zero hx0 (hb y hy).1 (hb y hy).2]
      split <;> simp
    obtain ⟨a, b, c⟩ := fold_zero _ 9223372036854775808 (Or.inr rfl) key
    have hd : dotF ((L.map Prod.snd).map fun y => prodV y x) = ((L.map Prod.snd).map fun y => prodV y x).foldl add64V 9223372036854775808 := by unfold dotF; rw [if_neg hne]
    unfold smpV
    rw [hp, hd]
    rcases hx0 with rfl | rfl
    · -- +0: one weight is above 0
      have hpos : ∃ e ∈ L, 0 < e.2 := by
        refine Classical.byContradiction fun h => ?_
        have hle : ∀ e ∈ L, e.2 ≤ 0 := fun e he => by
          rcases Int.lt_or_le 0 e.2 with c | c
          · exact absurd ⟨e, he, c⟩ h
          · exact c
        have : sndSum L ≤ 0 := by
          unfold sndSum
          clear hs ha hS hp hb hne key a b c hd ok h
          induction L with
          | nil => simp
          | cons e L ih =>
            have h1 := ih (fun e he => hle e (by simp [he]))
            have h2 := hle e (by simp)
            simp only [List.map_cons, List.sum_cons]
            omega
        omega
      obtain ⟨e, he, hpe⟩ := hpos
      have hz : (0 : Nat) ∈ (L.map Prod.snd).map (fun y => prodV y 0) := by
        refine List.mem_map.2 ⟨e.2, List.mem_map.2 ⟨e, he, rfl⟩, ?_⟩
        have hb' := hb e.2 (List.mem_map.2 ⟨e, he, rfl⟩)
        rw [prod_zero (Or.inl rfl) hb'.1 hb'.2, decide_eq_false (by omega)]
        rfl
      rw [b (Or.inr hz), over_0]
      exact ⟨Or.inl rfl, fun _ => rfl⟩
    · refine ⟨?_, fun hall => ?_⟩
      · rcases a with a | a
        · rw [a, over_0]; exact Or.inr ⟨rfl, rfl⟩
        · rw [a, over_m]; exact Or.inl rfl
      · rw [c ⟨rfl, fun p hp => ?_⟩, over_m]
        obtain ⟨y, hy, rfl⟩ := List.mem_map.1 hp
        obtain ⟨e, he, rfl⟩ := List.mem_map.1 hy
        have hb' := hb e.2 hy
        have := hall e he
        rw [prod_zero (Or.inr rfl) hb'.1 hb'.2, decide_eq_false (by omega)]
        rfl
  · have hsz : sizeLq (L.map Prod.snd) ≤ 2 ^ 28 := by
      have : sizeLq (L.map Prod.snd) = absL L := by unfold sizeLq absL; rw [List.map_map]; rfl
      rw [this]
      exact Nat.le_trans ha (by decide)
    have hD := dot_Dq hx (W := L.map Prod.snd) hsz (fun y hy => by have := hb y hy; omega)
    rw [prods_one (x := x) (by simp) (fun p hp => by rw [List.mem_replicate] at hp; exact hp.2), show (L.map Prod.snd).sum = 65536 from hs] at hD
    have : smpV L S = x := by
      unfold smpV
      rw [hp]
      exact over_const hx hx4 hD h0
    exact ⟨Or.inl this, fun _ => this⟩
end Go.Proofs.Ytdbbpmadkhedlaa
