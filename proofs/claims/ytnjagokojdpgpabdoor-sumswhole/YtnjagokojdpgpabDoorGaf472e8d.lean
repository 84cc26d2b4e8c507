/- Two samples of a list change places, in whatever order the language takes. -/
import Derived.Test.YtnjagokojdpgpabDoorGb3d1a1c5
import Derived.Test.YtnjagokojdpgpabDoorGfa368369
namespace Go.Proofs.YtnjagokojdpgpabDoor
open Go.RowKit
set_option linter.unusedVariables false
set_option linter.unusedSimpArgs false

section
variable {ρ : Operand → Value} {x : World} {d : Option Tmp} {ty : TypeId} {ps : String} {af : Array Edge} {gd : Option (Nat × Bool)}
theorem run_ixw {j k gg o Lw cap i : Nat} (h : ρ (.tmp j) = .slice (some ⟨gg, o, none⟩) Lw cap) (h' : ρ (.tmp k) = .int .i64 (i : Nat)) (hi : i < Lw) : (execOp ρ { dst := d, op := .indexAddr 22 (.tmp j) (.tmp k), type := ty, pos := ps, after := af, guard := gd }).run Tryd.prog x = .ok (.value (.pointer (some ⟨gg, o + i, none⟩))) x := by
  simp [execOp, h, h', go_sem, hi]
theorem run_ldw {j : Nat} {p : Addr} {v : Value} (h : ρ (.tmp j) = .pointer (some p)) (c : x.cell? p = some v) : (execOp ρ { dst := d, op := .load 23 (.tmp j), type := ty, pos := ps, after := af, guard := gd }).run Tryd.prog x = .ok (.value v) x := by
  simp [execOp, h, go_sem, c]
theorem run_stw {j k : Nat} {B i : Nat} {n : Int} {u : Value} (h : ρ (.tmp j) = .pointer (some ⟨B, i, none⟩)) (h' : ρ (.tmp k) = .int .u32 n) (c : x.cell? ⟨B, i, none⟩ = some u) (f : x.frozen? ⟨B, i, none⟩ = false) : (execOp ρ { dst := none, op := .store 23 (.tmp j) (.tmp k), type := ty, pos := ps, after := af, guard := gd }).run Tryd.prog x = .ok .skip (x.setCell ⟨B, i, none⟩ (.int .u32 n)) := by
  simp [execOp, h, h', go_sem, c, f]
theorem run_mvw {j : Nat} {v : Value} (h : ρ (.tmp j) = v) : (execOp ρ { dst := d, op := .move (.tmp j), type := ty, pos := ps, after := af, guard := gd }).run Tryd.prog x = .ok (.value v) x := by
  rw [← h]; rfl
end
def oSw_0 : Oper := { dst := some 29, op := .move (.tmp 5), type := 22, pos := "outright.go:56", after := #[], guard := none }
def oSw_1 : Oper := { dst := some 30, op := .move (.tmp 7), type := 3, pos := "outright.go:56", after := #[], guard := none }
def oSw_2 : Oper := { dst := some 31, op := .move (.tmp 5), type := 22, pos := "outright.go:56", after := #[⟨13, .gcOnly .lateStores⟩], guard := none }
def oSw_3 : Oper := { dst := some 32, op := .move (.tmp 8), type := 3, pos := "outright.go:56", after := #[⟨13, .gcOnly .lateStores⟩], guard := none }
def oSw_4 : Oper := { dst := some 33, op := .move (.tmp 5), type := 22, pos := "outright.go:56", after := #[], guard := none }
def oSw_5 : Oper := { dst := some 34, op := .move (.tmp 8), type := 3, pos := "outright.go:56", after := #[], guard := none }
def oSw_6 : Oper := { dst := some 35, op := .indexAddr 22 (.tmp 33) (.tmp 34), type := 0, pos := "outright.go:56", after := #[⟨4, .data⟩, ⟨5, .data⟩], guard := none }
def oSw_7 : Oper := { dst := some 36, op := .load 23 (.tmp 35), type := 23, pos := "outright.go:56", after := #[⟨6, .data⟩], guard := none }
def oSw_8 : Oper := { dst := some 37, op := .move (.tmp 5), type := 22, pos := "outright.go:56", after := #[], guard := none }
def oSw_9 : Oper := { dst := some 38, op := .move (.tmp 7), type := 3, pos := "outright.go:56", after := #[], guard := none }
def oSw_10 : Oper := { dst := some 39, op := .indexAddr 22 (.tmp 37) (.tmp 38), type := 0, pos := "outright.go:56", after := #[⟨8, .data⟩, ⟨9, .data⟩], guard := none }
def oSw_11 : Oper := { dst := some 40, op := .load 23 (.tmp 39), type := 23, pos := "outright.go:56", after := #[⟨10, .data⟩], guard := none }
def oSw_12 : Oper := { dst := some 41, op := .indexAddr 22 (.tmp 29) (.tmp 30), type := 0, pos := "outright.go:56", after := #[⟨0, .data⟩, ⟨1, .data⟩, ⟨0, .phase⟩, ⟨1, .phase⟩, ⟨2, .textOnly .lateStores⟩, ⟨3, .textOnly .lateStores⟩, ⟨4, .phase⟩, ⟨5, .phase⟩, ⟨6, .phase⟩, ⟨7, .phase⟩, ⟨8, .textOnly .lateStores⟩, ⟨9, .textOnly .lateStores⟩, ⟨10, .textOnly .lateStoresUnsure⟩, ⟨11, .phase⟩], guard := none }
def oSw_13 : Oper := { dst := none, op := .store 23 (.tmp 41) (.tmp 36), type := 0, pos := "outright.go:56", after := #[⟨12, .data⟩, ⟨7, .data⟩, ⟨0, .phase⟩, ⟨1, .phase⟩, ⟨2, .textOnly .lateStores⟩, ⟨3, .textOnly .lateStores⟩, ⟨4, .phase⟩, ⟨5, .phase⟩, ⟨6, .phase⟩, ⟨7, .phase⟩, ⟨8, .textOnly .lateStores⟩, ⟨9, .textOnly .lateStores⟩, ⟨10, .textOnly .lateStoresUnsure⟩, ⟨11, .phase⟩], guard := none }
def oSw_14 : Oper := { dst := some 42, op := .indexAddr 22 (.tmp 31) (.tmp 32), type := 0, pos := "outright.go:56", after := #[⟨2, .data⟩, ⟨3, .data⟩, ⟨0, .phase⟩, ⟨1, .phase⟩, ⟨2, .phase⟩, ⟨3, .phase⟩, ⟨4, .phase⟩, ⟨5, .phase⟩, ⟨6, .phase⟩, ⟨7, .phase⟩, ⟨8, .phase⟩, ⟨9, .phase⟩, ⟨10, .phase⟩, ⟨11, .phase⟩, ⟨12, .phase⟩, ⟨13, .phase⟩], guard := none }
def oSw_15 : Oper := { dst := none, op := .store 23 (.tmp 42) (.tmp 40), type := 0, pos := "outright.go:56", after := #[⟨14, .data⟩, ⟨11, .data⟩, ⟨13, .chain⟩, ⟨0, .phase⟩, ⟨1, .phase⟩, ⟨2, .phase⟩, ⟨3, .phase⟩, ⟨4, .phase⟩, ⟨5, .phase⟩, ⟨6, .phase⟩, ⟨7, .phase⟩, ⟨8, .phase⟩, ⟨9, .phase⟩, ⟨10, .phase⟩, ⟨11, .phase⟩, ⟨12, .phase⟩, ⟨13, .phase⟩], guard := none }
def opsSw : List Oper := [oSw_0, oSw_1, oSw_2, oSw_3, oSw_4, oSw_5, oSw_6, oSw_7, oSw_8, oSw_9, oSw_10, oSw_11, oSw_12, oSw_13, oSw_14, oSw_15]
def slSw : List (Option Nat) := [some 29, some 30, some 31, some 32, some 33, some 34, some 35, some 36, some 37, some 38, some 39, some 40, some 41, none, some 42, none]
def vSw (g o L c i j si sj : Nat) (k : Nat) : Value := match k with
  | 0 => .slice (some ⟨g, o, none⟩) L c
  | 1 => .int .i64 (i : Nat)
  | 2 => .slice (some ⟨g, o, none⟩) L c
  | 3 => .int .i64 (j : Nat)
  | 4 => .slice (some ⟨g, o, none⟩) L c
  | 5 => .int .i64 (j : Nat)
  | 6 => .pointer (some ⟨g, o + j, none⟩)
  | 7 => .int .u32 (sj : Nat)
  | 8 => .slice (some ⟨g, o, none⟩) L c
  | 9 => .int .i64 (i : Nat)
  | 10 => .pointer (some ⟨g, o + i, none⟩)
  | 11 => .int .u32 (si : Nat)
  | 12 => .pointer (some ⟨g, o + i, none⟩)
  | 14 => .pointer (some ⟨g, o + j, none⟩)
  | _ => undef
theorem upd_true {f : Nat → Bool} {i j : Nat} (h : f j = true) : upd f i true j = true := by unfold upd; split <;> first | rfl | exact h
structure InvSw (V : Nat → Value) (w0 w1 w2 : World) (done : Nat → Bool) (val : Nat → Value) (x : World) : Prop where
  vs : ∀ k, done k = true → val k = V k
  wx : x = if done 15 = true then w2 else if done 13 = true then w1 else w0
  d13 : done 13 = true → done 7 = true ∧ done 11 = true
  d15 : done 15 = true → done 13 = true
theorem InvSw.vals {V : Nat → Value} {w0 w1 w2 : World} {done : Nat → Bool} {val : Nat → Value} {x : World} (I : InvSw V w0 w1 w2 done val x) (k : Nat) {v : Value} (hv : v = V k) : ∀ j, upd done k true j = true → upd val k v j = V j := by
  intro j hj
  by_cases e : j = k
  · subst e; rw [upd_eq]; exact hv
  · rw [upd_ne _ _ e] at hj ⊢; exact I.vs j hj
theorem InvSw.step {V : Nat → Value} {w0 w1 w2 : World} {done : Nat → Bool} {val : Nat → Value} {x : World} (I : InvSw V w0 w1 w2 done val x) {k : Nat} (h13 : k ≠ 13) (h15 : k ≠ 15) {v : Value} (hv : v = V k) : InvSw V w0 w1 w2 (upd done k true) (upd val k v) x :=
  ⟨I.vals k hv, by rw [upd_ne _ _ (Ne.symm h15), upd_ne _ _ (Ne.symm h13)]; exact I.wx,
   fun h => by rw [upd_ne _ _ (Ne.symm h13)] at h; exact ⟨upd_true (I.d13 h).1, upd_true (I.d13 h).2⟩,
   fun h => by rw [upd_ne _ _ (Ne.symm h15)] at h; exact upd_true (I.d15 h)⟩
theorem InvSw.old {V : Nat → Value} {w0 w1 w2 : World} {done : Nat → Bool} {val : Nat → Value} {x : World} (I : InvSw V w0 w1 w2 done val x) (h : done 13 = false) : x = w0 ∧ done 15 = false := by
  have h15 : done 15 = false := by
    cases e : done 15
    · rfl
    · have := I.d15 e; rw [h] at this; cases this
  refine ⟨?_, h15⟩
  rw [I.wx, h15, h]; rfl
theorem dstSw : ∀ k, ∀ u ∈ dstOf opsSw k, u ∈ ([29, 30, 31, 32, 33, 34, 35, 36, 37, 38, 39, 40, 41, 42] : List Nat) := by
  intro k u hu
  by_cases h : k < 16
  · have : ∀ k : Nat, k < 16 → ∀ u ∈ dstOf opsSw k, u ∈ ([29, 30, 31, 32, 33, 34, 35, 36, 37, 38, 39, 40, 41, 42] : List Nat) := by decide +kernel
    exact this k h u hu
  · have : opsSw[k]? = none := List.getElem?_eq_none (by show 16 ≤ k; omega)
    unfold dstOf at hu
    rw [this] at hu
    cases hu
theorem hopSw {a0 : Act} {w0 : World} {g o L c i j si sj : Nat} {R : Exit → Act → World → Prop} (h5 : a0.tmps[5]? = some (.slice (some ⟨g, o, none⟩) L c)) (h7 : a0.tmps[7]? = some (.int .i64 (i : Nat))) (h8 : a0.tmps[8]? = some (.int .i64 (j : Nat))) (hi : i < L) (hj : j < L) (ci : w0.cell? ⟨g, o + i, none⟩ = some (.int .u32 (si : Nat))) (cj : w0.cell? ⟨g, o + j, none⟩ = some (.int .u32 (sj : Nat))) (fz : ∀ k, w0.frozen? ⟨g, k, none⟩ = false) :
    ∀ k o' (a : Act) x (done : Nat → Bool) (val : Nat → Value), opsSw[k]? = some o' → done k = false → (∀ e ∈ o'.after, Region.binds .any e = true → done e.on = true) → InvSw (vSw g o L c i j si sj) w0 (w0.setCell ⟨g, o + i, none⟩ (.int .u32 (sj : Nat))) ((w0.setCell ⟨g, o + i, none⟩ (.int .u32 (sj : Nat))).setCell ⟨g, o + j, none⟩ (.int .u32 (si : Nat))) done val x → (∀ j, (∀ k, dstOf opsSw k ≠ some j) → a.tmps[j]? = a0.tmps[j]?) → (∀ j t, done j = true → dstOf opsSw j = some t → a.tmps[t]? = some (val j)) → (∀ g b, o'.guard = some (g, b) → val g = .bool b) →
      Shut (o'.wp Tryd.prog a x (fun a' x' => ∃ v, a' = a.put o'.dst v ∧ InvSw (vSw g o L c i j si sj) w0 (w0.setCell ⟨g, o + i, none⟩ (.int .u32 (sj : Nat))) ((w0.setCell ⟨g, o + i, none⟩ (.int .u32 (sj : Nat))).setCell ⟨g, o + j, none⟩ (.int .u32 (si : Nat))) (upd done k true) (upd val k v) x') R) := by
  intro k o' a x done val ho hd dep I oth vals _
  have far : ∀ u, u ∉ ([29, 30, 31, 32, 33, 34, 35, 36, 37, 38, 39, 40, 41, 42] : List Nat) → a.tmps[u]? = a0.tmps[u]? := fun u hu => oth u (fun k e => hu (dstSw k u e))
  have i5 := (far 5 (by decide)).trans h5
  have i7 := (far 7 (by decide)).trans h7
  have i8 := (far 8 (by decide)).trans h8
  rcases k with _ | _ | _ | _ | _ | _ | _ | _ | _ | _ | _ | _ | _ | _ | _ | _ | k
  · have e1 : oSw_0 = o' := Option.some.inj ho
    subst e1
    have hrun : (execOp a.eval oSw_0).run Tryd.prog x = .ok (.value (vSw g o L c i j si sj 0)) x := run_mvw (tmp_eval i5)
    refine ⟨?_⟩
    unfold Oper.wp
    rw [hrun]
    exact ⟨_, rfl, I.step (by decide) (by decide) rfl⟩
  · have e1 : oSw_1 = o' := Option.some.inj ho
    subst e1
    have hrun : (execOp a.eval oSw_1).run Tryd.prog x = .ok (.value (vSw g o L c i j si sj 1)) x := run_mvw (tmp_eval i7)
    refine ⟨?_⟩
    unfold Oper.wp
    rw [hrun]
    exact ⟨_, rfl, I.step (by decide) (by decide) rfl⟩
  · have e1 : oSw_2 = o' := Option.some.inj ho
    subst e1
    have hrun : (execOp a.eval oSw_2).run Tryd.prog x = .ok (.value (vSw g o L c i j si sj 2)) x := run_mvw (tmp_eval i5)
    refine ⟨?_⟩
    unfold Oper.wp
    rw [hrun]
    exact ⟨_, rfl, I.step (by decide) (by decide) rfl⟩
  · have e1 : oSw_3 = o' := Option.some.inj ho
    subst e1
    have hrun : (execOp a.eval oSw_3).run Tryd.prog x = .ok (.value (vSw g o L c i j si sj 3)) x := run_mvw (tmp_eval i8)
    refine ⟨?_⟩
    unfold Oper.wp
    rw [hrun]
    exact ⟨_, rfl, I.step (by decide) (by decide) rfl⟩
  · have e1 : oSw_4 = o' := Option.some.inj ho
    subst e1
    have hrun : (execOp a.eval oSw_4).run Tryd.prog x = .ok (.value (vSw g o L c i j si sj 4)) x := run_mvw (tmp_eval i5)
    refine ⟨?_⟩
    unfold Oper.wp
    rw [hrun]
    exact ⟨_, rfl, I.step (by decide) (by decide) rfl⟩
  · have e1 : oSw_5 = o' := Option.some.inj ho
    subst e1
    have hrun : (execOp a.eval oSw_5).run Tryd.prog x = .ok (.value (vSw g o L c i j si sj 5)) x := run_mvw (tmp_eval i8)
    refine ⟨?_⟩
    unfold Oper.wp
    rw [hrun]
    exact ⟨_, rfl, I.step (by decide) (by decide) rfl⟩
  · have e1 : oSw_6 = o' := Option.some.inj ho
    subst e1
    have d4 : done 4 = true := dep ⟨4, .data⟩ (by simp [oSw_6]) rfl
    have t4 := vals 4 33 d4 rfl
    rw [I.vs 4 d4] at t4
    have d5 : done 5 = true := dep ⟨5, .data⟩ (by simp [oSw_6]) rfl
    have t5 := vals 5 34 d5 rfl
    rw [I.vs 5 d5] at t5
    have hrun : (execOp a.eval oSw_6).run Tryd.prog x = .ok (.value (vSw g o L c i j si sj 6)) x := run_ixw (tmp_eval t4) (tmp_eval t5) hj
    refine ⟨?_⟩
    unfold Oper.wp
    rw [hrun]
    exact ⟨_, rfl, I.step (by decide) (by decide) rfl⟩
  · have e1 : oSw_7 = o' := Option.some.inj ho
    subst e1
    have d6 : done 6 = true := dep ⟨6, .data⟩ (by simp [oSw_7]) rfl
    have t6 := vals 6 35 d6 rfl
    rw [I.vs 6 d6] at t6
    have d13 : done 13 = false := by
      cases e : done 13
      · rfl
      · have := (I.d13 e).1; rw [hd] at this; cases this
    obtain ⟨hx, _⟩ := I.old d13
    have hrun : (execOp a.eval oSw_7).run Tryd.prog x = .ok (.value (vSw g o L c i j si sj 7)) x := run_ldw (tmp_eval t6) (by rw [hx]; exact cj)
    refine ⟨?_⟩
    unfold Oper.wp
    rw [hrun]
    exact ⟨_, rfl, I.step (by decide) (by decide) rfl⟩
  · have e1 : oSw_8 = o' := Option.some.inj ho
    subst e1
    have hrun : (execOp a.eval oSw_8).run Tryd.prog x = .ok (.value (vSw g o L c i j si sj 8)) x := run_mvw (tmp_eval i5)
    refine ⟨?_⟩
    unfold Oper.wp
    rw [hrun]
    exact ⟨_, rfl, I.step (by decide) (by decide) rfl⟩
  · have e1 : oSw_9 = o' := Option.some.inj ho
    subst e1
    have hrun : (execOp a.eval oSw_9).run Tryd.prog x = .ok (.value (vSw g o L c i j si sj 9)) x := run_mvw (tmp_eval i7)
    refine ⟨?_⟩
    unfold Oper.wp
    rw [hrun]
    exact ⟨_, rfl, I.step (by decide) (by decide) rfl⟩
  · have e1 : oSw_10 = o' := Option.some.inj ho
    subst e1
    have d8 : done 8 = true := dep ⟨8, .data⟩ (by simp [oSw_10]) rfl
    have t8 := vals 8 37 d8 rfl
    rw [I.vs 8 d8] at t8
    have d9 : done 9 = true := dep ⟨9, .data⟩ (by simp [oSw_10]) rfl
    have t9 := vals 9 38 d9 rfl
    rw [I.vs 9 d9] at t9
    have hrun : (execOp a.eval oSw_10).run Tryd.prog x = .ok (.value (vSw g o L c i j si sj 10)) x := run_ixw (tmp_eval t8) (tmp_eval t9) hi
    refine ⟨?_⟩
    unfold Oper.wp
    rw [hrun]
    exact ⟨_, rfl, I.step (by decide) (by decide) rfl⟩
  · have e1 : oSw_11 = o' := Option.some.inj ho
    subst e1
    have d10 : done 10 = true := dep ⟨10, .data⟩ (by simp [oSw_11]) rfl
    have t10 := vals 10 39 d10 rfl
    rw [I.vs 10 d10] at t10
    have d13 : done 13 = false := by
      cases e : done 13
      · rfl
      · have := (I.d13 e).2; rw [hd] at this; cases this
    obtain ⟨hx, _⟩ := I.old d13
    have hrun : (execOp a.eval oSw_11).run Tryd.prog x = .ok (.value (vSw g o L c i j si sj 11)) x := run_ldw (tmp_eval t10) (by rw [hx]; exact ci)
    refine ⟨?_⟩
    unfold Oper.wp
    rw [hrun]
    exact ⟨_, rfl, I.step (by decide) (by decide) rfl⟩
  · have e1 : oSw_12 = o' := Option.some.inj ho
    subst e1
    have d0 : done 0 = true := dep ⟨0, .data⟩ (by simp [oSw_12]) rfl
    have t0 := vals 0 29 d0 rfl
    rw [I.vs 0 d0] at t0
    have d1 : done 1 = true := dep ⟨1, .data⟩ (by simp [oSw_12]) rfl
    have t1 := vals 1 30 d1 rfl
    rw [I.vs 1 d1] at t1
    have hrun : (execOp a.eval oSw_12).run Tryd.prog x = .ok (.value (vSw g o L c i j si sj 12)) x := run_ixw (tmp_eval t0) (tmp_eval t1) hi
    refine ⟨?_⟩
    unfold Oper.wp
    rw [hrun]
    exact ⟨_, rfl, I.step (by decide) (by decide) rfl⟩
  · have e1 : oSw_13 = o' := Option.some.inj ho
    subst e1
    have d12 : done 12 = true := dep ⟨12, .data⟩ (by simp [oSw_13]) rfl
    have t12 := vals 12 41 d12 rfl
    rw [I.vs 12 d12] at t12
    have d7 : done 7 = true := dep ⟨7, .data⟩ (by simp [oSw_13]) rfl
    have t7 := vals 7 36 d7 rfl
    rw [I.vs 7 d7] at t7
    have d11 : done 11 = true := dep ⟨11, .phase⟩ (by simp [oSw_13]) rfl
    obtain ⟨hx, d15⟩ := I.old hd
    have hrun : (execOp a.eval oSw_13).run Tryd.prog x = .ok .skip (x.setCell ⟨g, o + i, none⟩ (.int .u32 (sj : Nat))) := run_stw (tmp_eval t12) (tmp_eval t7) (by rw [hx]; exact ci) (by rw [hx]; exact fz _)
    refine ⟨?_⟩
    unfold Oper.wp
    rw [hrun]
    refine ⟨undef, rfl, ⟨I.vals 13 rfl, ?_, fun _ => ⟨upd_true d7, upd_true d11⟩, fun _ => upd_eq _ _ _⟩⟩
    rw [upd_ne _ _ (by decide), d15, upd_eq, hx]
    rfl
  · have e1 : oSw_14 = o' := Option.some.inj ho
    subst e1
    have d2 : done 2 = true := dep ⟨2, .data⟩ (by simp [oSw_14]) rfl
    have t2 := vals 2 31 d2 rfl
    rw [I.vs 2 d2] at t2
    have d3 : done 3 = true := dep ⟨3, .data⟩ (by simp [oSw_14]) rfl
    have t3 := vals 3 32 d3 rfl
    rw [I.vs 3 d3] at t3
    have hrun : (execOp a.eval oSw_14).run Tryd.prog x = .ok (.value (vSw g o L c i j si sj 14)) x := run_ixw (tmp_eval t2) (tmp_eval t3) hj
    refine ⟨?_⟩
    unfold Oper.wp
    rw [hrun]
    exact ⟨_, rfl, I.step (by decide) (by decide) rfl⟩
  · have e1 : oSw_15 = o' := Option.some.inj ho
    subst e1
    have d14 : done 14 = true := dep ⟨14, .data⟩ (by simp [oSw_15]) rfl
    have t14 := vals 14 42 d14 rfl
    rw [I.vs 14 d14] at t14
    have d11 : done 11 = true := dep ⟨11, .data⟩ (by simp [oSw_15]) rfl
    have t11 := vals 11 40 d11 rfl
    rw [I.vs 11 d11] at t11
    have d13 : done 13 = true := dep ⟨13, .chain⟩ (by simp [oSw_15]) rfl
    have hx : x = w0.setCell ⟨g, o + i, none⟩ (.int .u32 (sj : Nat)) := by
      have := I.wx
      rw [hd, d13] at this
      exact this
    have hrun : (execOp a.eval oSw_15).run Tryd.prog x = .ok .skip (x.setCell ⟨g, o + j, none⟩ (.int .u32 (si : Nat))) := by
      by_cases e : i = j
      · subst e
        exact run_stw (tmp_eval t14) (tmp_eval t11) (u := .int .u32 (sj : Nat)) (by rw [hx]; exact World.cell?_setCell_same _ _ _ ci) (by rw [hx, World.frozen?_setCell]; exact fz _)
      · exact run_stw (tmp_eval t14) (tmp_eval t11) (u := .int .u32 (sj : Nat)) (by rw [hx, World.cell?_setCell_other _ _ _ _ (fun h => by injection h with _ h; omega)]; exact cj) (by rw [hx, World.frozen?_setCell]; exact fz _)
    refine ⟨?_⟩
    unfold Oper.wp
    rw [hrun]
    refine ⟨undef, rfl, ⟨I.vals 15 rfl, ?_, fun h => ?_, fun _ => upd_true d13⟩⟩
    · rw [upd_eq, hx]
      rfl
    · rw [upd_ne _ _ (by decide)] at h
      exact ⟨upd_true (I.d13 h).1, upd_true (I.d13 h).2⟩
  · cases ho
theorem regionSw {id : Nat} {l : List Oper} {R : Exit → Act → World → Prop} {a0 : Act} {w : World} {g o L c i j si sj : Nat} (hl : l = opsSw) (hsz : a0.tmps.size = 44) (h5 : a0.tmps[5]? = some (.slice (some ⟨g, o, none⟩) L c)) (h7 : a0.tmps[7]? = some (.int .i64 (i : Nat))) (h8 : a0.tmps[8]? = some (.int .i64 (j : Nat))) (hi : i < L) (hj : j < L) (ci : w.cell? ⟨g, o + i, none⟩ = some (.int .u32 (si : Nat))) (cj : w.cell? ⟨g, o + j, none⟩ = some (.int .u32 (sj : Nat))) (fz : ∀ k, w.frozen? ⟨g, k, none⟩ = false)
    (hR : ∀ x, x = ((w.drew.setCell ⟨g, o + i, none⟩ (.int .u32 (sj : Nat))).setCell ⟨g, o + j, none⟩ (.int .u32 (si : Nat))) → R .normal (putAll a0 [(29, .slice (some ⟨g, o, none⟩) L c), (30, .int .i64 (i : Nat)), (31, .slice (some ⟨g, o, none⟩) L c), (32, .int .i64 (j : Nat)), (33, .slice (some ⟨g, o, none⟩) L c), (34, .int .i64 (j : Nat)), (35, .pointer (some ⟨g, o + j, none⟩)), (36, .int .u32 (sj : Nat)), (37, .slice (some ⟨g, o, none⟩) L c), (38, .int .i64 (i : Nat)), (39, .pointer (some ⟨g, o + i, none⟩)), (40, .int .u32 (si : Nat)), (41, .pointer (some ⟨g, o + i, none⟩)), (42, .pointer (some ⟨g, o + j, none⟩))]) x) :
    (Code.region id l.toArray true).wp Tryd.prog R a0 w := by
  subst hl
  refine wp_region_slots (InvSw (vSw g o L c i j si sj) w.drew _ _) (by kernel_rfl) (by decide +kernel) ?_ ⟨(fun k h => by cases h), rfl, (fun h => by cases h), (fun h => by cases h)⟩ (hopSw h5 h7 h8 hi hj ci cj fz) ?_ ?_
  · intro k u hk
    rw [hsz]
    have := dstSw k u hk
    clear hk
    revert u
    decide
  · intro k o' x done val g' b ho _ _ _ hg _
    have key : ∀ k : Nat, k < 16 → ((opsSw[k]?).bind fun o : Oper => o.guard) = none := by decide +kernel
    have := key k (List.getElem?_eq_some_iff.1 ho).1
    rw [ho] at this
    have : o'.guard = none := this
    rw [this] at hg
    cases hg
  · intro a x val I size defers other facts
    have hx : x = ((w.drew.setCell ⟨g, o + i, none⟩ (.int .u32 (sj : Nat))).setCell ⟨g, o + j, none⟩ (.int .u32 (si : Nat))) := I.wx
    subst hx
    have hv : ∀ k, k < 16 → val k = vSw g o L c i j si sj k := fun k hk => I.vs k (decide_eq_true hk)
    have hA := act_puts (a := a) (a0 := a0) [(29, .slice (some ⟨g, o, none⟩) L c), (30, .int .i64 (i : Nat)), (31, .slice (some ⟨g, o, none⟩) L c), (32, .int .i64 (j : Nat)), (33, .slice (some ⟨g, o, none⟩) L c), (34, .int .i64 (j : Nat)), (35, .pointer (some ⟨g, o + j, none⟩)), (36, .int .u32 (sj : Nat)), (37, .slice (some ⟨g, o, none⟩) L c), (38, .int .i64 (i : Nat)), (39, .pointer (some ⟨g, o + i, none⟩)), (40, .int .u32 (si : Nat)), (41, .pointer (some ⟨g, o + i, none⟩)), (42, .pointer (some ⟨g, o + j, none⟩))] (show ([29, 30, 31, 32, 33, 34, 35, 36, 37, 38, 39, 40, 41, 42] : List Nat).Nodup by decide) size defers (fun u hu => other u (fun k e => hu (dstSw k u e))) (fun r hr => ?_)
    · refine ⟨?_⟩
      rw [hA]
      exact hR _ rfl
    · simp only [List.mem_cons, List.not_mem_nil, or_false] at hr
      rcases hr with rfl | rfl | rfl | rfl | rfl | rfl | rfl | rfl | rfl | rfl | rfl | rfl | rfl | rfl
      · exact (facts 0 29 rfl).trans (congrArg some (hv 0 (by decide)))
      · exact (facts 1 30 rfl).trans (congrArg some (hv 1 (by decide)))
      · exact (facts 2 31 rfl).trans (congrArg some (hv 2 (by decide)))
      · exact (facts 3 32 rfl).trans (congrArg some (hv 3 (by decide)))
      · exact (facts 4 33 rfl).trans (congrArg some (hv 4 (by decide)))
      · exact (facts 5 34 rfl).trans (congrArg some (hv 5 (by decide)))
      · exact (facts 6 35 rfl).trans (congrArg some (hv 6 (by decide)))
      · exact (facts 7 36 rfl).trans (congrArg some (hv 7 (by decide)))
      · exact (facts 8 37 rfl).trans (congrArg some (hv 8 (by decide)))
      · exact (facts 9 38 rfl).trans (congrArg some (hv 9 (by decide)))
      · exact (facts 10 39 rfl).trans (congrArg some (hv 10 (by decide)))
      · exact (facts 11 40 rfl).trans (congrArg some (hv 11 (by decide)))
      · exact (facts 12 41 rfl).trans (congrArg some (hv 12 (by decide)))
      · exact (facts 14 42 rfl).trans (congrArg some (hv 14 (by decide)))
set_option maxRecDepth 100000 in
theorem normSw {t0 t1 t2 t3 t4 t5 t6 t7 t8 t9 t10 t11 t12 t13 t14 t15 t16 t17 t18 t19 t20 t21 t22 t23 t24 t25 t26 t27 t28 t29 t30 t31 t32 t33 t34 t35 t36 t37 t38 t39 t40 t41 t42 t43 v29 v30 v31 v32 v33 v34 v35 v36 v37 v38 v39 v40 v41 v42 : Value} {d : List Deferred} : putAll ⟨#[t0, t1, t2, t3, t4, t5, t6, t7, t8, t9, t10, t11, t12, t13, t14, t15, t16, t17, t18, t19, t20, t21, t22, t23, t24, t25, t26, t27, t28, t29, t30, t31, t32, t33, t34, t35, t36, t37, t38, t39, t40, t41, t42, t43], d⟩ [(29, v29), (30, v30), (31, v31), (32, v32), (33, v33), (34, v34), (35, v35), (36, v36), (37, v37), (38, v38), (39, v39), (40, v40), (41, v41), (42, v42)] = ⟨#[t0, t1, t2, t3, t4, t5, t6, t7, t8, t9, t10, t11, t12, t13, t14, t15, t16, t17, t18, t19, t20, t21, t22, t23, t24, t25, t26, t27, t28, v29, v30, v31, v32, v33, v34, v35, v36, v37, v38, v39, v40, v41, v42, t43], d⟩ := by
  kernel_rfl
end Go.Proofs.YtnjagokojdpgpabDoor
