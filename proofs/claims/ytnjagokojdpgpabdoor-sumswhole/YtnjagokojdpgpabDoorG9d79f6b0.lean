/- A number times a whole number, its sign turned, in whatever order the language takes. -/
import Derived.Test.YtnjagokojdpgpabDoorGb3d1a1c5
import Derived.Test.YtnjagokojdpgpabDoorG273d4c77
import Derived.Test.YtnjagokojdpgpabDoorG07328e7c
namespace Go.Proofs.YtnjagokojdpgpabDoor
open Go.RowKit
set_option linter.unusedVariables false
set_option linter.unusedSimpArgs false

section
variable {ρ : Operand → Value} {x : World} {d : Option Tmp} {ty : TypeId} {ps : String} {af : Array Edge} {gd : Option (Nat × Bool)}
theorem run_fa1 {j b : Nat} (h : ρ (.tmp j) = .pointer (some ⟨b, 0, none⟩)) : (execOp ρ { dst := d, op := .fieldAddr 38 (.tmp j) 1, type := ty, pos := ps, after := af, guard := gd }).run Tryd.prog x = .ok (.value (.pointer (some ⟨b, 1, none⟩))) x := by
  simp [execOp, h, go_sem]
theorem run_fa2 {j b : Nat} (h : ρ (.tmp j) = .pointer (some ⟨b, 0, none⟩)) : (execOp ρ { dst := d, op := .fieldAddr 38 (.tmp j) 2, type := ty, pos := ps, after := af, guard := gd }).run Tryd.prog x = .ok (.value (.pointer (some ⟨b, 2, none⟩))) x := by
  simp [execOp, h, go_sem]
theorem run_ldN {j : Nat} {p : Addr} {q : Option Addr} {L C : Nat} (h : ρ (.tmp j) = .pointer (some p)) (c : x.cell? p = some (.slice q L C)) : (execOp ρ { dst := d, op := .load 36 (.tmp j), type := ty, pos := ps, after := af, guard := gd }).run Tryd.prog x = .ok (.value (.slice q L C)) x := by
  simp [execOp, h, go_sem, c]
theorem run_ldb {j : Nat} {p : Addr} {v : Bool} (h : ρ (.tmp j) = .pointer (some p)) (c : x.cell? p = some (.bool v)) : (execOp ρ { dst := d, op := .load 4 (.tmp j), type := ty, pos := ps, after := af, guard := gd }).run Tryd.prog x = .ok (.value (.bool v)) x := by
  simp [execOp, h, go_sem, c]
theorem run_stN {j k : Nat} {p : Addr} {q : Option Addr} {L C : Nat} {u : Value} (h : ρ (.tmp j) = .pointer (some p)) (h' : ρ (.tmp k) = .slice q L C) (c : x.cell? p = some u) (f : x.frozen? p = false) : (execOp ρ { dst := none, op := .store 36 (.tmp j) (.tmp k), type := ty, pos := ps, after := af, guard := gd }).run Tryd.prog x = .ok .skip (x.setCell p (.slice q L C)) := by
  simp [execOp, h, h', go_sem, c, f]
theorem run_stb {j k : Nat} {p : Addr} {v : Bool} {u : Value} (h : ρ (.tmp j) = .pointer (some p)) (h' : ρ (.tmp k) = .bool v) (c : x.cell? p = some u) (f : x.frozen? p = false) : (execOp ρ { dst := none, op := .store 4 (.tmp j) (.tmp k), type := ty, pos := ps, after := af, guard := gd }).run Tryd.prog x = .ok .skip (x.setCell p (.bool v)) := by
  simp [execOp, h, h', go_sem, c, f]
theorem run_mvx {j : Nat} {v : Value} (h : ρ (.tmp j) = v) : (execOp ρ { dst := d, op := .move (.tmp j), type := ty, pos := ps, after := af, guard := gd }).run Tryd.prog x = .ok (.value v) x := by
  rw [← h]; rfl
theorem run_cvu {j n : Nat} (hn : n < 4294967296) (h : ρ (.tmp j) = .int .i64 (n : Nat)) : (execOp ρ { dst := d, op := .convert 3 23 (.tmp j), type := ty, pos := ps, after := af, guard := gd }).run Tryd.prog x = .ok (.value (.int .u32 (n : Nat))) x := by
  have e : IntKind.u32.wrap (n : Int) = (n : Int) := by rw [IntKind.wrap_u32']; omega
  simp [execOp, h, go_sem, e]
theorem run_neb {j k : Nat} {u v : Bool} (h : ρ (.tmp j) = .bool u) (h' : ρ (.tmp k) = .bool v) : (execOp ρ { dst := d, op := .binOp .neq 4 (.tmp j) (.tmp k) 4, type := ty, pos := ps, after := af, guard := gd }).run Tryd.prog x = .ok (.value (.bool (u != v))) x := by
  cases u <;> cases v <;> simp [execOp, h, h', go_sem]
end
def oWh_0 : Oper := { dst := some 134, op := .fieldAddr 38 (.tmp 21) 2, type := 0, pos := "outright.go:188", after := #[], guard := none }
def oWh_1 : Oper := { dst := some 135, op := .load 36 (.tmp 134), type := 36, pos := "outright.go:188", after := #[⟨0, .data⟩], guard := none }
def oWh_2 : Oper := { dst := some 136, op := .move (.tmp 13), type := 3, pos := "outright.go:188", after := #[], guard := none }
def oWh_3 : Oper := { dst := some 137, op := .convert 3 23 (.tmp 136), type := 23, pos := "outright.go:188", after := #[⟨2, .data⟩], guard := none }
def oWh_4 : Oper := { dst := some 138, op := .call { callee := .value (.func 30), args := #[.tmp 135, .tmp 137], argTypes := #[36, 23] }, type := 36, pos := "outright.go:188", after := #[⟨1, .data⟩, ⟨3, .data⟩], guard := none }
def oWh_5 : Oper := { dst := some 139, op := .fieldAddr 38 (.tmp 21) 1, type := 0, pos := "outright.go:188", after := #[], guard := none }
def oWh_6 : Oper := { dst := some 140, op := .load 4 (.tmp 139), type := 4, pos := "outright.go:188", after := #[⟨5, .data⟩], guard := none }
def oWh_7 : Oper := { dst := some 141, op := .move (.tmp 20), type := 4, pos := "outright.go:188", after := #[], guard := none }
def oWh_8 : Oper := { dst := some 142, op := .binOp .neq 4 (.tmp 140) (.tmp 141) 4, type := 4, pos := "outright.go:188", after := #[⟨6, .data⟩, ⟨7, .data⟩], guard := none }
def oWh_9 : Oper := { dst := some 143, op := .fieldAddr 38 (.tmp 21) 2, type := 0, pos := "outright.go:188", after := #[⟨0, .phase⟩, ⟨1, .phase⟩, ⟨2, .phase⟩, ⟨3, .phase⟩, ⟨4, .phase⟩, ⟨5, .phase⟩, ⟨6, .phase⟩, ⟨7, .textOnly .lateStores⟩, ⟨8, .textOnly .lateStoresUnsure⟩], guard := none }
def oWh_10 : Oper := { dst := none, op := .store 36 (.tmp 143) (.tmp 138), type := 0, pos := "outright.go:188", after := #[⟨9, .data⟩, ⟨4, .data⟩, ⟨4, .chain⟩, ⟨0, .phase⟩, ⟨1, .phase⟩, ⟨2, .phase⟩, ⟨3, .phase⟩, ⟨4, .phase⟩, ⟨5, .phase⟩, ⟨6, .phase⟩, ⟨7, .textOnly .lateStores⟩, ⟨8, .textOnly .lateStoresUnsure⟩], guard := none }
def oWh_11 : Oper := { dst := some 144, op := .fieldAddr 38 (.tmp 21) 1, type := 0, pos := "outright.go:188", after := #[⟨0, .phase⟩, ⟨1, .phase⟩, ⟨2, .phase⟩, ⟨3, .phase⟩, ⟨4, .phase⟩, ⟨5, .phase⟩, ⟨6, .phase⟩, ⟨7, .phase⟩, ⟨8, .phase⟩, ⟨9, .phase⟩, ⟨10, .phase⟩], guard := none }
def oWh_12 : Oper := { dst := none, op := .store 4 (.tmp 144) (.tmp 142), type := 0, pos := "outright.go:188", after := #[⟨11, .data⟩, ⟨8, .data⟩, ⟨10, .chain⟩, ⟨0, .phase⟩, ⟨1, .phase⟩, ⟨2, .phase⟩, ⟨3, .phase⟩, ⟨4, .phase⟩, ⟨5, .phase⟩, ⟨6, .phase⟩, ⟨7, .phase⟩, ⟨8, .phase⟩, ⟨9, .phase⟩, ⟨10, .phase⟩], guard := none }
def opsWh : List Oper := [oWh_0, oWh_1, oWh_2, oWh_3, oWh_4, oWh_5, oWh_6, oWh_7, oWh_8, oWh_9, oWh_10, oWh_11, oWh_12]
def vWh (b n : Nat) (pa : Option Addr) (La Ca : Nat) (sx ng : Bool) (k : Nat) : Value := match k with
  | 0 => .pointer (some ⟨b, 2, none⟩)
  | 1 => .slice pa La Ca
  | 2 => .int .i64 (n : Nat)
  | 3 => .int .u32 (n : Nat)
  | 5 => .pointer (some ⟨b, 1, none⟩)
  | 6 => .bool sx
  | 7 => .bool ng
  | 8 => .bool (sx != ng)
  | 9 => .pointer (some ⟨b, 2, none⟩)
  | 11 => .pointer (some ⟨b, 1, none⟩)
  | _ => undef
theorem upd_tr {f : Nat → Bool} {i j : Nat} (h : f j = true) : upd f i true j = true := by unfold upd; split <;> first | rfl | exact h
structure InvWh (wa : World) (b mg n : Nat) (pa : Option Addr) (La Ca : Nat) (sx ng : Bool) (e : Int) (done : Nat → Bool) (val : Nat → Value) (x : World) : Prop where
  vs : ∀ k, done k = true → k ≠ 4 → val k = vWh b n pa La Ca sx ng k
  v4 : done 4 = true → NatAt x (val 4) (mg * n)
  q : Q wa x
  c0 : x.cell? ⟨b, 0, none⟩ = some (.int .i64 2)
  c1 : x.cell? ⟨b, 1, none⟩ = some (.bool (if done 12 = true then (sx != ng) else sx))
  c2 : ∃ q L C, x.cell? ⟨b, 2, none⟩ = some (.slice q L C) ∧ (done 10 = false → .slice q L C = Value.slice pa La Ca) ∧ (done 10 = true → .slice q L C = val 4)
  c3 : x.cell? ⟨b, 3, none⟩ = some (.int .i64 e)
  c4 : x.cell? ⟨b, 4, none⟩ = some (.bool false)
  fz : ∀ k, x.frozen? ⟨b, k, none⟩ = false
  d10 : done 10 = true → done 1 = true ∧ done 4 = true
  d12 : done 12 = true → done 6 = true ∧ done 8 = true
theorem InvWh.vals {wa : World} {b mg n : Nat} {pa : Option Addr} {La Ca : Nat} {sx ng : Bool} {e : Int} {done : Nat → Bool} {val : Nat → Value} {x : World} (I : InvWh wa b mg n pa La Ca sx ng e done val x) (k : Nat) {v : Value} (hv : k ≠ 4 → v = vWh b n pa La Ca sx ng k) : ∀ j, upd done k true j = true → j ≠ 4 → upd val k v j = vWh b n pa La Ca sx ng j := by
  intro j hj h4
  by_cases e : j = k
  · subst e; rw [upd_eq]; exact hv h4
  · rw [upd_ne _ _ e] at hj ⊢; exact I.vs j hj h4
theorem InvWh.step {wa : World} {b mg n : Nat} {pa : Option Addr} {La Ca : Nat} {sx ng : Bool} {e : Int} {done : Nat → Bool} {val : Nat → Value} {x : World} (I : InvWh wa b mg n pa La Ca sx ng e done val x) {k : Nat} (h4 : k ≠ 4) (h10 : k ≠ 10) (h12 : k ≠ 12) {v : Value} (hv : v = vWh b n pa La Ca sx ng k) : InvWh wa b mg n pa La Ca sx ng e (upd done k true) (upd val k v) x := by
  obtain ⟨q, L, C, z1, z2, z3⟩ := I.c2
  exact ⟨I.vals k (fun _ => hv), fun h => by rw [upd_ne _ _ (Ne.symm h4)] at h ⊢; exact I.v4 h, I.q, I.c0, by rw [upd_ne _ _ (Ne.symm h12)]; exact I.c1,
    ⟨q, L, C, z1, fun h => by rw [upd_ne _ _ (Ne.symm h10)] at h; exact z2 h, fun h => by rw [upd_ne _ _ (Ne.symm h10)] at h; rw [upd_ne _ _ (Ne.symm h4)]; exact z3 h⟩, I.c3, I.c4, I.fz,
    fun h => by rw [upd_ne _ _ (Ne.symm h10)] at h; exact ⟨upd_tr (I.d10 h).1, upd_tr (I.d10 h).2⟩,
    fun h => by rw [upd_ne _ _ (Ne.symm h12)] at h; exact ⟨upd_tr (I.d12 h).1, upd_tr (I.d12 h).2⟩⟩
/-- A number in memory is none of a box's cells. -/
theorem nat_box {x : World} {v : Value} {m b j : Nat} {u0 u : Value} (h : NatAt x v m) (c : x.cell? ⟨b, j, none⟩ = some u0) (hu : ∀ z, u0 ≠ .int .u32 z) : NatAt (x.setCell ⟨b, j, none⟩ u) v m := by
  obtain ⟨p, k, L, C, e, hn⟩ := h
  refine ⟨p, k, L, C, e, hn.ptr, fun i hi => ?_, hn.hi, hn.lo, hn.len⟩
  rw [World.cell?_setCell_other _ _ _ _ (fun g => ?_)]
  · exact hn.cell i hi
  · have := hn.cell i hi
    rw [← g, c] at this
    exact hu _ (Option.some.inj this)
theorem dstWh : ∀ k, ∀ u ∈ dstOf opsWh k, u ∈ ([134, 135, 136, 137, 138, 139, 140, 141, 142, 143, 144] : List Nat) := by
  intro k u hu
  by_cases h : k < 13
  · have : ∀ k : Nat, k < 13 → ∀ u ∈ dstOf opsWh k, u ∈ ([134, 135, 136, 137, 138, 139, 140, 141, 142, 143, 144] : List Nat) := by decide +kernel
    exact this k h u hu
  · have : opsWh[k]? = none := List.getElem?_eq_none (by show 13 ≤ k; omega)
    unfold dstOf at hu
    rw [this] at hu
    cases hu
set_option maxHeartbeats 1000000 in
set_option maxRecDepth 100000 in
theorem hopWh {a0 : Act} {wa : World} {b mg n : Nat} {pa : Option Addr} {La Ca : Nat} {sx ng : Bool} {e : Int} {R : Exit → Act → World → Prop} (h13 : a0.tmps[13]? = some (.int .i64 (n : Nat))) (h20 : a0.tmps[20]? = some (.bool ng)) (h21 : a0.tmps[21]? = some (.pointer (some ⟨b, 0, none⟩))) (hn : n < 4294967296) (hb : wa.heap.size ≤ b) (hN : NatAt wa (.slice pa La Ca) mg) (hcap : mg < cap) :
    ∀ k o' (a : Act) x (done : Nat → Bool) (val : Nat → Value), opsWh[k]? = some o' → done k = false → (∀ e ∈ o'.after, Region.binds .any e = true → done e.on = true) → InvWh wa b mg n pa La Ca sx ng e done val x → (∀ j, (∀ k, dstOf opsWh k ≠ some j) → a.tmps[j]? = a0.tmps[j]?) → (∀ j t, done j = true → dstOf opsWh j = some t → a.tmps[t]? = some (val j)) → (∀ g b, o'.guard = some (g, b) → val g = .bool b) →
      Shut (o'.wp Tryd.prog a x (fun a' x' => ∃ v, a' = a.put o'.dst v ∧ InvWh wa b mg n pa La Ca sx ng e (upd done k true) (upd val k v) x') R) := by
  intro k o' a x done val ho hd dep I oth vals _
  have far : ∀ u, u ∉ ([134, 135, 136, 137, 138, 139, 140, 141, 142, 143, 144] : List Nat) → a.tmps[u]? = a0.tmps[u]? := fun u hu => oth u (fun k e => hu (dstWh k u e))
  have i13 := (far 13 (by decide)).trans h13
  have i20 := (far 20 (by decide)).trans h20
  have i21 := (far 21 (by decide)).trans h21
  rcases k with _ | _ | _ | _ | _ | _ | _ | _ | _ | _ | _ | _ | _ | k
  · have e1 : oWh_0 = o' := Option.some.inj ho
    subst e1
    have hrun : (execOp a.eval oWh_0).run Tryd.prog x = .ok (.value (vWh b n pa La Ca sx ng 0)) x := run_fa2 (tmp_eval i21)
    refine ⟨?_⟩
    unfold Oper.wp
    rw [hrun]
    exact ⟨_, rfl, I.step (by decide) (by decide) (by decide) rfl⟩
  · have e1 : oWh_1 = o' := Option.some.inj ho
    subst e1
    have d0 : done 0 = true := dep ⟨0, .data⟩ (by simp [oWh_1]) rfl
    have t0 := vals 0 134 d0 rfl
    rw [I.vs 0 d0 (by decide)] at t0
    have d10 : done 10 = false := by
      cases e : done 10
      · rfl
      · have := (I.d10 e).1; rw [hd] at this; cases this
    obtain ⟨q, L, C, z1, z2, _⟩ := I.c2
    rw [z2 d10] at z1
    have hrun : (execOp a.eval oWh_1).run Tryd.prog x = .ok (.value (vWh b n pa La Ca sx ng 1)) x := run_ldN (tmp_eval t0) z1
    refine ⟨?_⟩
    unfold Oper.wp
    rw [hrun]
    exact ⟨_, rfl, I.step (by decide) (by decide) (by decide) rfl⟩
  · have e1 : oWh_2 = o' := Option.some.inj ho
    subst e1
    have hrun : (execOp a.eval oWh_2).run Tryd.prog x = .ok (.value (vWh b n pa La Ca sx ng 2)) x := run_mvx (tmp_eval i13)
    refine ⟨?_⟩
    unfold Oper.wp
    rw [hrun]
    exact ⟨_, rfl, I.step (by decide) (by decide) (by decide) rfl⟩
  · have e1 : oWh_3 = o' := Option.some.inj ho
    subst e1
    have d2 : done 2 = true := dep ⟨2, .data⟩ (by simp [oWh_3]) rfl
    have t2 := vals 2 136 d2 rfl
    rw [I.vs 2 d2 (by decide)] at t2
    have hrun : (execOp a.eval oWh_3).run Tryd.prog x = .ok (.value (vWh b n pa La Ca sx ng 3)) x := run_cvu hn (tmp_eval t2)
    refine ⟨?_⟩
    unfold Oper.wp
    rw [hrun]
    exact ⟨_, rfl, I.step (by decide) (by decide) (by decide) rfl⟩
  · have e1 : oWh_4 = o' := Option.some.inj ho
    subst e1
    have d1 : done 1 = true := dep ⟨1, .data⟩ (by simp [oWh_4]) rfl
    have t1 := vals 1 135 d1 rfl
    rw [I.vs 1 d1 (by decide)] at t1
    have d3 : done 3 = true := dep ⟨3, .data⟩ (by simp [oWh_4]) rfl
    have t3 := vals 3 137 d3 rfl
    rw [I.vs 3 d3 (by decide)] at t3
    have hcall : Calls Tryd.prog 30 #[.slice pa La Ca, .int .u32 (n : Nat)] x fun e x' => ∃ u, e = .returned u ∧ Q x x' ∧ NatAt x' u (mg * n) := (times_any _ mg n x (I.q.nat hN) hn hcap).mono (fun e x' ⟨u, h1, h2, h3⟩ => ⟨u, h1, h3, h2⟩)
    have hy : Yld Tryd.prog R oWh_4 a x 138 (fun u x' => NatAt x' u (mg * n)) := yld_call (enters_of Tryd.func30 (by kernel_rfl) rfl) (args2 t1 t3) hcall
    refine ⟨?_⟩
    refine Oper.wp_mono ?_ hy.out
    rintro a' x' ⟨v, h1, h2, h3⟩
    refine ⟨v, h1, ?_⟩
    obtain ⟨q, L, C, z1, z2, z3⟩ := I.c2
    have n10 : done 10 = false := by
      cases e : done 10
      · rfl
      · have := (I.d10 e).2; rw [hd] at this; cases this
    exact ⟨I.vals 4 (fun h => absurd rfl h), fun _ => by rw [upd_eq]; exact h3, I.q.trans h2, h2.cell I.c0, by rw [upd_ne _ _ (by decide)]; exact h2.cell I.c1,
      ⟨q, L, C, h2.cell z1, fun h => z2 n10, (fun h => by rw [upd_ne _ _ (by decide), n10] at h; cases h)⟩, h2.cell I.c3, h2.cell I.c4, fun k => by rw [h2.2]; exact I.fz k,
      (fun h => by rw [upd_ne _ _ (by decide), n10] at h; cases h),
      fun h => by rw [upd_ne _ _ (by decide)] at h; exact ⟨upd_tr (I.d12 h).1, upd_tr (I.d12 h).2⟩⟩
  · have e1 : oWh_5 = o' := Option.some.inj ho
    subst e1
    have hrun : (execOp a.eval oWh_5).run Tryd.prog x = .ok (.value (vWh b n pa La Ca sx ng 5)) x := run_fa1 (tmp_eval i21)
    refine ⟨?_⟩
    unfold Oper.wp
    rw [hrun]
    exact ⟨_, rfl, I.step (by decide) (by decide) (by decide) rfl⟩
  · have e1 : oWh_6 = o' := Option.some.inj ho
    subst e1
    have d5 : done 5 = true := dep ⟨5, .data⟩ (by simp [oWh_6]) rfl
    have t5 := vals 5 139 d5 rfl
    rw [I.vs 5 d5 (by decide)] at t5
    have d12 : done 12 = false := by
      cases e : done 12
      · rfl
      · have := (I.d12 e).1; rw [hd] at this; cases this
    have z1 := I.c1
    rw [d12, if_neg (by decide)] at z1
    have hrun : (execOp a.eval oWh_6).run Tryd.prog x = .ok (.value (vWh b n pa La Ca sx ng 6)) x := run_ldb (tmp_eval t5) z1
    refine ⟨?_⟩
    unfold Oper.wp
    rw [hrun]
    exact ⟨_, rfl, I.step (by decide) (by decide) (by decide) rfl⟩
  · have e1 : oWh_7 = o' := Option.some.inj ho
    subst e1
    have hrun : (execOp a.eval oWh_7).run Tryd.prog x = .ok (.value (vWh b n pa La Ca sx ng 7)) x := run_mvx (tmp_eval i20)
    refine ⟨?_⟩
    unfold Oper.wp
    rw [hrun]
    exact ⟨_, rfl, I.step (by decide) (by decide) (by decide) rfl⟩
  · have e1 : oWh_8 = o' := Option.some.inj ho
    subst e1
    have d6 : done 6 = true := dep ⟨6, .data⟩ (by simp [oWh_8]) rfl
    have t6 := vals 6 140 d6 rfl
    rw [I.vs 6 d6 (by decide)] at t6
    have d7 : done 7 = true := dep ⟨7, .data⟩ (by simp [oWh_8]) rfl
    have t7 := vals 7 141 d7 rfl
    rw [I.vs 7 d7 (by decide)] at t7
    have hrun : (execOp a.eval oWh_8).run Tryd.prog x = .ok (.value (vWh b n pa La Ca sx ng 8)) x := run_neb (tmp_eval t6) (tmp_eval t7)
    refine ⟨?_⟩
    unfold Oper.wp
    rw [hrun]
    exact ⟨_, rfl, I.step (by decide) (by decide) (by decide) rfl⟩
  · have e1 : oWh_9 = o' := Option.some.inj ho
    subst e1
    have hrun : (execOp a.eval oWh_9).run Tryd.prog x = .ok (.value (vWh b n pa La Ca sx ng 9)) x := run_fa2 (tmp_eval i21)
    refine ⟨?_⟩
    unfold Oper.wp
    rw [hrun]
    exact ⟨_, rfl, I.step (by decide) (by decide) (by decide) rfl⟩
  · have e1 : oWh_10 = o' := Option.some.inj ho
    subst e1
    have d9 : done 9 = true := dep ⟨9, .data⟩ (by simp [oWh_10]) rfl
    have t9 := vals 9 143 d9 rfl
    rw [I.vs 9 d9 (by decide)] at t9
    have d4 : done 4 = true := dep ⟨4, .data⟩ (by simp [oWh_10]) rfl
    have t4 := vals 4 138 d4 rfl
    have d1 : done 1 = true := dep ⟨1, .phase⟩ (by simp [oWh_10]) rfl
    obtain ⟨q, L, C, z1, z2, _⟩ := I.c2
    have hv4 := I.v4 d4
    obtain ⟨p4, k4, L4, C4, e4, _⟩ := hv4
    rw [e4] at t4
    have hrun : (execOp a.eval oWh_10).run Tryd.prog x = .ok .skip (x.setCell ⟨b, 2, none⟩ (.slice p4 L4 C4)) := run_stN (tmp_eval t9) (tmp_eval t4) z1 (I.fz _)
    refine ⟨?_⟩
    unfold Oper.wp
    rw [hrun]
    refine ⟨undef, rfl, ?_⟩
    have oth : ∀ j, j ≠ 2 → (x.setCell ⟨b, 2, none⟩ (.slice p4 L4 C4)).cell? ⟨b, j, none⟩ = x.cell? ⟨b, j, none⟩ := fun j hj => World.cell?_setCell_other _ _ _ _ (fun h => by injection h with _ h; omega)
    exact ⟨I.vals 10 (fun _ => rfl), fun _ => by rw [upd_ne _ _ (by decide)]; exact nat_box (I.v4 d4) z1 (fun z h => (by cases h)), I.q.set hb _, (oth 0 (by decide)).trans I.c0, by rw [upd_ne _ _ (by decide)]; exact (oth 1 (by decide)).trans I.c1,
      ⟨p4, L4, C4, World.cell?_setCell_same _ _ _ z1, (fun h => by rw [upd_eq] at h; cases h), fun _ => by rw [upd_ne _ _ (by decide)]; exact e4.symm⟩, (oth 3 (by decide)).trans I.c3, (oth 4 (by decide)).trans I.c4, fun k => by rw [World.frozen?_setCell]; exact I.fz k,
      fun _ => ⟨upd_tr d1, upd_tr d4⟩, fun h => by rw [upd_ne _ _ (by decide)] at h; exact ⟨upd_tr (I.d12 h).1, upd_tr (I.d12 h).2⟩⟩
  · have e1 : oWh_11 = o' := Option.some.inj ho
    subst e1
    have hrun : (execOp a.eval oWh_11).run Tryd.prog x = .ok (.value (vWh b n pa La Ca sx ng 11)) x := run_fa1 (tmp_eval i21)
    refine ⟨?_⟩
    unfold Oper.wp
    rw [hrun]
    exact ⟨_, rfl, I.step (by decide) (by decide) (by decide) rfl⟩
  · have e1 : oWh_12 = o' := Option.some.inj ho
    subst e1
    have d11 : done 11 = true := dep ⟨11, .data⟩ (by simp [oWh_12]) rfl
    have t11 := vals 11 144 d11 rfl
    rw [I.vs 11 d11 (by decide)] at t11
    have d8 : done 8 = true := dep ⟨8, .data⟩ (by simp [oWh_12]) rfl
    have t8 := vals 8 142 d8 rfl
    rw [I.vs 8 d8 (by decide)] at t8
    have d6 : done 6 = true := dep ⟨6, .phase⟩ (by simp [oWh_12]) rfl
    have z1 := I.c1
    have hrun : (execOp a.eval oWh_12).run Tryd.prog x = .ok .skip (x.setCell ⟨b, 1, none⟩ (.bool (sx != ng))) := run_stb (tmp_eval t11) (tmp_eval t8) z1 (I.fz _)
    refine ⟨?_⟩
    unfold Oper.wp
    rw [hrun]
    refine ⟨undef, rfl, ?_⟩
    have oth : ∀ j, j ≠ 1 → (x.setCell ⟨b, 1, none⟩ (.bool (sx != ng))).cell? ⟨b, j, none⟩ = x.cell? ⟨b, j, none⟩ := fun j hj => World.cell?_setCell_other _ _ _ _ (fun h => by injection h with _ h; omega)
    obtain ⟨q, L, C, y1, y2, y3⟩ := I.c2
    exact ⟨I.vals 12 (fun _ => rfl), fun h => by rw [upd_ne _ _ (by decide)] at h ⊢; exact nat_box (I.v4 h) z1 (fun z h => (by cases h)), I.q.set hb _, (oth 0 (by decide)).trans I.c0, by rw [upd_eq, if_pos rfl]; exact World.cell?_setCell_same _ _ _ z1,
      ⟨q, L, C, (oth 2 (by decide)).trans y1, fun h => by rw [upd_ne _ _ (by decide)] at h; exact y2 h, fun h => by rw [upd_ne _ _ (by decide)] at h ⊢; exact y3 h⟩, (oth 3 (by decide)).trans I.c3, (oth 4 (by decide)).trans I.c4, fun k => by rw [World.frozen?_setCell]; exact I.fz k,
      fun h => by rw [upd_ne _ _ (by decide)] at h; exact ⟨upd_tr (I.d10 h).1, upd_tr (I.d10 h).2⟩, fun _ => ⟨upd_tr d6, upd_tr d8⟩⟩
  · cases ho
set_option maxHeartbeats 1000000 in
theorem regionWh {id : Nat} {l : List Oper} {R : Exit → Act → World → Prop} {a0 : Act} {w : World} {wa : World} {b mg n : Nat} {pa : Option Addr} {La Ca : Nat} {sx ng : Bool} {e : Int} (hl : l = opsWh) (hsz : a0.tmps.size = 165) (h13 : a0.tmps[13]? = some (.int .i64 (n : Nat))) (h20 : a0.tmps[20]? = some (.bool ng)) (h21 : a0.tmps[21]? = some (.pointer (some ⟨b, 0, none⟩))) (hn : n < 4294967296) (hb : wa.heap.size ≤ b) (hN : NatAt wa (.slice pa La Ca) mg) (hcap : mg < cap) (hq : Q wa w)
    (c0 : w.cell? ⟨b, 0, none⟩ = some (.int .i64 2)) (c1 : w.cell? ⟨b, 1, none⟩ = some (.bool sx)) (c2 : w.cell? ⟨b, 2, none⟩ = some (.slice pa La Ca)) (c3 : w.cell? ⟨b, 3, none⟩ = some (.int .i64 e)) (c4 : w.cell? ⟨b, 4, none⟩ = some (.bool false)) (fz : ∀ k, w.frozen? ⟨b, k, none⟩ = false)
    (hR : ∀ x p4 L4 C4, Q wa x → NatAt x (.slice p4 L4 C4) (mg * n) → x.cell? ⟨b, 0, none⟩ = some (.int .i64 2) → x.cell? ⟨b, 1, none⟩ = some (.bool (sx != ng)) → x.cell? ⟨b, 2, none⟩ = some (.slice p4 L4 C4) → x.cell? ⟨b, 3, none⟩ = some (.int .i64 e) → x.cell? ⟨b, 4, none⟩ = some (.bool false) → R .normal (putAll a0 [(134, .pointer (some ⟨b, 2, none⟩)), (135, .slice pa La Ca), (136, .int .i64 (n : Nat)), (137, .int .u32 (n : Nat)), (138, .slice p4 L4 C4), (139, .pointer (some ⟨b, 1, none⟩)), (140, .bool sx), (141, .bool ng), (142, .bool (sx != ng)), (143, .pointer (some ⟨b, 2, none⟩)), (144, .pointer (some ⟨b, 1, none⟩))]) x) :
    (Code.region id l.toArray true).wp Tryd.prog R a0 w := by
  subst hl
  refine wp_region_slots (InvWh wa b mg n pa La Ca sx ng e) (by kernel_rfl) (by decide +kernel) ?_ ⟨(fun k h => by cases h), (fun h => by cases h), hq.drew, c0, c1, ⟨pa, La, Ca, c2, fun _ => rfl, (fun h => by cases h)⟩, c3, c4, fz, (fun h => by cases h), (fun h => by cases h)⟩ (hopWh h13 h20 h21 hn hb hN hcap) ?_ ?_
  · intro k u hk
    rw [hsz]
    have := dstWh k u hk
    clear hk
    revert u
    decide
  · intro k o' x done val g' b' ho _ _ _ hg _
    have key : ∀ k : Nat, k < 13 → ((opsWh[k]?).bind fun o : Oper => o.guard) = none := by decide +kernel
    have := key k (List.getElem?_eq_some_iff.1 ho).1
    rw [ho] at this
    have : o'.guard = none := this
    rw [this] at hg
    cases hg
  · intro a x val I size defers other facts
    have hv : ∀ k, k < 13 → k ≠ 4 → val k = vWh b n pa La Ca sx ng k := fun k hk h4 => I.vs k (decide_eq_true hk) h4
    have h4 := I.v4 (by decide)
    have h4' := h4
    obtain ⟨p4, k4, L4, C4, e4, _⟩ := h4'
    obtain ⟨q, L, C, y1, _, y3⟩ := I.c2
    have y3 := y3 (by decide)
    rw [y3, e4] at y1
    rw [e4] at h4
    have z1 : x.cell? ⟨b, 1, none⟩ = some (.bool (sx != ng)) := I.c1
    have hA := act_puts (a := a) (a0 := a0) [(134, .pointer (some ⟨b, 2, none⟩)), (135, .slice pa La Ca), (136, .int .i64 (n : Nat)), (137, .int .u32 (n : Nat)), (138, .slice p4 L4 C4), (139, .pointer (some ⟨b, 1, none⟩)), (140, .bool sx), (141, .bool ng), (142, .bool (sx != ng)), (143, .pointer (some ⟨b, 2, none⟩)), (144, .pointer (some ⟨b, 1, none⟩))] (show ([134, 135, 136, 137, 138, 139, 140, 141, 142, 143, 144] : List Nat).Nodup by decide) size defers (fun u hu => other u (fun k e => hu (dstWh k u e))) (fun r hr => ?_)
    · refine ⟨?_⟩
      rw [hA]
      exact hR x p4 L4 C4 I.q h4 I.c0 z1 y1 I.c3 I.c4
    · simp only [List.mem_cons, List.not_mem_nil, or_false] at hr
      rcases hr with rfl | rfl | rfl | rfl | rfl | rfl | rfl | rfl | rfl | rfl | rfl
      · exact (facts 0 134 rfl).trans (congrArg some (hv 0 (by decide) (by decide)))
      · exact (facts 1 135 rfl).trans (congrArg some (hv 1 (by decide) (by decide)))
      · exact (facts 2 136 rfl).trans (congrArg some (hv 2 (by decide) (by decide)))
      · exact (facts 3 137 rfl).trans (congrArg some (hv 3 (by decide) (by decide)))
      · exact (facts 4 138 rfl).trans (congrArg some e4)
      · exact (facts 5 139 rfl).trans (congrArg some (hv 5 (by decide) (by decide)))
      · exact (facts 6 140 rfl).trans (congrArg some (hv 6 (by decide) (by decide)))
      · exact (facts 7 141 rfl).trans (congrArg some (hv 7 (by decide) (by decide)))
      · exact (facts 8 142 rfl).trans (congrArg some (hv 8 (by decide) (by decide)))
      · exact (facts 9 143 rfl).trans (congrArg some (hv 9 (by decide) (by decide)))
      · exact (facts 11 144 rfl).trans (congrArg some (hv 11 (by decide) (by decide)))
set_option maxRecDepth 100000 in
theorem normWh {t0 t1 t2 t3 t4 t5 t6 t7 t8 t9 t10 t11 t12 t13 t14 t15 t16 t17 t18 t19 t20 t21 t22 t23 t24 t25 t26 t27 t28 t29 t30 t31 t32 t33 t34 t35 t36 t37 t38 t39 t40 t41 t42 t43 t44 t45 t46 t47 t48 t49 t50 t51 t52 t53 t54 t55 t56 t57 t58 t59 t60 t61 t62 t63 t64 t65 t66 t67 t68 t69 t70 t71 t72 t73 t74 t75 t76 t77 t78 t79 t80 t81 t82 t83 t84 t85 t86 t87 t88 t89 t90 t91 t92 t93 t94 t95 t96 t97 t98 t99 t100 t101 t102 t103 t104 t105 t106 t107 t108 t109 t110 t111 t112 t113 t114 t115 t116 t117 t118 t119 t120 t121 t122 t123 t124 t125 t126 t127 t128 t129 t130 t131 t132 t133 t134 t135 t136 t137 t138 t139 t140 t141 t142 t143 t144 t145 t146 t147 t148 t149 t150 t151 t152 t153 t154 t155 t156 t157 t158 t159 t160 t161 t162 t163 t164 v134 v135 v136 v137 v138 v139 v140 v141 v142 v143 v144 : Value} {d : List Deferred} : putAll ⟨#[t0, t1, t2, t3, t4, t5, t6, t7, t8, t9, t10, t11, t12, t13, t14, t15, t16, t17, t18, t19, t20, t21, t22, t23, t24, t25, t26, t27, t28, t29, t30, t31, t32, t33, t34, t35, t36, t37, t38, t39, t40, t41, t42, t43, t44, t45, t46, t47, t48, t49, t50, t51, t52, t53, t54, t55, t56, t57, t58, t59, t60, t61, t62, t63, t64, t65, t66, t67, t68, t69, t70, t71, t72, t73, t74, t75, t76, t77, t78, t79, t80, t81, t82, t83, t84, t85, t86, t87, t88, t89, t90, t91, t92, t93, t94, t95, t96, t97, t98, t99, t100, t101, t102, t103, t104, t105, t106, t107, t108, t109, t110, t111, t112, t113, t114, t115, t116, t117, t118, t119, t120, t121, t122, t123, t124, t125, t126, t127, t128, t129, t130, t131, t132, t133, t134, t135, t136, t137, t138, t139, t140, t141, t142, t143, t144, t145, t146, t147, t148, t149, t150, t151, t152, t153, t154, t155, t156, t157, t158, t159, t160, t161, t162, t163, t164], d⟩ [(134, v134), (135, v135), (136, v136), (137, v137), (138, v138), (139, v139), (140, v140), (141, v141), (142, v142), (143, v143), (144, v144)] = ⟨#[t0, t1, t2, t3, t4, t5, t6, t7, t8, t9, t10, t11, t12, t13, t14, t15, t16, t17, t18, t19, t20, t21, t22, t23, t24, t25, t26, t27, t28, t29, t30, t31, t32, t33, t34, t35, t36, t37, t38, t39, t40, t41, t42, t43, t44, t45, t46, t47, t48, t49, t50, t51, t52, t53, t54, t55, t56, t57, t58, t59, t60, t61, t62, t63, t64, t65, t66, t67, t68, t69, t70, t71, t72, t73, t74, t75, t76, t77, t78, t79, t80, t81, t82, t83, t84, t85, t86, t87, t88, t89, t90, t91, t92, t93, t94, t95, t96, t97, t98, t99, t100, t101, t102, t103, t104, t105, t106, t107, t108, t109, t110, t111, t112, t113, t114, t115, t116, t117, t118, t119, t120, t121, t122, t123, t124, t125, t126, t127, t128, t129, t130, t131, t132, t133, v134, v135, v136, v137, v138, v139, v140, v141, v142, v143, v144, t145, t146, t147, t148, t149, t150, t151, t152, t153, t154, t155, t156, t157, t158, t159, t160, t161, t162, t163, t164], d⟩ := by
  kernel_rfl
end Go.Proofs.YtnjagokojdpgpabDoor
