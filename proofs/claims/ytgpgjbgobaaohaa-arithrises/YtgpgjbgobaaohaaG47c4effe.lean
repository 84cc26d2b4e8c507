/- Numbers that lie in boxes: what loads and stores of them do. -/
import Derived.Test.YtgpgjbgobaaohaaG5bc75003
import Derived.Test.YtgpgjbgobaaohaaGc5c93131
import Derived.Test.YtgpgjbgobaaohaaGcaa5bdc2
namespace Go.Proofs.Ytgpgjbgobaaohaa
open Go.RowKit
set_option linter.unusedVariables false
set_option linter.unusedSimpArgs false

/-- The form of binary64. -/
def formV : Value := .agg #[.int .i64 52, .int .i64 11]
/-- Where that form lies. -/
structure FBox (w : World) (V : Nat) : Prop where
  c0 : w.cell? ⟨V, 0, none⟩ = some (.int .i64 52)
  c1 : w.cell? ⟨V, 1, none⟩ = some (.int .i64 11)
theorem FBox.next {w w' : World} {V : Nat} (h : FBox w V) (q : Q w w') : FBox w' V := ⟨q.cell h.c0, q.cell h.c1⟩
/-- A box of five cells. -/
structure Box5 (w : World) (V : Nat) (k : Int) (s : Bool) (p : Option Addr) (L C : Nat) (e : Int) (m : Bool) : Prop where
  c0 : w.cell? ⟨V, 0, none⟩ = some (.int .i64 k)
  c1 : w.cell? ⟨V, 1, none⟩ = some (.bool s)
  c2 : w.cell? ⟨V, 2, none⟩ = some (.slice p L C)
  c3 : w.cell? ⟨V, 3, none⟩ = some (.int .i64 e)
  c4 : w.cell? ⟨V, 4, none⟩ = some (.bool m)
theorem Box5.next {w w' : World} {V : Nat} {k : Int} {s : Bool} {p : Option Addr} {L C : Nat} {e : Int} {m : Bool} (h : Box5 w V k s p L C e m) (q : Q w w') : Box5 w' V k s p L C e m := ⟨q.cell h.c0, q.cell h.c1, q.cell h.c2, q.cell h.c3, q.cell h.c4⟩
def num5 (k : Int) (s : Bool) (p : Option Addr) (L C : Nat) (e : Int) (m : Bool) : Value := .agg #[.int .i64 k, .bool s, .slice p L C, .int .i64 e, .bool m]
/-- A number that lies in a box. -/
def NBox (w : World) (V : Nat) (X : RNum) : Prop := ∃ k s p L C e m, Box5 w V k s p L C e m ∧ NumAt w (num5 k s p L C e m) X
theorem NBox.next {w w' : World} {V : Nat} {X : RNum} (h : NBox w V X) (q : Q w w') : NBox w' V X := by
  obtain ⟨k, s, p, L, C, e, m, h1, h2⟩ := h
  exact ⟨k, s, p, L, C, e, m, h1.next q, q.num h2⟩
theorem run_form {ρ : Operand → Value} {x : World} {d : Option Tmp} {ty : TypeId} {ps : String} {af : Array Edge} {g : Option (Nat × Bool)} {j V : Nat} (h : ρ (.tmp j) = ptrV V) (b : FBox x V) : (execOp ρ { dst := d, op := .load 26 (.tmp j), type := ty, pos := ps, after := af, guard := g }).run Try.prog x = .ok (.value formV) x := by
  have c0 := b.c0
  have c1 := b.c1
  simp [execOp, h, go_sem, c0, c1, ptrV, formV]
theorem run_num {ρ : Operand → Value} {x : World} {d : Option Tmp} {ty : TypeId} {ps : String} {af : Array Edge} {g : Option (Nat × Bool)} {j V : Nat} {k : Int} {s : Bool} {p : Option Addr} {L C : Nat} {e : Int} {m : Bool} (h : ρ (.tmp j) = ptrV V) (b : Box5 x V k s p L C e m) : (execOp ρ { dst := d, op := .load 31 (.tmp j), type := ty, pos := ps, after := af, guard := g }).run Try.prog x = .ok (.value (num5 k s p L C e m)) x := by
  obtain ⟨c0, c1, c2, c3, c4⟩ := b
  simp [execOp, h, go_sem, c0, c1, c2, c3, c4, ptrV, num5]
theorem run_eql {ρ : Operand → Value} {x : World} {d : Option Tmp} {ty : TypeId} {ps : String} {af : Array Edge} {g : Option (Nat × Bool)} {j k : Nat} {n : Int} (h : ρ (.tmp j) = .int .u32 n) (h' : ρ (.tmp k) = .int .u32 n) : (execOp ρ { dst := d, op := .binOp .eql 22 (.tmp j) (.tmp k) 22, type := ty, pos := ps, after := af, guard := g }).run Try.prog x = .ok (.value (.bool true)) x := by
  simp [execOp, h, h', go_sem]
def zeroNum : Obj := .cells #[.int .i64 0, .bool false, .slice none 0 0, .int .i64 0, .bool false] 31
theorem run_newnum {ρ : Operand → Value} {x : World} {d : Option Tmp} {ty : TypeId} {ps : String} {af : Array Edge} {g : Option (Nat × Bool)} : (execOp ρ { dst := d, op := .alloc 31, type := ty, pos := ps, after := af, guard := g }).run Try.prog x = .ok (.value (ptrV x.heap.size)) (x.alloc zeroNum) := by
  simp [execOp, go_sem, zeroNum, ptrV]
/-- Laying a number into a box. -/
theorem store_num {a : Act} {x : World} {V b c : Nat} {k : Int} {s : Bool} {p : Option Addr} {L C : Nat} {e : Int} {m : Bool} {k0 : Int} {s0 : Bool} {p0 : Option Addr} {L0 C0 : Nat} {e0 : Int} {m0 : Bool} (hb : a.tmps[b]? = some (ptrV V)) (hc : a.tmps[c]? = some (num5 k s p L C e m)) (bx : Box5 x V k0 s0 p0 L0 C0 e0 m0) (hf : ∀ j, x.frozen? ⟨V, j, none⟩ = false)
    {ps : String} {af : Array Edge} {K : Act → World → Prop} {R : Exit → Act → World → Prop} (h : ∀ x', Q x x' ∨ True → x' = (((((x.setCell ⟨V, 0, none⟩ (.int .i64 k)).setCell ⟨V, 1, none⟩ (.bool s)).setCell ⟨V, 2, none⟩ (.slice p L C)).setCell ⟨V, 3, none⟩ (.int .i64 e)).setCell ⟨V, 4, none⟩ (.bool m)) → K a x') :
    Oper.wp Try.prog { dst := none, op := .store 31 (.tmp b) (.tmp c), type := 0, pos := ps, after := af, guard := none } a x K R := by
  obtain ⟨c0, c1, c2, c3, c4⟩ := bx
  unfold ptrV at hb
  unfold num5 at hc
  have hrun : (execOp a.eval { dst := none, op := .store 31 (.tmp b) (.tmp c), type := 0, pos := ps, after := af, guard := none }).run Try.prog x = .ok .skip (((((x.setCell ⟨V, 0, none⟩ (.int .i64 k)).setCell ⟨V, 1, none⟩ (.bool s)).setCell ⟨V, 2, none⟩ (.slice p L C)).setCell ⟨V, 3, none⟩ (.int .i64 e)).setCell ⟨V, 4, none⟩ (.bool m)) := by
    simp [execOp, hb, hc, go_sem, c0, c1, c2, c3, c4, hf]
  unfold Oper.wp
  rw [hrun, Oper.upon_skip]
  exact h _ (Or.inr trivial) rfl
theorem box_other {x : World} {V b : Nat} (h : b ≠ V) {j j' : Nat} {v : Value} : (x.setCell ⟨V, j, none⟩ v).cell? ⟨b, j', none⟩ = x.cell? ⟨b, j', none⟩ := World.cell?_setCell_other _ _ _ _ (by simp [h])
end Go.Proofs.Ytgpgjbgobaaohaa
/- Two numbers are copied into two new boxes, in whatever order. -/
namespace Go.Proofs.Ytgpgjbgobaaohaa
open Go.RowKit
set_option linter.unusedVariables false
set_option linter.unusedSimpArgs false

/-- A number's five parts. -/
structure N5 where
  k : Int
  s : Bool
  p : Option Addr
  L : Nat
  C : Nat
  e : Int
  m : Bool
def N5.v (n : N5) : Value := num5 n.k n.s n.p n.L n.C n.e n.m
def N5.at (n : N5) (w : World) (V : Nat) : Prop := Box5 w V n.k n.s n.p n.L n.C n.e n.m
def N5.zero : N5 := ⟨0, false, none, 0, 0, 0, false⟩
theorem N5.at.next {n : N5} {w w' : World} {V : Nat} (h : n.at w V) (q : Q w w') : n.at w' V := Box5.next h q
/-- A new box: all zero, or the number laid into it. -/
def NewB (lo : Nat) (x : World) (v : Value) (stored : Bool) (A : N5) : Prop := ∃ V, v = ptrV V ∧ lo ≤ V ∧ V < x.heap.size ∧ (∀ j, x.frozen? ⟨V, j, none⟩ = false) ∧ (if stored = true then A else N5.zero).at x V
theorem NewB.next {lo : Nat} {x x' : World} {v : Value} {st : Bool} {A : N5} (h : NewB lo x v st A) (q : Q x x') : NewB lo x' v st A := by
  obtain ⟨V, h1, h2, h3, h4, h5⟩ := h
  exact ⟨V, h1, h2, Nat.lt_of_lt_of_le h3 q.1.size, fun j => (q.2 _).trans (h4 j), h5.next q⟩
structure Inv13 (w : World) (A B : N5) (done : Nat → Bool) (val : Nat → Value) (x : World) : Prop where
  q : Q w x
  v0 : done 0 = true → val 0 = A.v
  v1 : done 1 = true → val 1 = B.v
  b2 : done 2 = true → NewB w.heap.size x (val 2) (done 4) A
  b3 : done 3 = true → NewB w.heap.size x (val 3) (done 5) B
  ap : done 2 = true → done 3 = true → val 2 ≠ val 3
  d4 : done 4 = true → done 0 = true ∧ done 2 = true ∧ done 3 = true
  d5 : done 5 = true → done 1 = true ∧ done 2 = true ∧ done 3 = true ∧ done 4 = true
section
variable {w x : World} {A B : N5} {done : Nat → Bool} {val : Nat → Value}
theorem Inv13.s0 (I : Inv13 w A B done val x) : Inv13 w A B (upd done 0 true) (upd val 0 A.v) x :=
  ⟨I.q, fun _ => upd_eq _ _ _, by simpa [upd] using I.v1, by simpa [upd] using I.b2, by simpa [upd] using I.b3, by simpa [upd] using I.ap, fun h => by have := I.d4 (by simpa [upd] using h); simp [upd, this], fun h => by have := I.d5 (by simpa [upd] using h); simp [upd, this]⟩
theorem Inv13.s1 (I : Inv13 w A B done val x) : Inv13 w A B (upd done 1 true) (upd val 1 B.v) x :=
  ⟨I.q, by simpa [upd] using I.v0, fun _ => upd_eq _ _ _, by simpa [upd] using I.b2, by simpa [upd] using I.b3, by simpa [upd] using I.ap, fun h => by have := I.d4 (by simpa [upd] using h); simp [upd, this], fun h => by have := I.d5 (by simpa [upd] using h); simp [upd, this]⟩
theorem new_zero (x : World) {lo : Nat} (h : lo ≤ x.heap.size) (A : N5) : NewB lo (x.alloc zeroNum) (ptrV x.heap.size) false A :=
  ⟨x.heap.size, rfl, h, by simp, fun j => by unfold zeroNum; simp [go_sem], by unfold zeroNum; exact ⟨by simp [go_sem, N5.zero], by simp [go_sem, N5.zero], by simp [go_sem, N5.zero], by simp [go_sem, N5.zero], by simp [go_sem, N5.zero]⟩⟩
theorem NewB.ne {lo : Nat} {v : Value} {st : Bool} {A : N5} (h : NewB lo x v st A) : v ≠ ptrV x.heap.size := by
  obtain ⟨V, h1, _, h3, _⟩ := h
  rw [h1]
  intro e
  have := ptrV_inj e
  omega
theorem Inv13.s2 (I : Inv13 w A B done val x) (h2 : done 2 = false) : Inv13 w A B (upd done 2 true) (upd val 2 (ptrV x.heap.size)) (x.alloc zeroNum) := by
  have qa : Q x (x.alloc zeroNum) := (Q.refl x).cells _ _
  have h4 : done 4 = false := by
    cases h : done 4
    · rfl
    · have := (I.d4 h).2.1; rw [h2] at this; cases this
  have h5 : done 5 = false := by
    cases h : done 5
    · rfl
    · have := (I.d5 h).2.1; rw [h2] at this; cases this
  refine ⟨I.q.trans qa, by simpa [upd] using I.v0, by simpa [upd] using I.v1, fun _ => ?_, ?_, ?_, fun h => ?_, fun h => ?_⟩
  · simp only [upd, h4, if_true]
    exact new_zero x I.q.1.size A
  · simp only [upd]
    intro h
    exact (I.b3 (by simpa using h)).next qa
  · intro _ h e
    simp [upd] at h e
    exact (I.b3 h).ne e.symm
  · simp [upd, h4] at h
  · simp [upd, h5] at h
theorem Inv13.s3 (I : Inv13 w A B done val x) (h3 : done 3 = false) : Inv13 w A B (upd done 3 true) (upd val 3 (ptrV x.heap.size)) (x.alloc zeroNum) := by
  have qa : Q x (x.alloc zeroNum) := (Q.refl x).cells _ _
  have h4 : done 4 = false := by
    cases h : done 4
    · rfl
    · have := (I.d4 h).2.2; rw [h3] at this; cases this
  have h5 : done 5 = false := by
    cases h : done 5
    · rfl
    · have := (I.d5 h).2.2.1; rw [h3] at this; cases this
  refine ⟨I.q.trans qa, by simpa [upd] using I.v0, by simpa [upd] using I.v1, ?_, fun _ => ?_, ?_, fun h => ?_, fun h => ?_⟩
  · simp only [upd]
    intro h
    exact (I.b2 (by simpa using h)).next qa
  · simp only [upd, h5, if_true]
    exact new_zero x I.q.1.size B
  · intro h _ e
    simp [upd] at h e
    exact (I.b2 h).ne e
  · simp [upd, h4] at h
  · simp [upd, h5] at h
/-- Behind a store into one of the boxes. -/
theorem NewB.fill {lo : Nat} {v : Value} {st : Bool} {A : N5} {V : Nat} (hv : v = ptrV V) (hlo : lo ≤ V) (hsz : V < x.heap.size) (hf : ∀ j, x.frozen? ⟨V, j, none⟩ = false) {n : N5} (hn : n.at x V) :
    NewB lo (((((x.setCell ⟨V, 0, none⟩ (.int .i64 A.k)).setCell ⟨V, 1, none⟩ (.bool A.s)).setCell ⟨V, 2, none⟩ (.slice A.p A.L A.C)).setCell ⟨V, 3, none⟩ (.int .i64 A.e)).setCell ⟨V, 4, none⟩ (.bool A.m)) v true A := by
  obtain ⟨c0, c1, c2, c3, c4⟩ := hn
  refine ⟨V, hv, hlo, by simp; exact hsz, fun j => by simp only [World.frozen?_setCell]; exact hf j, ?_⟩
  exact ⟨by simp [go_sem, c0, c1, c2, c3, c4], by simp [go_sem, c0, c1, c2, c3, c4], by simp [go_sem, c0, c1, c2, c3, c4], by simp [go_sem, c0, c1, c2, c3, c4], by simp [go_sem, c0, c1, c2, c3, c4]⟩
theorem NewB.beside {lo : Nat} {v : Value} {st : Bool} {A : N5} {V : Nat} (h : NewB lo x v st A) (hv : v ≠ ptrV V) {a0 a1 a2 a3 a4 : Value} :
    NewB lo (((((x.setCell ⟨V, 0, none⟩ a0).setCell ⟨V, 1, none⟩ a1).setCell ⟨V, 2, none⟩ a2).setCell ⟨V, 3, none⟩ a3).setCell ⟨V, 4, none⟩ a4) v st A := by
  obtain ⟨U, h1, h2, h3, h4, ⟨c0, c1, c2, c3, c4⟩⟩ := h
  have hne : U ≠ V := fun e => hv (by rw [h1, e])
  refine ⟨U, h1, h2, by simp; exact h3, fun j => by simp only [World.frozen?_setCell]; exact h4 j, ?_⟩
  exact ⟨by simp only [box_other hne]; exact c0, by simp only [box_other hne]; exact c1, by simp only [box_other hne]; exact c2, by simp only [box_other hne]; exact c3, by simp only [box_other hne]; exact c4⟩
end
def o13_0 : Oper := { dst := some 76, op := .load 31 (.tmp 7), type := 31, pos := "outright.go:149", after := #[], guard := none }
def o13_1 : Oper := { dst := some 77, op := .load 31 (.tmp 8), type := 31, pos := "outright.go:149", after := #[⟨4, .gcOnly .lateStores⟩], guard := none }
def o13_2 : Oper := { dst := some 9, op := .alloc 31, type := 0, pos := "outright.go:149", after := #[], guard := none }
def o13_3 : Oper := { dst := some 10, op := .alloc 31, type := 0, pos := "outright.go:149", after := #[], guard := none }
def o13_4 : Oper := { dst := none, op := .store 31 (.tmp 9) (.tmp 76), type := 0, pos := "outright.go:149", after := #[⟨2, .data⟩, ⟨0, .data⟩, ⟨0, .phase⟩, ⟨1, .textOnly .lateStores⟩, ⟨2, .phase⟩, ⟨3, .phase⟩], guard := none }
def o13_5 : Oper := { dst := none, op := .store 31 (.tmp 10) (.tmp 77), type := 0, pos := "outright.go:149", after := #[⟨3, .data⟩, ⟨1, .data⟩, ⟨4, .chain⟩, ⟨0, .phase⟩, ⟨1, .phase⟩, ⟨2, .phase⟩, ⟨3, .phase⟩, ⟨4, .phase⟩], guard := none }
def ops13 : List Oper := [o13_0, o13_1, o13_2, o13_3, o13_4, o13_5]
theorem dst13 {k j : Nat} (h : dstOf ops13 k = some j) : j = 76 ∨ j = 77 ∨ j = 9 ∨ j = 10 := by
  rcases k with _ | _ | _ | _ | _ | _ | k
  · exact Or.inl (Option.some.inj h).symm
  · exact Or.inr (Or.inl (Option.some.inj h).symm)
  · exact Or.inr (Or.inr (Or.inl (Option.some.inj h).symm))
  · exact Or.inr (Or.inr (Or.inr (Option.some.inj h).symm))
  · cases h
  · cases h
  · cases h
theorem hop13 {a0 : Act} {w : World} {A B : N5} {P7 P8 : Nat} {R : Exit → Act → World → Prop} (h7 : a0.tmps[7]? = some (ptrV P7)) (h8 : a0.tmps[8]? = some (ptrV P8)) (bA : A.at w P7) (bB : B.at w P8) :
    ∀ i o (a : Act) x (done : Nat → Bool) (val : Nat → Value), ops13[i]? = some o → done i = false → (∀ e ∈ o.after, Region.binds .any e = true → done e.on = true) → Inv13 w A B done val x → (∀ j, (∀ k, dstOf ops13 k ≠ some j) → a.tmps[j]? = a0.tmps[j]?) → (∀ j t, done j = true → dstOf ops13 j = some t → a.tmps[t]? = some (val j)) → (∀ g b, o.guard = some (g, b) → val g = .bool b) →
      Shut (o.wp Try.prog a x (fun a' x' => ∃ v, a' = a.put o.dst v ∧ Inv13 w A B (upd done i true) (upd val i v) x') R) := by
  have far : ∀ j, j = 7 ∨ j = 8 → ∀ k, dstOf ops13 k ≠ some j := fun j hj k hk => by
    have := dst13 hk
    omega
  intro i o a x done val ho hd dep I oth vals _
  have i7 : a.tmps[7]? = some (ptrV P7) := (oth 7 (far 7 (Or.inl rfl))).trans h7
  have i8 : a.tmps[8]? = some (ptrV P8) := (oth 8 (far 8 (Or.inr rfl))).trans h8
  rcases i with _ | _ | _ | _ | _ | _ | i
  · have e1 : o13_0 = o := Option.some.inj ho
    subst e1
    have hrun : (execOp a.eval o13_0).run Try.prog x = .ok (.value A.v) x := run_num (tmp_eval i7) (bA.next I.q)
    refine ⟨?_⟩
    unfold Oper.wp
    rw [hrun]
    exact ⟨_, rfl, I.s0⟩
  · have e1 : o13_1 = o := Option.some.inj ho
    subst e1
    have hrun : (execOp a.eval o13_1).run Try.prog x = .ok (.value B.v) x := run_num (tmp_eval i8) (bB.next I.q)
    refine ⟨?_⟩
    unfold Oper.wp
    rw [hrun]
    exact ⟨_, rfl, I.s1⟩
  · have e1 : o13_2 = o := Option.some.inj ho
    subst e1
    have hrun : (execOp a.eval o13_2).run Try.prog x = .ok (.value (ptrV x.heap.size)) (x.alloc zeroNum) := run_newnum
    refine ⟨?_⟩
    unfold Oper.wp
    rw [hrun]
    exact ⟨_, rfl, I.s2 hd⟩
  · have e1 : o13_3 = o := Option.some.inj ho
    subst e1
    have hrun : (execOp a.eval o13_3).run Try.prog x = .ok (.value (ptrV x.heap.size)) (x.alloc zeroNum) := run_newnum
    refine ⟨?_⟩
    unfold Oper.wp
    rw [hrun]
    exact ⟨_, rfl, I.s3 hd⟩
  · have e1 : o13_4 = o := Option.some.inj ho
    subst e1
    have d0 : done 0 = true := dep ⟨0, .data⟩ (by simp [o13_4]) rfl
    have d2 : done 2 = true := dep ⟨2, .data⟩ (by simp [o13_4]) rfl
    have d3 : done 3 = true := dep ⟨3, .phase⟩ (by simp [o13_4]) rfl
    have d5 : done 5 = false := by
      cases h : done 5
      · rfl
      · have := (I.d5 h).2.2.2; rw [hd] at this; cases this
    have t0 := vals 0 76 d0 rfl
    have t2 := vals 2 9 d2 rfl
    rw [I.v0 d0] at t0
    have ap := I.ap d2 d3
    have b3 := I.b3 d3
    obtain ⟨V, hV, h2, h3, h4, h5⟩ := I.b2 d2
    rw [hV] at t2
    rw [hd] at h5
    refine ⟨store_num t2 t0 h5 h4 (fun x' _ hx => ?_)⟩
    subst hx
    refine ⟨undef, rfl, ⟨?_, by simpa [upd] using I.v0, by simpa [upd] using I.v1, fun _ => ?_, fun _ => ?_, by simpa [upd] using I.ap, fun _ => by simp [upd, d0, d2, d3], fun h => ?_⟩⟩
    · exact ((((I.q.set h2 _).set h2 _).set h2 _).set h2 _).set h2 _
    · simp only [upd, if_true]
      exact NewB.fill (st := false) hV h2 h3 h4 h5
    · simp only [upd]
      exact b3.beside (fun e => ap (by rw [hV, e]))
    · simp [upd, d5] at h
  · have e1 : o13_5 = o := Option.some.inj ho
    subst e1
    have d1 : done 1 = true := dep ⟨1, .data⟩ (by simp [o13_5]) rfl
    have d2 : done 2 = true := dep ⟨2, .phase⟩ (by simp [o13_5]) rfl
    have d3 : done 3 = true := dep ⟨3, .data⟩ (by simp [o13_5]) rfl
    have d4 : done 4 = true := dep ⟨4, .chain⟩ (by simp [o13_5]) rfl
    have t1 := vals 1 77 d1 rfl
    have t3 := vals 3 10 d3 rfl
    rw [I.v1 d1] at t1
    have ap := I.ap d2 d3
    have b2 := I.b2 d2
    obtain ⟨V, hV, h2, h3, h4, h5⟩ := I.b3 d3
    rw [hV] at t3
    rw [hd] at h5
    refine ⟨store_num t3 t1 h5 h4 (fun x' _ hx => ?_)⟩
    subst hx
    refine ⟨undef, rfl, ⟨?_, by simpa [upd] using I.v0, by simpa [upd] using I.v1, fun _ => ?_, fun _ => ?_, by simpa [upd] using I.ap, fun _ => by have := I.d4 d4; simp [upd, this], fun _ => by simp [upd, d1, d2, d3, d4]⟩⟩
    · exact ((((I.q.set h2 _).set h2 _).set h2 _).set h2 _).set h2 _
    · simp only [upd]
      exact b2.beside (fun e => ap (by rw [hV, e]))
    · simp only [upd, if_true]
      exact NewB.fill (st := false) hV h2 h3 h4 h5
  · cases ho
theorem region13 {id : Nat} {l : List Oper} {R : Exit → Act → World → Prop} {a0 : Act} {w : World} {A B : N5} {P7 P8 : Nat} (hl : l = ops13) (hsz : a0.tmps.size = 111) (h7 : a0.tmps[7]? = some (ptrV P7)) (h8 : a0.tmps[8]? = some (ptrV P8)) (bA : A.at w P7) (bB : B.at w P8)
    (hR : ∀ x V9 V10, Q w x → w.heap.size ≤ V9 → w.heap.size ≤ V10 → V9 ≠ V10 → A.at x V9 → B.at x V10 → (∀ j, x.frozen? ⟨V9, j, none⟩ = false) → (∀ j, x.frozen? ⟨V10, j, none⟩ = false) → R .normal (putAll a0 [(76, A.v), (77, B.v), (9, ptrV V9), (10, ptrV V10)]) x) :
    (Code.region id l.toArray true).wp Try.prog R a0 w := by
  subst hl
  refine wp_region_slots (Inv13 w A B) (by kernel_rfl) (by decide +kernel) ?_ ⟨(Q.refl w).drew, (fun h => by cases h), (fun h => by cases h), (fun h => by cases h), (fun h => by cases h), (fun h => by cases h), (fun h => by cases h), (fun h => by cases h)⟩ (hop13 h7 h8 bA bB) ?_ ?_
  · intro k t hk
    rw [hsz]
    have := dst13 hk
    omega
  · intro i o x done val g b ho _ _ _ hg
    exfalso
    rcases i with _ | _ | _ | _ | _ | _ | i
    all_goals first | (cases ho; done) | (have e1 := Option.some.inj ho; subst e1; cases hg)
  · intro a x val I size defers other vals
    obtain ⟨V9, e9, l9, _, z9, b9⟩ := I.b2 rfl
    obtain ⟨V10, e10, l10, _, z10, b10⟩ := I.b3 rfl
    have hne := I.ap rfl rfl
    rw [e9, e10] at hne
    have t0 := vals 0 76 rfl
    have t1 := vals 1 77 rfl
    have t2 := vals 2 9 rfl
    have t3 := vals 3 10 rfl
    rw [I.v0 rfl] at t0
    rw [I.v1 rfl] at t1
    rw [e9] at t2
    rw [e10] at t3
    have hA := act_puts (a := a) (a0 := a0) [(76, A.v), (77, B.v), (9, ptrV V9), (10, ptrV V10)] (by show [76, 77, 9, 10].Nodup; decide) size defers (fun j hj => other j (fun k hk => hj ?_)) (fun r hr => by
      simp only [List.mem_cons, List.not_mem_nil, or_false] at hr
      rcases hr with rfl | rfl | rfl | rfl <;> assumption)
    · rw [hA]
      exact ⟨hR x V9 V10 I.q l9 l10 (fun e => hne (by rw [e])) b9 b10 z9 z10⟩
    · rcases dst13 hk with rfl | rfl | rfl | rfl <;> simp
end Go.Proofs.Ytgpgjbgobaaohaa
/- What the reference's Add, Scale and Half return of whatever samples: the exact number, rounded. -/
namespace Go.Proofs.Ytgpgjbgobaaohaa
open Go.RowKit

/-- Numbers of middling size. -/
def mid : RNum → Prop
  | ⟨some (.inr (_, n, e, m))⟩ => blen n ≤ 1000 ∧ -1000 ≤ e ∧ e ≤ 1000 ∧ m = false
  | _ => True
theorem mid_small {x : RNum} (h : mid x) : small x := by
  cases x using RNum.rec3 with
  | fin s n e m => exact ⟨by have := h.1; omega, by have := h.2.1; omega, by have := h.2.2.1; omega⟩
  | nan => exact trivial
  | inf s => exact trivial
theorem numOf_cases (b : Nat) : numOf Ieee.single b = .nan ∨ (∃ s, numOf Ieee.single b = .inf s) ∨ ∃ s n e, numOf Ieee.single b = .fin s n e false ∧ n < 16777216 ∧ -149 ≤ e ∧ e ≤ 104 := by
  have hx : b / 8388608 % 256 < 256 := Nat.mod_lt _ (by decide)
  by_cases h1 : b / 8388608 % 256 = 255
  · by_cases h2 : b % 8388608 = 0
    · exact Or.inr (Or.inl ⟨_, numOf_inf h1 h2⟩)
    · exact Or.inl (numOf_nan h1 h2)
  · by_cases h3 : b / 8388608 % 256 = 0
    · exact Or.inr (Or.inr ⟨_, _, _, numOf_small h3, by omega, by omega, by omega⟩)
    · exact Or.inr (Or.inr ⟨_, _, _, numOf_norm h3 h1, by omega, by omega, by omega⟩)
theorem numOf_mid (b : Nat) : mid (numOf Ieee.single b) := by
  rcases numOf_cases b with h | ⟨s, h⟩ | ⟨s, n, e, h, hn, h0, h1⟩
  · rw [h]; exact trivial
  · rw [h]; exact trivial
  · rw [h]
    have : blen n ≤ 24 := blen_le hn
    exact ⟨by omega, by omega, by omega, rfl⟩
theorem blen_shifted {k : Nat} (n d : Nat) (h : blen n + d ≤ k) : blen (n * 2 ^ d) ≤ k := blen_le (shifted_lt n d h)
theorem plusFin_fits {s t : Bool} {x y : Nat} {b : Int} (hx : blen x ≤ 3000) (hy : blen y ≤ 3000) (b0 : -1000 ≤ b) (b1 : b ≤ 1000) : fits (plusFin s t x y b) := by
  have gx := blen_lt x
  have gy := blen_lt y
  obtain ⟨j, hj⟩ : ∃ j, j = 3000 := ⟨_, rfl⟩
  have px : 2 ^ blen x ≤ 2 ^ j := Nat.pow_le_pow_right (by decide) (by omega)
  have py : 2 ^ blen y ≤ 2 ^ j := Nat.pow_le_pow_right (by decide) (by omega)
  have key : ∀ z, z ≤ x + y → blen z ≤ 6000 := fun z hz => by
    have : z < 2 ^ (j + 1) := by rw [Nat.pow_succ]; omega
    have := blen_le this
    omega
  unfold plusFin
  split
  · exact ⟨key _ (by omega), by omega, by omega, fun h => by cases h⟩
  · split
    · exact ⟨key _ (by omega), by omega, by omega, fun h => by cases h⟩
    · split
      · exact ⟨key _ (by omega), by omega, by omega, fun h => by cases h⟩
      · exact ⟨key _ (by omega), by omega, by omega, fun h => by cases h⟩
theorem plusR_fits {x y : RNum} (hx : mid x) (hy : mid y) : fits (plusR x y) := by
  cases x using RNum.rec3 with
  | nan => exact trivial
  | inf s =>
    cases y using RNum.rec3 with
    | nan => exact trivial
    | inf t => show fits (if s = t then .inf s else .nan); split <;> exact trivial
    | fin t k f g => exact trivial
  | fin s n e m =>
    cases y using RNum.rec3 with
    | nan => exact trivial
    | inf t => exact trivial
    | fin t k f g =>
      obtain ⟨n1, e0, e1, _⟩ := hx
      obtain ⟨k1, f0, f1, _⟩ := hy
      refine plusFin_fits ?_ ?_ (by omega) (by omega)
      · exact blen_shifted n _ (by omega)
      · exact blen_shifted k _ (by omega)

/-- Times 2^d. -/
def scaleR (d : Int) : RNum → RNum
  | ⟨some (.inr (s, n, e, m))⟩ => .fin s n (e + d) m
  | x => x
theorem scaleR_fits {x : RNum} {d : Int} (h : mid x) (d0 : -1000 ≤ d) (d1 : d ≤ 1000) : fits (scaleR d x) := by
  cases x using RNum.rec3 with
  | nan => exact trivial
  | inf s => exact trivial
  | fin s n e m =>
    obtain ⟨n1, e0, e1, hm⟩ := h
    exact ⟨by omega, by omega, by omega, fun g => by rw [hm] at g; cases g⟩

end Go.Proofs.Ytgpgjbgobaaohaa
/- Plain facts: the reference's exact sums and products, rounded, are those of the model's arithmetic. -/
namespace Go.Proofs.Ytgpgjbgobaaohaa
open Go.RowKit

/-- A datum as a number of the reference. -/
def datumR : Ieee.Datum → RNum
  | .nan .. => .nan
  | .infinity s => .inf s
  | .number s m p => .fin s m p false
theorem numOf_datum (f : Ieee.Format) (b : Nat) : numOf f b = datumR (f.read b) := by
  unfold numOf datumR; cases f.read b <;> rfl

theorem roundR_fin (s : Bool) (n : Nat) (e : Int) : roundR (.fin s n e false) = Ieee.single.nearest s n e := by
  show Ieee.single.word s (rungOf Ieee.single (2 * n + 0) (e - 1)) = _
  rw [nearest_rung, Nat.add_zero]
  have := rung_scale Ieee.single n 1 (e - 1)
  rw [Nat.pow_one, Nat.mul_comm n 2] at this
  rw [this, show e - 1 + ((1 : Nat) : Int) = e by omega]

theorem plusFin_sum (s t : Bool) (X Y : Nat) (b : Int) :
    roundR (plusFin s t X Y b) = Ieee.single.nearest (if (if s = true then -(X : Int) else X) + (if t = true then -(Y : Int) else Y) = 0 then s && t else decide ((if s = true then -(X : Int) else X) + (if t = true then -(Y : Int) else Y) < 0))
      ((if s = true then -(X : Int) else X) + (if t = true then -(Y : Int) else Y)).natAbs b := by
  unfold plusFin
  by_cases h : s = t
  · subst h
    rw [if_pos rfl, roundR_fin]
    cases s
    · simp only [Bool.false_eq_true, if_false]
      have e1 : ((X : Int) + (Y : Int)).natAbs = X + Y := by omega
      rw [e1]
      by_cases h0 : (X : Int) + (Y : Int) = 0
      · rw [if_pos h0]; rfl
      · rw [if_neg h0, decide_eq_false (by omega)]
    · simp only [if_true]
      have e1 : (-(X : Int) + -(Y : Int)).natAbs = X + Y := by omega
      rw [e1]
      by_cases h0 : -(X : Int) + -(Y : Int) = 0
      · rw [if_pos h0]; rfl
      · rw [if_neg h0, decide_eq_true (by omega)]
  · rw [if_neg h]
    cases s <;> cases t <;> simp only [Bool.false_eq_true, if_false, if_true]
    · exact absurd rfl h
    · by_cases hxy : X = Y
      · rw [if_pos hxy, roundR_fin, if_pos (by omega : (X : Int) + -(Y : Int) = 0)]
        congr 1; omega
      · rw [if_neg hxy]
        by_cases hlt : Y < X
        · rw [if_pos hlt, roundR_fin, if_neg (by omega : ¬ (X : Int) + -(Y : Int) = 0), decide_eq_false (by omega)]
          congr 1; omega
        · rw [if_neg hlt, roundR_fin, if_neg (by omega : ¬ (X : Int) + -(Y : Int) = 0), decide_eq_true (by omega)]
          congr 1; omega
    · by_cases hxy : X = Y
      · rw [if_pos hxy, roundR_fin, if_pos (by omega : -(X : Int) + (Y : Int) = 0)]
        congr 1; omega
      · rw [if_neg hxy]
        by_cases hlt : Y < X
        · rw [if_pos hlt, roundR_fin, if_neg (by omega : ¬ -(X : Int) + (Y : Int) = 0), decide_eq_true (by omega)]
          congr 1; omega
        · rw [if_neg hlt, roundR_fin, if_neg (by omega : ¬ -(X : Int) + (Y : Int) = 0), decide_eq_false (by omega)]
          congr 1; omega
    · exact absurd rfl h

theorem signed_eq (s : Bool) (m k : Nat) : Ieee.signed s m k = if s = true then -((m * 2 ^ k : Nat) : Int) else ((m * 2 ^ k : Nat) : Int) := by
  unfold Ieee.signed; rw [Nat.shiftLeft_eq]

/-- Sums. -/
theorem plus_link (d d' : Ieee.Datum) : roundR (plusR (datumR d) (datumR d')) = toldD (d.sum d') := by
  cases d with
  | nan s t => cases d' <;> rfl
  | infinity s =>
    cases d' with
    | nan t f => rfl
    | infinity t =>
      show roundR (if s = t then .inf s else .nan) = toldD (if s = t then some (.infinity s) else none)
      by_cases h : s = t
      · rw [if_pos h, if_pos h]; show Ieee.single.word s 2139095040 = Ieee.single.word s Ieee.single.infRung; rw [single_inf]
      · rw [if_neg h, if_neg h]; rfl
    | number t n j => show Ieee.single.word s 2139095040 = Ieee.single.word s Ieee.single.infRung; rw [single_inf]
  | number s m i =>
    cases d' with
    | nan t f => rfl
    | infinity t => show Ieee.single.word t 2139095040 = Ieee.single.word t Ieee.single.infRung; rw [single_inf]
    | number t n j =>
      show roundR (plusFin s t (m * 2 ^ (i - min i j).toNat) (n * 2 ^ (j - min i j).toNat) (min i j)) = Ieee.single.nearest _ _ _
      rw [plusFin_sum, signed_eq, signed_eq]
end Go.Proofs.Ytgpgjbgobaaohaa
