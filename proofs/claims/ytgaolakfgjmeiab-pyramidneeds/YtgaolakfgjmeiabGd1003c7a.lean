/- Trees of a drawn region's orders with one, two or three operations that may come up next. -/
import Derived.Test.YtgaolakfgjmeiabG873cc88a
namespace Go.Proofs.Ytgaolakfgjmeiab
open Go.RowKit
set_option linter.unusedVariables false
set_option linter.unusedSimpArgs false

/-- As Does; but it is not laid open when a proof of it is sought. -/
structure DoesB (P : Program) (o : Oper) (ρ : Operand → Value) (x : World) (G : Value → World → Prop) : Prop where
  d : Does P o ρ x G
theorem doesB_value {P : Program} {o : Oper} {ρ : Operand → Value} {x x' : World} {G : Value → World → Prop} {v : Value} (hr : (execOp ρ o).run P x = .ok (.value v) x') (h : G v x') : DoesB P o ρ x G := ⟨does_value hr h⟩
theorem doesB_skip {P : Program} {o : Oper} {ρ : Operand → Value} {x x' : World} {G : Value → World → Prop} (hr : (execOp ρ o).run P x = .ok .skip x') (h : G undef x') : DoesB P o ρ x G := ⟨does_skip hr h⟩
theorem doesB_call {P : Program} {o : Oper} {ρ : Operand → Value} {x : World} {G : Value → World → Prop} {f : FuncId} {args : Array Value} (hr : (execOp ρ o).run P x = .ok (.enter f args) x) (h : Calls P f args x fun e x' => ∃ v, e = .returned v ∧ G v x') : DoesB P o ρ x G := ⟨does_call hr h⟩
section
variable {P : Program} {l : List Oper} {rd : List Nat} {ords : List (List Nat)} {C : World → Prop} {N : Act → World → Prop} {n : Nat} {p : List Nat} {A : Act} {x : World}
theorem treeC1 (k : Nat) (hk : (nexts ords p).all (fun j => j == k) = true) {o : Oper} (ho : l[k]? = some o) (h : Does P o A.eval x (fun v x' => (fullB l rd k = false → C x') ∧ wpTree P l rd ords C N n (p ++ [k]) (A.put o.dst v) x')) : wpTree P l rd ords C N (n + 1) p A x := by
  intro k' hk' o' ho'
  have := List.all_eq_true.1 hk k' hk'
  have e : k' = k := by simpa using this
  subst e
  rw [ho] at ho'
  injection ho' with ho'
  subst ho'
  exact h
theorem treeC2 (k j : Nat) (hk : (nexts ords p).all (fun i => i == k || i == j) = true) {o u : Oper} (ho : l[k]? = some o) (hu : l[j]? = some u) (h : Does P o A.eval x (fun v x' => (fullB l rd k = false → C x') ∧ wpTree P l rd ords C N n (p ++ [k]) (A.put o.dst v) x')) (h2 : Does P u A.eval x (fun v x' => (fullB l rd j = false → C x') ∧ wpTree P l rd ords C N n (p ++ [j]) (A.put u.dst v) x')) : wpTree P l rd ords C N (n + 1) p A x := by
  intro k' hk' o' ho'
  have := List.all_eq_true.1 hk k' hk'
  have e : k' = k ∨ k' = j := by simpa using this
  rcases e with e | e
  · subst e
    rw [ho] at ho'
    injection ho' with ho'
    subst ho'
    exact h
  · subst e
    rw [hu] at ho'
    injection ho' with ho'
    subst ho'
    exact h2
theorem treeC3 (k j m : Nat) (hk : (nexts ords p).all (fun i => i == k || (i == j || i == m)) = true) {o u q : Oper} (ho : l[k]? = some o) (hu : l[j]? = some u) (hq : l[m]? = some q) (h : Does P o A.eval x (fun v x' => (fullB l rd k = false → C x') ∧ wpTree P l rd ords C N n (p ++ [k]) (A.put o.dst v) x')) (h2 : Does P u A.eval x (fun v x' => (fullB l rd j = false → C x') ∧ wpTree P l rd ords C N n (p ++ [j]) (A.put u.dst v) x')) (h3 : Does P q A.eval x (fun v x' => (fullB l rd m = false → C x') ∧ wpTree P l rd ords C N n (p ++ [m]) (A.put q.dst v) x')) : wpTree P l rd ords C N (n + 1) p A x := by
  intro k' hk' o' ho'
  have := List.all_eq_true.1 hk k' hk'
  have e : k' = k ∨ k' = j ∨ k' = m := by simpa using this
  rcases e with e | e | e
  · subst e
    rw [ho] at ho'
    injection ho' with ho'
    subst ho'
    exact h
  · subst e
    rw [hu] at ho'
    injection ho' with ho'
    subst ho'
    exact h2
  · subst e
    rw [hq] at ho'
    injection ho' with ho'
    subst ho'
    exact h3
theorem treeB1 (k : Nat) (hk : (nexts ords p).all (fun j => j == k) = true) {o : Oper} (ho : l[k]? = some o) (h : DoesB P o A.eval x (fun v x' => (fullB l rd k = false → C x') ∧ wpTree P l rd ords C N n (p ++ [k]) (A.put o.dst v) x')) : wpTree P l rd ords C N (n + 1) p A x := by
  intro k' hk' o' ho'
  have := List.all_eq_true.1 hk k' hk'
  have e : k' = k := by simpa using this
  subst e
  rw [ho] at ho'
  injection ho' with ho'
  subst ho'
  exact h.d
theorem treeB2 (k j : Nat) (hk : (nexts ords p).all (fun i => i == k || i == j) = true) {o u : Oper} (ho : l[k]? = some o) (hu : l[j]? = some u) (h : DoesB P o A.eval x (fun v x' => (fullB l rd k = false → C x') ∧ wpTree P l rd ords C N n (p ++ [k]) (A.put o.dst v) x')) (h2 : DoesB P u A.eval x (fun v x' => (fullB l rd j = false → C x') ∧ wpTree P l rd ords C N n (p ++ [j]) (A.put u.dst v) x')) : wpTree P l rd ords C N (n + 1) p A x := by
  intro k' hk' o' ho'
  have := List.all_eq_true.1 hk k' hk'
  have e : k' = k ∨ k' = j := by simpa using this
  rcases e with e | e
  · subst e
    rw [ho] at ho'
    injection ho' with ho'
    subst ho'
    exact h.d
  · subst e
    rw [hu] at ho'
    injection ho' with ho'
    subst ho'
    exact h2.d
theorem treeB3 (k j m : Nat) (hk : (nexts ords p).all (fun i => i == k || (i == j || i == m)) = true) {o u q : Oper} (ho : l[k]? = some o) (hu : l[j]? = some u) (hq : l[m]? = some q) (h : DoesB P o A.eval x (fun v x' => (fullB l rd k = false → C x') ∧ wpTree P l rd ords C N n (p ++ [k]) (A.put o.dst v) x')) (h2 : DoesB P u A.eval x (fun v x' => (fullB l rd j = false → C x') ∧ wpTree P l rd ords C N n (p ++ [j]) (A.put u.dst v) x')) (h3 : DoesB P q A.eval x (fun v x' => (fullB l rd m = false → C x') ∧ wpTree P l rd ords C N n (p ++ [m]) (A.put q.dst v) x')) : wpTree P l rd ords C N (n + 1) p A x := by
  intro k' hk' o' ho'
  have := List.all_eq_true.1 hk k' hk'
  have e : k' = k ∨ k' = j ∨ k' = m := by simpa using this
  rcases e with e | e | e
  · subst e
    rw [ho] at ho'
    injection ho' with ho'
    subst ho'
    exact h.d
  · subst e
    rw [hu] at ho'
    injection ho' with ho'
    subst ho'
    exact h2.d
  · subst e
    rw [hq] at ho'
    injection ho' with ho'
    subst ho'
    exact h3.d
end
end Go.Proofs.Ytgaolakfgjmeiab
