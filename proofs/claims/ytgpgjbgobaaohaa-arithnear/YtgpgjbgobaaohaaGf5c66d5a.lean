/- What single operations of ArithNear's drawn regions do. -/
import Derived.Test.YtgpgjbgobaaohaaG8951bcfe
namespace Go.Proofs.Ytgpgjbgobaaohaa
open Go.RowKit
set_option linter.unusedVariables false
set_option linter.unusedSimpArgs false

section
variable {P : Program} {R : Exit → Act → World → Prop} {a : Act} {t : Nat} {G : Value → World → Prop} {ρ : Operand → Value} {x : World} {d : Option Tmp} {ty : TypeId} {ps : String} {af : Array Edge} {g : Option (Nat × Bool)}
theorem run_or {c j : Nat} {v : Value} (hc : ρ (.tmp c) = .bool false) (h : ρ (.tmp j) = v) {u : Value} : (execOp ρ { dst := d, op := .pick (.tmp c) (.const u) (.tmp j), type := ty, pos := ps, after := af, guard := g }).run P x = .ok (.value v) x := by
  simp [execOp, hc, h, go_sem]
theorem run_and {c j : Nat} {u : Value} (hc : ρ (.tmp c) = .bool false) (hu : ρ (.const u) = u) : (execOp ρ { dst := d, op := .pick (.tmp c) (.tmp j) (.const u), type := ty, pos := ps, after := af, guard := g }).run P x = .ok (.value u) x := by
  simp [execOp, hc, hu, go_sem]
theorem run_not {j : Nat} {b : Bool} (h : ρ (.tmp j) = .bool b) : (execOp ρ { dst := d, op := .unOp .not 4 (.tmp j), type := ty, pos := ps, after := af, guard := g }).run Try.prog x = .ok (.value (.bool !b)) x := by
  simp [execOp, h, go_sem]
theorem run_neqb {j k : Nat} {b b' : Bool} (h : ρ (.tmp j) = .bool b) (h' : ρ (.tmp k) = .bool b') : (execOp ρ { dst := d, op := .binOp .neq 4 (.tmp j) (.tmp k) 4, type := ty, pos := ps, after := af, guard := g }).run Try.prog x = .ok (.value (.bool (b != b'))) x := by
  simp [execOp, h, h', go_sem]
  cases b <;> cases b' <;> rfl
theorem run_conv {j : Nat} {n : Nat} (h : ρ (.tmp j) = .int .u32 (n : Int)) (hn : n < 4294967296) : (execOp ρ { dst := d, op := .convert 22 33 (.tmp j), type := ty, pos := ps, after := af, guard := g }).run Try.prog x = .ok (.value (.int .u64 (n : Int))) x := by
  have hw : IntKind.u64.wrap (n : Int) = n := by rw [IntKind.wrap_u64]; omega
  simp [execOp, h, go_sem, hw]
theorem run_form32 {j V : Nat} (h : ρ (.tmp j) = ptrV V) (c0 : x.cell? ⟨V, 0, none⟩ = some (.int .i64 23)) (c1 : x.cell? ⟨V, 1, none⟩ = some (.int .i64 8)) : (execOp ρ { dst := d, op := .load 26 (.tmp j), type := ty, pos := ps, after := af, guard := g }).run Try.prog x = .ok (.value (.agg #[.int .i64 23, .int .i64 8])) x := by
  simp [execOp, h, go_sem, c0, c1, ptrV]
theorem run_u32 {j : Nat} {p : Addr} {v : Value} (h : ρ (.tmp j) = .pointer (some p)) (c : x.cell? p = some v) : (execOp ρ { dst := d, op := .load 22 (.tmp j), type := ty, pos := ps, after := af, guard := g }).run Try.prog x = .ok (.value v) x := by
  simp [execOp, h, go_sem, c]
theorem run_bool {j : Nat} {p : Addr} {v : Value} (h : ρ (.tmp j) = .pointer (some p)) (c : x.cell? p = some v) : (execOp ρ { dst := d, op := .load 4 (.tmp j), type := ty, pos := ps, after := af, guard := g }).run Try.prog x = .ok (.value v) x := by
  simp [execOp, h, go_sem, c]
theorem run_numo {j B o : Nat} {k : Int} {s : Bool} {p : Option Addr} {L C : Nat} {e : Int} {m : Bool} (h : ρ (.tmp j) = .pointer (some ⟨B, o, none⟩)) (c0 : x.cell? ⟨B, o, none⟩ = some (.int .i64 k)) (c1 : x.cell? ⟨B, o + 1, none⟩ = some (.bool s)) (c2 : x.cell? ⟨B, o + 2, none⟩ = some (.slice p L C)) (c3 : x.cell? ⟨B, o + 3, none⟩ = some (.int .i64 e)) (c4 : x.cell? ⟨B, o + 4, none⟩ = some (.bool m)) : (execOp ρ { dst := d, op := .load 31 (.tmp j), type := ty, pos := ps, after := af, guard := g }).run Try.prog x = .ok (.value (num5 k s p L C e m)) x := by
  simp [execOp, h, go_sem, c0, c1, c2, c3, c4, num5]
theorem run_fieldo {j B o : Nat} (h : ρ (.tmp j) = .pointer (some ⟨B, o, none⟩)) : (execOp ρ { dst := d, op := .fieldAddr 31 (.tmp j) 1, type := ty, pos := ps, after := af, guard := g }).run Try.prog x = .ok (.value (.pointer (some ⟨B, o + 1, none⟩))) x := by
  simp [execOp, h, go_sem]
theorem run_idx {j k B i : Nat} (h : ρ (.tmp j) = .slice (some ⟨B, 0, none⟩) 4 4) (h' : ρ (.tmp k) = .int .i64 (i : Int)) (hi : i < 4) : (execOp ρ { dst := d, op := .indexAddr 28 (.tmp j) (.tmp k), type := ty, pos := ps, after := af, guard := g }).run Try.prog x = .ok (.value (.pointer (some ⟨B, i, none⟩))) x := by
  simp [execOp, h, h', go_sem, hi]
  intro h4
  omega
theorem run_idxn {j k B i : Nat} (h : ρ (.tmp j) = .slice (some ⟨B, 0, none⟩) 4 4) (h' : ρ (.tmp k) = .int .i64 (i : Int)) (hi : i < 4) : (execOp ρ { dst := d, op := .indexAddr 35 (.tmp j) (.tmp k), type := ty, pos := ps, after := af, guard := g }).run Try.prog x = .ok (.value (.pointer (some ⟨B, i * 5, none⟩))) x := by
  simp [execOp, h, h', go_sem, hi]
  intro h4
  omega
theorem run_shr {j : Nat} {n : Nat} (h : ρ (.tmp j) = .int .u32 (n : Int)) (hu : ρ (.const (.int .u64 31)) = .int .u64 31) (hn : n < 4294967296) : (execOp ρ { dst := d, op := .binOp .shr 22 (.tmp j) (.const (.int .u64 31)) 41, type := ty, pos := ps, after := af, guard := g }).run Try.prog x = .ok (.value (.int .u32 (if sgn32 n = true then 1 else 0))) x := by
  have ht := top_bit hn
  simp [execOp, h, hu, go_sem]
  exact ht
theorem run_eq1 {j : Nat} {b : Bool} (h : ρ (.tmp j) = .int .u32 (if b = true then 1 else 0)) (hu : ρ (.const (.int .u32 1)) = .int .u32 1) : (execOp ρ { dst := d, op := .binOp .eql 22 (.tmp j) (.const (.int .u32 1)) 22, type := ty, pos := ps, after := af, guard := g }).run Try.prog x = .ok (.value (.bool b)) x := by
  cases b <;> simp [execOp, h, hu, go_sem]
end
/-- A number is laid into a box: what stays. -/
structure Laid (x x' : World) (V : Nat) : Prop where
  q : ∀ w, Q w x → w.heap.size ≤ V → Q w x'
  box : ∀ U k s p L C e m, U ≠ V → Box5 x U k s p L C e m → Box5 x' U k s p L C e m
  frz : ∀ y, x'.frozen? y = x.frozen? y
  num : ∀ v X, NumAt x v X → NumAt x' v X
  sz : x'.heap.size = x.heap.size
theorem Laid.nbox {x x' : World} {V U : Nat} {X : RNum} (h : Laid x x' V) (hU : U ≠ V) (b : NBox x U X) : NBox x' U X := by
  obtain ⟨k, s, p, L, C, e, m, b1, b2⟩ := b
  exact ⟨k, s, p, L, C, e, m, h.box U k s p L C e m hU b1, h.num _ _ b2⟩
/-- A new box. -/
def ZBox (lo : Nat) (x : World) (v : Value) : Prop := ∃ V, v = ptrV V ∧ lo ≤ V ∧ V < x.heap.size ∧ Box5 x V 0 false none 0 0 0 false ∧ ∀ j, x.frozen? ⟨V, j, none⟩ = false
def zboxS (lo : Nat) : Spec := ⟨fun v x => ZBox lo x v, fun ⟨V, h1, h2, h3, h4, h5⟩ q => ⟨V, h1, h2, Nat.lt_of_lt_of_le h3 q.1.size, h4.next q, fun j => (q.2 _).trans (h5 j)⟩⟩
theorem new_zbox (x : World) {lo : Nat} (h : lo ≤ x.heap.size) : ZBox lo (x.alloc zeroNum) (ptrV x.heap.size) :=
  ⟨x.heap.size, rfl, h, by simp, by unfold zeroNum; exact ⟨by simp [go_sem], by simp [go_sem], by simp [go_sem], by simp [go_sem], by simp [go_sem]⟩, fun j => by unfold zeroNum; simp [go_sem]⟩
theorem lay_num {a : Act} {x : World} {V b c : Nat} {v : Value} {X : RNum} (hb : a.tmps[b]? = some (ptrV V)) (hc : a.tmps[c]? = some v) (hv : NumAt x v X) (bx : Box5 x V 0 false none 0 0 0 false) (hf : ∀ j, x.frozen? ⟨V, j, none⟩ = false)
    {ps : String} {af : Array Edge} {K : Act → World → Prop} {R : Exit → Act → World → Prop} (h : ∀ x', Laid x x' V → NBox x' V X → K a x') :
    Oper.wp Try.prog { dst := none, op := .store 31 (.tmp b) (.tmp c), type := 0, pos := ps, after := af, guard := none } a x K R := by
  obtain ⟨k, s, p, L, C, e, m, rfl⟩ := hv.made
  refine store_num hb hc bx hf (fun x' _ hx => ?_)
  have keep : ∀ y : Addr, y.block ≠ V → x'.cell? y = x.cell? y := fun y hy => by
    subst hx
    have hn : ∀ j, (⟨V, j, none⟩ : Addr) ≠ y := fun j e => hy (by rw [← e])
    rw [World.cell?_setCell_other _ _ _ _ (hn _), World.cell?_setCell_other _ _ _ _ (hn _), World.cell?_setCell_other _ _ _ _ (hn _), World.cell?_setCell_other _ _ _ _ (hn _), World.cell?_setCell_other _ _ _ _ (hn _)]
  have num : ∀ v X, NumAt x v X → NumAt x' v X := fun v X h => numAt_but h bx.c0 keep
  refine h x' ⟨fun w q hw => ?_, fun U k s p L C e m hU b => ?_, fun y => ?_, num, ?_⟩ ⟨k, s, p, L, C, e, m, ?_, num _ _ hv⟩
  · subst hx; exact ((((q.set hw _).set hw _).set hw _).set hw _).set hw _
  · exact ⟨(keep ⟨U, 0, none⟩ hU).trans b.c0, (keep ⟨U, 1, none⟩ hU).trans b.c1, (keep ⟨U, 2, none⟩ hU).trans b.c2, (keep ⟨U, 3, none⟩ hU).trans b.c3, (keep ⟨U, 4, none⟩ hU).trans b.c4⟩
  · subst hx; simp only [World.frozen?_setCell]
  · subst hx; simp
  · obtain ⟨c0, c1, c2, c3, c4⟩ := bx
    subst hx
    exact ⟨by simp [go_sem, c0, c1, c2, c3, c4], by simp [go_sem, c0, c1, c2, c3, c4], by simp [go_sem, c0, c1, c2, c3, c4], by simp [go_sem, c0, c1, c2, c3, c4], by simp [go_sem, c0, c1, c2, c3, c4]⟩
end Go.Proofs.Ytgpgjbgobaaohaa
