/- Numbers that lie in boxes: what loads and stores of them do. -/
import Derived.Test.YtpoilgiplhogjaaGb9ad130c
import Derived.Test.YtpoilgiplhogjaaG5583f6ff
namespace Go.Proofs.Ytpoilgiplhogjaa
open Go.RowKit
set_option linter.unusedVariables false
set_option linter.unusedSimpArgs false

/-- The form of binary64. -/
def formV : Value := .agg #[.int .i64 52, .int .i64 11]
/-- Where that form lies. -/
structure FBox (w : World) (V : Nat) : Prop where
  c0 : w.cell? ⟨V, 0, none⟩ = some (.int .i64 52)
  c1 : w.cell? ⟨V, 1, none⟩ = some (.int .i64 11)
theorem FBox.next {w w' : World} {V : Nat} (h : FBox w V) (q : Q w w') : FBox w' V := ⟨q.cell h.c0, q.cell h.c1⟩
/-- A box of five cells. -/
structure Box5 (w : World) (V : Nat) (k : Int) (s : Bool) (p : Option Addr) (L C : Nat) (e : Int) (m : Bool) : Prop where
  c0 : w.cell? ⟨V, 0, none⟩ = some (.int .i64 k)
  c1 : w.cell? ⟨V, 1, none⟩ = some (.bool s)
  c2 : w.cell? ⟨V, 2, none⟩ = some (.slice p L C)
  c3 : w.cell? ⟨V, 3, none⟩ = some (.int .i64 e)
  c4 : w.cell? ⟨V, 4, none⟩ = some (.bool m)
theorem Box5.next {w w' : World} {V : Nat} {k : Int} {s : Bool} {p : Option Addr} {L C : Nat} {e : Int} {m : Bool} (h : Box5 w V k s p L C e m) (q : Q w w') : Box5 w' V k s p L C e m := ⟨q.cell h.c0, q.cell h.c1, q.cell h.c2, q.cell h.c3, q.cell h.c4⟩
def num5 (k : Int) (s : Bool) (p : Option Addr) (L C : Nat) (e : Int) (m : Bool) : Value := .agg #[.int .i64 k, .bool s, .slice p L C, .int .i64 e, .bool m]
/-- A number that lies in a box. -/
def NBox (w : World) (V : Nat) (X : RNum) : Prop := ∃ k s p L C e m, Box5 w V k s p L C e m ∧ NumAt w (num5 k s p L C e m) X
theorem NBox.next {w w' : World} {V : Nat} {X : RNum} (h : NBox w V X) (q : Q w w') : NBox w' V X := by
  obtain ⟨k, s, p, L, C, e, m, h1, h2⟩ := h
  exact ⟨k, s, p, L, C, e, m, h1.next q, q.num h2⟩
theorem run_form {ρ : Operand → Value} {x : World} {d : Option Tmp} {ty : TypeId} {ps : String} {af : Array Edge} {g : Option (Nat × Bool)} {j V : Nat} (h : ρ (.tmp j) = ptrV V) (b : FBox x V) : (execOp ρ { dst := d, op := .load 25 (.tmp j), type := ty, pos := ps, after := af, guard := g }).run Try.prog x = .ok (.value formV) x := by
  have c0 := b.c0
  have c1 := b.c1
  simp [execOp, h, go_sem, c0, c1, ptrV, formV]
theorem run_num {ρ : Operand → Value} {x : World} {d : Option Tmp} {ty : TypeId} {ps : String} {af : Array Edge} {g : Option (Nat × Bool)} {j V : Nat} {k : Int} {s : Bool} {p : Option Addr} {L C : Nat} {e : Int} {m : Bool} (h : ρ (.tmp j) = ptrV V) (b : Box5 x V k s p L C e m) : (execOp ρ { dst := d, op := .load 30 (.tmp j), type := ty, pos := ps, after := af, guard := g }).run Try.prog x = .ok (.value (num5 k s p L C e m)) x := by
  obtain ⟨c0, c1, c2, c3, c4⟩ := b
  simp [execOp, h, go_sem, c0, c1, c2, c3, c4, ptrV, num5]
theorem run_eql {ρ : Operand → Value} {x : World} {d : Option Tmp} {ty : TypeId} {ps : String} {af : Array Edge} {g : Option (Nat × Bool)} {j k : Nat} {n : Int} (h : ρ (.tmp j) = .int .u32 n) (h' : ρ (.tmp k) = .int .u32 n) : (execOp ρ { dst := d, op := .binOp .eql 22 (.tmp j) (.tmp k) 22, type := ty, pos := ps, after := af, guard := g }).run Try.prog x = .ok (.value (.bool true)) x := by
  simp [execOp, h, h', go_sem]
def zeroNum : Obj := .cells #[.int .i64 0, .bool false, .slice none 0 0, .int .i64 0, .bool false] 30
theorem run_newnum {ρ : Operand → Value} {x : World} {d : Option Tmp} {ty : TypeId} {ps : String} {af : Array Edge} {g : Option (Nat × Bool)} : (execOp ρ { dst := d, op := .alloc 30, type := ty, pos := ps, after := af, guard := g }).run Try.prog x = .ok (.value (ptrV x.heap.size)) (x.alloc zeroNum) := by
  simp [execOp, go_sem, zeroNum, ptrV]
/-- Laying a number into a box. -/
theorem store_num {a : Act} {x : World} {V b c : Nat} {k : Int} {s : Bool} {p : Option Addr} {L C : Nat} {e : Int} {m : Bool} {k0 : Int} {s0 : Bool} {p0 : Option Addr} {L0 C0 : Nat} {e0 : Int} {m0 : Bool} (hb : a.tmps[b]? = some (ptrV V)) (hc : a.tmps[c]? = some (num5 k s p L C e m)) (bx : Box5 x V k0 s0 p0 L0 C0 e0 m0) (hf : ∀ j, x.frozen? ⟨V, j, none⟩ = false)
    {ps : String} {af : Array Edge} {K : Act → World → Prop} {R : Exit → Act → World → Prop} (h : ∀ x', Q x x' ∨ True → x' = (((((x.setCell ⟨V, 0, none⟩ (.int .i64 k)).setCell ⟨V, 1, none⟩ (.bool s)).setCell ⟨V, 2, none⟩ (.slice p L C)).setCell ⟨V, 3, none⟩ (.int .i64 e)).setCell ⟨V, 4, none⟩ (.bool m)) → K a x') :
    Oper.wp Try.prog { dst := none, op := .store 30 (.tmp b) (.tmp c), type := 0, pos := ps, after := af, guard := none } a x K R := by
  obtain ⟨c0, c1, c2, c3, c4⟩ := bx
  unfold ptrV at hb
  unfold num5 at hc
  have hrun : (execOp a.eval { dst := none, op := .store 30 (.tmp b) (.tmp c), type := 0, pos := ps, after := af, guard := none }).run Try.prog x = .ok .skip (((((x.setCell ⟨V, 0, none⟩ (.int .i64 k)).setCell ⟨V, 1, none⟩ (.bool s)).setCell ⟨V, 2, none⟩ (.slice p L C)).setCell ⟨V, 3, none⟩ (.int .i64 e)).setCell ⟨V, 4, none⟩ (.bool m)) := by
    simp [execOp, hb, hc, go_sem, c0, c1, c2, c3, c4, hf]
  unfold Oper.wp
  rw [hrun, Oper.upon_skip]
  exact h _ (Or.inr trivial) rfl
theorem box_other {x : World} {V b : Nat} (h : b ≠ V) {j j' : Nat} {v : Value} : (x.setCell ⟨V, j, none⟩ v).cell? ⟨b, j', none⟩ = x.cell? ⟨b, j', none⟩ := World.cell?_setCell_other _ _ _ _ (by simp [h])
end Go.Proofs.Ytpoilgiplhogjaa
