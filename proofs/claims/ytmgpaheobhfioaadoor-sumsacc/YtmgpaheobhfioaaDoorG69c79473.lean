/- Planes: what they are, and how their samples lie in memory. -/
import Derived.Test.YtmgpaheobhfioaaDoorGe9f3539d
import Derived.Laws.MakeOwn
namespace Go.Proofs.YtmgpaheobhfioaaDoor
open Go.RowKit
set_option linter.unusedVariables false

/-- Samples in memory. -/
def USl (w : World) (v : Value) (xs : List Nat) : Prop := (∃ g o cap, v = .slice (some ⟨g, o, none⟩) xs.length cap ∧ xs.length ≤ cap ∧ ∀ i, i < xs.length → w.cell? ⟨g, o + i, none⟩ = some (.int .u32 (xs.getD i 0 : Nat))) ∨ (∃ a c, v = .slice a 0 c ∧ xs = [])
theorem USl.next {w w' : World} {v : Value} {l : List Nat} (h : USl w v l) (q : Q w w') : USl w' v l := by
  rcases h with ⟨g, o, cap, h1, h2, h3⟩ | h
  · exact Or.inl ⟨g, o, cap, h1, h2, fun i hi => q.cell (h3 i hi)⟩
  · exact Or.inr h
theorem USl.form {w : World} {v : Value} {l : List Nat} (h : USl w v l) : ∃ a cap, v = .slice a l.length cap := by
  rcases h with ⟨g, o, cap, h1, h2, h3⟩ | ⟨a, c, h1, h2⟩
  · exact ⟨_, _, h1⟩
  · rw [h2]; exact ⟨_, _, h1⟩
/-- Samples that lie somewhere. -/
def UIs (w : World) (g o : Nat) (xs : List Nat) : Prop := ∀ i, i < xs.length → w.cell? ⟨g, o + i, none⟩ = some (.int .u32 (xs.getD i 0 : Nat))
theorem UIs.next {w w' : World} {g o : Nat} {l : List Nat} (h : UIs w g o l) (q : Q w w') : UIs w' g o l := fun i hi => q.cell (h i hi)
theorem UIs.usl {w : World} {g o : Nat} {l : List Nat} {cap : Nat} (h : UIs w g o l) (hc : l.length ≤ cap) : USl w (.slice (some ⟨g, o, none⟩) l.length cap) l := Or.inl ⟨g, o, cap, rfl, hc, h⟩
/-- A slice of samples that is not empty lies somewhere. -/
theorem USl.some {w : World} {v : Value} {l : List Nat} (h : USl w v l) (h1 : 1 ≤ l.length) : ∃ g o cap, v = .slice (some ⟨g, o, none⟩) l.length cap ∧ l.length ≤ cap ∧ UIs w g o l := by
  rcases h with ⟨g, o, cap, h1, h2, h3⟩ | ⟨a, c, h1, h2⟩
  · exact ⟨g, o, cap, h1, h2, h3⟩
  · subst h2; exact absurd h1 (by simp at *)

/-- A plane told by its places. -/
def tab (W H : Nat) (G : Nat → Nat → Nat) : List Nat := (List.range (W * H)).map fun i => G (i % W) (i / W)
theorem info_of {P : Program} {e : TypeId} {n b : Nat} {z : Value} (h1 : (P.info? e).map (fun i => (i.size, i.bytes)) = some (n, b)) (h2 : (P.info? e).bind (·.zero) = some z) : ∃ i, P.info? e = some i ∧ i.size = n ∧ i.bytes = b ∧ i.zero = some z := by
  cases h : P.info? e with
  | none => rw [h] at h1; cases h1
  | some i =>
    rw [h] at h1 h2
    have h1 : some (i.size, i.bytes) = some (n, b) := h1
    have h2 : i.zero = some z := h2
    injection h1 with h1
    injection h1 with h3 h4
    exact ⟨i, rfl, h3, h4, h2⟩
end Go.Proofs.YtmgpaheobhfioaaDoor
