/- A new Book, a new Room; planes in boxes. -/
import Derived.Test.YtkgfohodahkmmaaBkC
namespace Go.Proofs.Ytkgfohodahkmmaa
open Go.RowKit
set_option linter.unusedVariables false
set_option linter.unusedSimpArgs false

/-- A plane in a box. -/
structure IBox (w : World) (V : Nat) (W H : Int) (v : Value) : Prop where
  c0 : w.cell? ⟨V, 0, none⟩ = some (.int .i64 W)
  c1 : w.cell? ⟨V, 1, none⟩ = some (.int .i64 H)
  c2 : w.cell? ⟨V, 2, none⟩ = some v
theorem IBox.next {w w' : World} {V : Nat} {W H : Int} {v : Value} (h : IBox w V W H v) (q : Q w w') : IBox w' V W H v := ⟨q.cell h.c0, q.cell h.c1, q.cell h.c2⟩
theorem IBox.fr {w w' : World} {V : Nat} {W H : Int} {v : Value} {R : Nat → Prop} (h : IBox w V W H v) (f : Fr w w' R) (hR : R V) : IBox w' V W H v := ⟨f.cell h.c0 hR, f.cell h.c1 hR, f.cell h.c2 hR⟩
theorem usl_fr {w w' : World} {v : Value} {S : List Nat} {R : Nat → Prop} (h : USl w v S) (f : Fr w w' R) (hR : ∀ b, v.ownBlock = some b → R b) : USl w' v S := by
  rcases h with ⟨g, o, cap, h1, h2, h3⟩ | h
  · exact Or.inl ⟨g, o, cap, h1, h2, fun i hi => f.cell (h3 i hi) (hR g (by rw [h1]; rfl))⟩
  · exact Or.inr h
theorem New.blk {wp w : World} {v : Value} {n : Nat} (h : New wp w v n) {b : Nat} (hb : v.ownBlock = some b) : wp.heap.size ≤ b ∧ b < w.heap.size := by
  rcases h with ⟨rfl, _⟩ | ⟨g, rfl, h2, h3, _⟩
  · cases hb
  · injection hb with hb
    have hb : g = b := hb
    omega
/-- A Room that has lent nothing. -/
theorem room_new (w : World) : Rm w.heap.size (w.alloc (.cells #[.slice none 0 0, .slice none 0 0, .slice none 0 0, .slice none 0 0, .slice none 0 0, .slice none 0 0, .slice none 0 0, .slice none 0 0] 38)) w.heap.size (.slice none 0 0) (.slice none 0 0) [] :=
  ⟨by simp [go_sem], by simp [go_sem], by simp [go_sem], by simp [go_sem], by simp [go_sem], fun j => by simp [go_sem], Nat.le_refl _, World.ownsRow_nil _ _ _ _, World.ownsRow_nil _ _ _ _, fun h => (by cases h), fun h => (by cases h), fun b h => (by cases h), fun x h => (by cases h)⟩
/-- A Book that has kept nothing. -/
theorem book_new (w w0 : World) (h : w0.heap.size ≤ w.heap.size) : Bk (fun _ => False) w0.heap.size (w.alloc (.cells #[.slice none 0 0, .slice none 0 0, .slice none 0 0, .slice none 0 0, .slice none 0 0, .slice none 0 0, .slice none 0 0, .slice none 0 0] 35)) w.heap.size (.slice none 0 0) (.slice none 0 0) [] :=
  ⟨by simp [go_sem], by simp [go_sem], by simp [go_sem], by simp [go_sem], by simp [go_sem], fun j => by simp [go_sem], h, World.ownsRow_nil _ _ _ _, World.ownsRow_nil _ _ _ _, fun h => (by cases h), fun h => (by cases h), fun b h => (by cases h), fun x h => (by cases h), fun b h => (by cases h)⟩
/-- It leaves all else alone. -/
theorem Bk.all {base : Nat} {w : World} {k : Nat} (h : Bk (fun _ => False) base w k (.slice none 0 0) (.slice none 0 0) []) : Bk (fun b => b < w.heap.size ∧ b ≠ k) base w k (.slice none 0 0) (.slice none 0 0) [] :=
  h.more (fun b hb => Or.inr ⟨hb.1, fun hc => by
    rcases hc with e | e | e | ⟨x, hx, _⟩
    · exact hb.2 e
    · cases e
    · cases e
    · cases hx⟩)
end Go.Proofs.Ytkgfohodahkmmaa
