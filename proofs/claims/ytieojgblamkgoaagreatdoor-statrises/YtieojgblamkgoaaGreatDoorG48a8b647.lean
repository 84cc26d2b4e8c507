/- Digits of 32 bits, and how a whole number lies in memory; what the reference's trimmed does. -/
import Derived.Test.YtieojgblamkgoaaGreatDoorRows
import Derived.WalkKit
import Derived.WalkSpells
import Derived.WalkLawsBesides
import Derived.Deep.OwnRows
import Derived.Deep.LoopGhost
import Derived.Deep.Light
import Derived.Laws.BitsAll
namespace Go.Proofs.YtieojgblamkgoaaGreatDoor
open Go.RowKit

/-- The world may have new blocks; what was there is as it was. -/
def Q (w w' : World) : Prop := Below w.heap.size w w' ∧ ∀ a, w'.frozen? a = w.frozen? a
theorem Q.refl (w : World) : Q w w := ⟨Below.refl _ _, fun _ => rfl⟩
theorem Q.trans {a b c : World} (h : Q a b) (k : Q b c) : Q a c := ⟨h.1.trans (k.1.mono h.1.size), fun x => (k.2 x).trans (h.2 x)⟩
theorem Q.cells {a b : World} (h : Q a b) (c : Array Value) (t : TypeId) : Q a (b.alloc (.cells c t)) :=
  ⟨h.1.alloc h.1.size _, fun x => (frozen?_alloc_cells _ _ _ x).trans (h.2 x)⟩
theorem Q.set {a b : World} (h : Q a b) {p : Addr} (hp : a.heap.size ≤ p.block) (v : Value) : Q a (b.setCell p v) :=
  ⟨h.1.setCell hp v, fun x => (World.frozen?_setCell _ _ _ _).trans (h.2 x)⟩
theorem Q.drew {a b : World} (h : Q a b) : Q a b.drew := ⟨h.1.drew, h.2⟩
theorem Q.cell {a b : World} (h : Q a b) {p : Addr} {v : Value} (hc : a.cell? p = some v) : b.cell? p = some v := by
  rw [h.1.cell (World.block_lt_of_cell? _ _ hc)]; exact hc
/-- No number of the reference comes near it. -/
def capLen : Nat := 390
def cap : Nat := 4294967296 ^ capLen
theorem ret_int {k : IntKind} {a b : Int} (h : a = b) : Ending.returned (.int k a) = .returned (.int k b) := by rw [h]
/-- Is a sample a NaN? -/
def nanN (a : Nat) : Bool := decide (2139095040 < a % 2147483648)
end Go.Proofs.YtieojgblamkgoaaGreatDoor
/- What the reference's Plus and Minus return of whole numbers in memory. -/
namespace Go.Proofs.YtieojgblamkgoaaGreatDoor
open Go.RowKit

theorem and_mask (s : Int) (h0 : 0 ≤ s) (h1 : s ≤ 18446744073709551615) : bits .and .u64 s 4294967295 = s % 4294967296 := by go_bits2

end Go.Proofs.YtieojgblamkgoaaGreatDoor
