/- What a curve's At answers. -/
import Derived.Test.YtmfniimelibhfaaG1884df29
import Derived.Test.YtmfniimelibhfaaG3aa9d6fe
import Derived.Shelf.Abstract
namespace Go.Proofs.Ytmfniimelibhfaa
open Go.RowKit

/-- The x and the y of a knot. -/
def kx (l : List (Nat × Nat)) (i : Nat) : Nat := (l.getD i (0, 0)).1
def ky (l : List (Nat × Nat)) (i : Nat) : Nat := (l.getD i (0, 0)).2
theorem Q.drewN {a b : World} (h : Q a b) (n : Nat) : Q a (b.drewN n) := by
  induction n with
  | zero => exact h
  | succ n ih => exact ih.drew
/-- n knots lie in memory, from an address on. -/
def KIs (w : World) (g o : Nat) (l : List (Nat × Nat)) : Prop :=
  ∀ i, i < l.length → w.cell? ⟨g, o + i * 2, none⟩ = some (.int .u32 (kx l i)) ∧ w.cell? ⟨g, o + i * 2 + 1, none⟩ = some (.int .u32 (ky l i))
theorem KIs.next {w w' : World} {g o : Nat} {l : List (Nat × Nat)} (h : KIs w g o l) (q : Q w w') : KIs w' g o l :=
  fun i hi => ⟨q.cell (h i hi).1, q.cell (h i hi).2⟩
def lessB (a b : Nat) : Bool := Ieee.single.order a b == some Ordering.lt
def equalB (a b : Nat) : Bool := Ieee.single.order a b == some Ordering.eq
theorem less_any (a b : Nat) (w : World) : Calls Try.prog 40 #[.int .u32 (a : Int), .int .u32 (b : Int)] w fun e w' => e = .returned (.bool (lessB a b)) ∧ w' = w := cless_any a b w
theorem equal_any (a b : Nat) (w : World) : Calls Try.prog 41 #[.int .u32 (a : Int), .int .u32 (b : Int)] w fun e w' => e = .returned (.bool (equalB a b)) ∧ w' = w := cequal_any a b w

set_option maxHeartbeats 1000000 in
theorem atc_any (b o g o' cap bx bp : Nat) (l : List (Nat × Nat)) (x i : Nat) (hi : i < l.length) (w : World)
    (hx : w.cell? ⟨bx, 0, none⟩ = some (.int .u32 x)) (hp : w.cell? ⟨bp, 0, none⟩ = some (.pointer (some ⟨b, o, none⟩))) (hc : w.cell? ⟨b, o, none⟩ = some (.slice (some ⟨g, o', none⟩) l.length cap)) (hk : KIs w g o' l) :
    Calls Try.prog 39 (#[.int .i64 i] ++ #[.pointer (some ⟨bx, 0, none⟩), .pointer (some ⟨bp, 0, none⟩)]) w fun e w' => e = .returned (.bool (lessB x (kx l i))) ∧ Q w w' := by
  have hk1 := (hk i hi).1
  have hi0 : (0 : Int) ≤ (i : Int) := by omega
  have hi1 : (i : Int) < (l.length : Int) := by omega
  clear hk
  go_enter Try.func39, Try.ntmps39
  go_wp2_with fail
  go_quiet ((go_at_call 40; exact Calls.quiet_of_same (less_any _ _ _)))
  go_wp2_with fail
  go_ret
  exact ⟨rfl, (Q.refl _).drewN _⟩
end Go.Proofs.Ytmfniimelibhfaa
