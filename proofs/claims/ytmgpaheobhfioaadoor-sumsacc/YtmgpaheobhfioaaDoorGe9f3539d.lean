/- Regions that draw their order, whose operations read and whose callees may lay blocks of their own: one walk in the order of the text. -/
import Derived.Test.YtmgpaheobhfioaaDoorG3bfe62d6
import Derived.Deep.QuietTactic
import Derived.BigQuiet
namespace Go.Proofs.YtmgpaheobhfioaaDoor
open Go.RowKit

/-- A world in which all that w has lies as it did. -/
structure QW (w : World) where
  x : World
  q : Q w x
theorem qw_some (w : World) : Nonempty (QW w) := ⟨⟨w, Q.refl w⟩⟩
theorem wp_region_quiet_Q {P : Program} {id : Nat} {R : Exit → Act → World → Prop} {a : Act} {w : World} {l : List Oper} (hm : P.follows .mixedOrders = true) (hB : Region.lexB .any l.toArray = true)
    (h : wpQuiet P l.toArray (fun w' => ∃ n : QW w, w' = n.x) (fun a' => ∀ w', (∃ n : QW w, w' = n.x) → R .normal a' w') l a) : (Code.region id l.toArray true).wp P R a w :=
  wp_region_quiet (C := fun w' => ∃ n : QW w, w' = n.x) hm hB ⟨⟨w.drew, (Q.refl w).drew⟩, rfl⟩ (by simpa using h)
theorem calls_qw {P : Program} {f : FuncId} {args : Array Value} {w : World} {n : QW w} {v : Value}
    (h : Calls P f args n.x fun e w' => e = .returned v ∧ Q n.x w') : Calls P f args n.x fun e w'' => e = .returned v ∧ ∃ m : QW w, w'' = m.x :=
  h.mono fun _ w' ⟨he, hq⟩ => ⟨he, ⟨w', n.q.trans hq⟩, rfl⟩
theorem calls_qs {P : Program} {f : FuncId} {args : Array Value} {w : World} {n : QW w} {v : Value}
    (h : Calls P f args n.x fun e w' => e = .returned v ∧ w' = n.x) : Calls P f args n.x fun e w'' => e = .returned v ∧ ∃ m : QW w, w'' = m.x :=
  h.mono fun _ _ ⟨he, hq⟩ => ⟨he, n, hq⟩
theorem qw_cell {w : World} {a : Addr} {v : Value} (h : w.cell? a = some v) : ∀ n : QW w, n.x.cell? a = some v := fun n => n.q.cell h
theorem qw_out {w w' : World} (h : ∃ n : QW w, w' = n.x) : Q w w' := by
  obtain ⟨n, rfl⟩ := h; exact n.q
end Go.Proofs.YtmgpaheobhfioaaDoor
