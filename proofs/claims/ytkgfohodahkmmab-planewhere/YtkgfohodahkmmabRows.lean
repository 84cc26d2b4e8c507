/-
  No cell of these rows narrows 'for every input' (looked for: loops, veiled, ifaces, maps, wideKeys, modest, calm, conditions, laid).
  DERIVED. THE GIVEN ROWS OF THIS SEAT. 3 by the template 'for every input the law returns true; each argument reads behind the call as it read before'; 0 by the template 'total and deterministic' (their statements: YtkgfohodahkmmabTotals.lean).
  GIVEN WITH THE SEED: the statements are not yours to turn. If you find one false, say at which input.
  Laid BY PROGRAM, IN A SANDBOX (cutbox-rows.mjs): the forced cells as the released guide's own fill.sh prints them over the translation 977305d41027673f… (all of the seat's roots in one cut). By AI agents, Wed Nov 11 2026. No macro, syntax, notation, axiom, sorry.
-/
import Derived.Test.YtkgfohodahkmmabChecked
import GoSem.Claim
import GoSem.ClaimJoined
import GoSem.ClaimMapViews
import Derived.JoinedTies
import Derived.KernelRfl
namespace Go.Proofs.Ytkgfohodahkmmab
/- THE CELL 'sum', in the pinned program and in every row, IS THE sha256 OF THE DUMP (.gsa) THAT YtkgfohodahkmmabProg.lean LOADS. Nothing in Lean hashes anything: it is a label: what it is worth is what the hold of that sum in a sandbox is worth. -/
noncomputable def Try.pinned : Pinned := { name := "ytkgfohodahkmmab", sum := "977305d41027673f5ebd6fcd6633a748729d6ab9b593471adf6104ab58984169", checked := Try.checked }
namespace Rows
def none {H : Type} : Left H := { results := [], args := [] }

/-- 'halidelaw5.PlanePieces': WHATEVER THE INPUT: true; the input reads as it did. -/
def planePiecesSpec : ChangeSpec := { name := "planePieces", fn := fun _ => fun
  | [d1, d2, d3, d4, d5, d6] => { results := [.lit (.bool true)], args := [d1, d2, d3, d4, d5, d6] }
  | _ => none }
def planePiecesRow : OpenClaim := { program := "ytkgfohodahkmmab", sum := "977305d41027673f5ebd6fcd6633a748729d6ab9b593471adf6104ab58984169", func := "halide/halidelaw5.PlanePieces", spec := "planePieces", unfollowed := true, recurses := true, apart := false }
def PlanePiecesSaid : Prop := planePiecesRow.holds Try.pinned (OpenSpec.ofChange planePiecesSpec)

/-- ITS FALSE NEIGHBOUR: 'it returns false'. Refute it at one input. -/
def planePiecesWrong : ChangeSpec := { name := "planePieces", fn := fun _ => fun
  | [d1, d2, d3, d4, d5, d6] => { results := [.lit (.bool false)], args := [d1, d2, d3, d4, d5, d6] }
  | _ => none }
def PlanePiecesWrongFalsely : Prop := planePiecesRow.holds Try.pinned (OpenSpec.ofChange planePiecesWrong)

/-- 'halidelaw5.PlaneEdges': WHATEVER THE INPUT: true; the input reads as it did. -/
def planeEdgesSpec : ChangeSpec := { name := "planeEdges", fn := fun _ => fun
  | [d1, d2] => { results := [.lit (.bool true)], args := [d1, d2] }
  | _ => none }
def planeEdgesRow : OpenClaim := { program := "ytkgfohodahkmmab", sum := "977305d41027673f5ebd6fcd6633a748729d6ab9b593471adf6104ab58984169", func := "halide/halidelaw5.PlaneEdges", spec := "planeEdges", unfollowed := true, recurses := true, apart := false }
def PlaneEdgesSaid : Prop := planeEdgesRow.holds Try.pinned (OpenSpec.ofChange planeEdgesSpec)

/-- ITS FALSE NEIGHBOUR: 'it returns false'. Refute it at one input. -/
def planeEdgesWrong : ChangeSpec := { name := "planeEdges", fn := fun _ => fun
  | [d1, d2] => { results := [.lit (.bool false)], args := [d1, d2] }
  | _ => none }
def PlaneEdgesWrongFalsely : Prop := planeEdgesRow.holds Try.pinned (OpenSpec.ofChange planeEdgesWrong)

/-- 'halidelaw5.PlaneWhere': WHATEVER THE INPUT: true; the input reads as it did. -/
def planeWhereSpec : ChangeSpec := { name := "planeWhere", fn := fun _ => fun
  | [d1, d2] => { results := [.lit (.bool true)], args := [d1, d2] }
  | _ => none }
def planeWhereRow : OpenClaim := { program := "ytkgfohodahkmmab", sum := "977305d41027673f5ebd6fcd6633a748729d6ab9b593471adf6104ab58984169", func := "halide/halidelaw5.PlaneWhere", spec := "planeWhere", unfollowed := true, recurses := true, apart := false }
def PlaneWhereSaid : Prop := planeWhereRow.holds Try.pinned (OpenSpec.ofChange planeWhereSpec)

/-- ITS FALSE NEIGHBOUR: 'it returns false'. Refute it at one input. -/
def planeWhereWrong : ChangeSpec := { name := "planeWhere", fn := fun _ => fun
  | [d1, d2] => { results := [.lit (.bool false)], args := [d1, d2] }
  | _ => none }
def PlaneWhereWrongFalsely : Prop := planeWhereRow.holds Try.pinned (OpenSpec.ofChange planeWhereWrong)

/- THE SECOND FORM. 'bulk': how many values and letters a reading holds, each counted each time it is reached (what is shared counts as often as it is met; a slice's spare places count too). A statement '..UptoSaid' is the law's where the arguments, and the package variables that the reading takes, are together of bulk at most 1048576: NARROWER than '..Said'. Prove '..Said' where nothing that the law and all that it calls make is longer than what came in: it says more and counts as full. Else prove '..UptoSaid'. A law counts once. -/
mutual
def uptoBulk {H : Type} : DataW H → Nat
  | .lit (.string bytes) => bytes.length + 1
  | .lit _ => 1
  | .nil => 1
  | .ptr d => uptoBulk d + 1
  | .slice elems spare => uptoBulkAll elems + uptoBulkAll spare + 1
  | .agg parts => uptoBulkAll parts + 1
  | .iface _ d => uptoBulk d + 1
  | .map entries => uptoBulkEntries entries + 1
  | .held _ => 1
def uptoBulkAll {H : Type} : List (DataW H) → Nat
  | [] => 0
  | d :: r => uptoBulk d + uptoBulkAll r
def uptoBulkEntries {H : Type} : List (Lit × DataW H) → Nat
  | [] => 0
  | x :: r => uptoBulkEntry x + uptoBulkEntries r
def uptoBulkEntry {H : Type} : Lit × DataW H → Nat
  | (.string bytes, d) => bytes.length + uptoBulk d + 1
  | (_, d) => uptoBulk d + 1
 end
def uptoSmall : (H : Type) → List (DataW H) → Bool := fun _ ds => decide (uptoBulkAll ds ≤ 1048576)
def OpenSpec.upto (s : _root_.Go.ChangeSpec) : _root_.Go.OpenSpec := { _root_.Go.OpenSpec.ofChange s with cond := some uptoSmall }

/-- 'halidelaw5.PlanePieces', WHERE WHAT IT READS IS OF BULK AT MOST 1048576: true; the input reads as it did. -/
def planePiecesUptoRow : OpenClaim := { program := "ytkgfohodahkmmab", sum := "977305d41027673f5ebd6fcd6633a748729d6ab9b593471adf6104ab58984169", func := "halide/halidelaw5.PlanePieces", spec := "planePieces", unfollowed := true, recurses := true, apart := false, narrowed := true }
def PlanePiecesUptoSaid : Prop := planePiecesUptoRow.holds Try.pinned (OpenSpec.upto planePiecesSpec)

/-- 'halidelaw5.PlaneEdges', WHERE WHAT IT READS IS OF BULK AT MOST 1048576: true; the input reads as it did. -/
def planeEdgesUptoRow : OpenClaim := { program := "ytkgfohodahkmmab", sum := "977305d41027673f5ebd6fcd6633a748729d6ab9b593471adf6104ab58984169", func := "halide/halidelaw5.PlaneEdges", spec := "planeEdges", unfollowed := true, recurses := true, apart := false, narrowed := true }
def PlaneEdgesUptoSaid : Prop := planeEdgesUptoRow.holds Try.pinned (OpenSpec.upto planeEdgesSpec)

/-- 'halidelaw5.PlaneWhere', WHERE WHAT IT READS IS OF BULK AT MOST 1048576: true; the input reads as it did. -/
def planeWhereUptoRow : OpenClaim := { program := "ytkgfohodahkmmab", sum := "977305d41027673f5ebd6fcd6633a748729d6ab9b593471adf6104ab58984169", func := "halide/halidelaw5.PlaneWhere", spec := "planeWhere", unfollowed := true, recurses := true, apart := false, narrowed := true }
def PlaneWhereUptoSaid : Prop := planeWhereUptoRow.holds Try.pinned (OpenSpec.upto planeWhereSpec)

end Rows
end Go.Proofs.Ytkgfohodahkmmab
