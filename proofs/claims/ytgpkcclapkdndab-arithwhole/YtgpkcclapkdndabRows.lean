/-
  No cell of these rows narrows 'for every input' (looked for: loops, veiled, ifaces, maps, wideKeys, modest, calm, conditions, laid).
  DERIVED. THE GIVEN ROWS OF THIS SEAT. 6 by the template 'for every input the law returns true; each argument reads behind the call as it read before'; 0 by the template 'total and deterministic' (their statements: YtgpkcclapkdndabTotals.lean).
  GIVEN WITH THE SEED: the statements are not yours to turn. If you find one false, say at which input.
  Laid BY PROGRAM, IN A SANDBOX (cutbox-rows.mjs): the forced cells as the released guide's own fill.sh prints them over the translation 15ed2d69f04be7c2… (all of the seat's roots in one cut). By AI agents, Wed Nov 11 2026. No macro, syntax, notation, axiom, sorry.
-/
import Derived.Test.YtgpkcclapkdndabChecked
import GoSem.Claim
import GoSem.ClaimJoined
import GoSem.ClaimMapViews
import Derived.JoinedTies
import Derived.KernelRfl
namespace Go.Proofs.Ytgpkcclapkdndab
/- THE CELL 'sum', in the pinned program and in every row, IS THE sha256 OF THE DUMP (.gsa) THAT YtgpkcclapkdndabProg.lean LOADS. Nothing in Lean hashes anything: it is a label: what it is worth is what the hold of that sum in a sandbox is worth. -/
noncomputable def Try.pinned : Pinned := { name := "ytgpkcclapkdndab", sum := "15ed2d69f04be7c2d48c9fa201747a0bc6be1bfab4cf1a16f0de7a085a11913b", checked := Try.checked }
namespace Rows
def none {H : Type} : Left H := { results := [], args := [] }

/-- 'halidelaw2.ArithWhole': WHATEVER THE INPUT: true; the input reads as it did. -/
def arithWholeSpec : ChangeSpec := { name := "arithWhole", fn := fun _ => fun
  | [d1, d2] => { results := [.lit (.bool true)], args := [d1, d2] }
  | _ => none }
def arithWholeRow : OpenClaim := { program := "ytgpkcclapkdndab", sum := "15ed2d69f04be7c2d48c9fa201747a0bc6be1bfab4cf1a16f0de7a085a11913b", func := "halide/halidelaw2.ArithWhole", spec := "arithWhole", inPlace := ["math.Float32frombits", "math.Float32bits", "math.Float64bits", "math.Float64frombits", "math.sqrt", "math.archFloor", "math.archTrunc", "math.RoundToEven"], apart := false }
def ArithWholeSaid : Prop := arithWholeRow.holds Try.pinned (OpenSpec.ofChange arithWholeSpec)

/-- ITS FALSE NEIGHBOUR: 'it returns false'. Refute it at one input. -/
def arithWholeWrong : ChangeSpec := { name := "arithWhole", fn := fun _ => fun
  | [d1, d2] => { results := [.lit (.bool false)], args := [d1, d2] }
  | _ => none }
def ArithWholeWrongFalsely : Prop := arithWholeRow.holds Try.pinned (OpenSpec.ofChange arithWholeWrong)

/-- 'halidelaw2.ArithWide': WHATEVER THE INPUT: true; the input reads as it did. -/
def arithWideSpec : ChangeSpec := { name := "arithWide", fn := fun _ => fun
  | [d1, d2] => { results := [.lit (.bool true)], args := [d1, d2] }
  | _ => none }
def arithWideRow : OpenClaim := { program := "ytgpkcclapkdndab", sum := "15ed2d69f04be7c2d48c9fa201747a0bc6be1bfab4cf1a16f0de7a085a11913b", func := "halide/halidelaw2.ArithWide", spec := "arithWide", inPlace := ["math.Float32frombits", "math.Float32bits", "math.Float64bits", "math.Float64frombits", "math.sqrt", "math.archFloor", "math.archTrunc", "math.RoundToEven"], apart := false }
def ArithWideSaid : Prop := arithWideRow.holds Try.pinned (OpenSpec.ofChange arithWideSpec)

/-- ITS FALSE NEIGHBOUR: 'it returns false'. Refute it at one input. -/
def arithWideWrong : ChangeSpec := { name := "arithWide", fn := fun _ => fun
  | [d1, d2] => { results := [.lit (.bool false)], args := [d1, d2] }
  | _ => none }
def ArithWideWrongFalsely : Prop := arithWideRow.holds Try.pinned (OpenSpec.ofChange arithWideWrong)

/-- 'halidelaw2.ArithNear': WHATEVER THE INPUT: true; the input reads as it did. -/
def arithNearSpec : ChangeSpec := { name := "arithNear", fn := fun _ => fun
  | [d1, d2, d3] => { results := [.lit (.bool true)], args := [d1, d2, d3] }
  | _ => none }
def arithNearRow : OpenClaim := { program := "ytgpkcclapkdndab", sum := "15ed2d69f04be7c2d48c9fa201747a0bc6be1bfab4cf1a16f0de7a085a11913b", func := "halide/halidelaw2.ArithNear", spec := "arithNear", inPlace := ["math.Float32frombits", "math.Float32bits", "math.Float64bits", "math.Float64frombits", "math.sqrt", "math.archFloor", "math.archTrunc", "math.RoundToEven"], apart := false }
def ArithNearSaid : Prop := arithNearRow.holds Try.pinned (OpenSpec.ofChange arithNearSpec)

/-- ITS FALSE NEIGHBOUR: 'it returns false'. Refute it at one input. -/
def arithNearWrong : ChangeSpec := { name := "arithNear", fn := fun _ => fun
  | [d1, d2, d3] => { results := [.lit (.bool false)], args := [d1, d2, d3] }
  | _ => none }
def ArithNearWrongFalsely : Prop := arithNearRow.holds Try.pinned (OpenSpec.ofChange arithNearWrong)

/-- 'halidelaw2.ArithSides': WHATEVER THE INPUT: true; the input reads as it did. -/
def arithSidesSpec : ChangeSpec := { name := "arithSides", fn := fun _ => fun
  | [d1, d2] => { results := [.lit (.bool true)], args := [d1, d2] }
  | _ => none }
def arithSidesRow : OpenClaim := { program := "ytgpkcclapkdndab", sum := "15ed2d69f04be7c2d48c9fa201747a0bc6be1bfab4cf1a16f0de7a085a11913b", func := "halide/halidelaw2.ArithSides", spec := "arithSides", inPlace := ["math.Float32frombits", "math.Float32bits", "math.Float64bits", "math.Float64frombits", "math.sqrt", "math.archFloor", "math.archTrunc", "math.RoundToEven"], apart := false }
def ArithSidesSaid : Prop := arithSidesRow.holds Try.pinned (OpenSpec.ofChange arithSidesSpec)

/-- ITS FALSE NEIGHBOUR: 'it returns false'. Refute it at one input. -/
def arithSidesWrong : ChangeSpec := { name := "arithSides", fn := fun _ => fun
  | [d1, d2] => { results := [.lit (.bool false)], args := [d1, d2] }
  | _ => none }
def ArithSidesWrongFalsely : Prop := arithSidesRow.holds Try.pinned (OpenSpec.ofChange arithSidesWrong)

/-- 'halidelaw2.ArithRises': WHATEVER THE INPUT: true; the input reads as it did. -/
def arithRisesSpec : ChangeSpec := { name := "arithRises", fn := fun _ => fun
  | [d1, d2, d3] => { results := [.lit (.bool true)], args := [d1, d2, d3] }
  | _ => none }
def arithRisesRow : OpenClaim := { program := "ytgpkcclapkdndab", sum := "15ed2d69f04be7c2d48c9fa201747a0bc6be1bfab4cf1a16f0de7a085a11913b", func := "halide/halidelaw2.ArithRises", spec := "arithRises", inPlace := ["math.Float32frombits", "math.Float32bits", "math.Float64bits", "math.Float64frombits", "math.sqrt", "math.archFloor", "math.archTrunc", "math.RoundToEven"], apart := false }
def ArithRisesSaid : Prop := arithRisesRow.holds Try.pinned (OpenSpec.ofChange arithRisesSpec)

/-- ITS FALSE NEIGHBOUR: 'it returns false'. Refute it at one input. -/
def arithRisesWrong : ChangeSpec := { name := "arithRises", fn := fun _ => fun
  | [d1, d2, d3] => { results := [.lit (.bool false)], args := [d1, d2, d3] }
  | _ => none }
def ArithRisesWrongFalsely : Prop := arithRisesRow.holds Try.pinned (OpenSpec.ofChange arithRisesWrong)

/-- 'halidelaw2.ArithInts': WHATEVER THE INPUT: true; the input reads as it did. -/
def arithIntsSpec : ChangeSpec := { name := "arithInts", fn := fun _ => fun
  | [d1, d2] => { results := [.lit (.bool true)], args := [d1, d2] }
  | _ => none }
def arithIntsRow : OpenClaim := { program := "ytgpkcclapkdndab", sum := "15ed2d69f04be7c2d48c9fa201747a0bc6be1bfab4cf1a16f0de7a085a11913b", func := "halide/halidelaw2.ArithInts", spec := "arithInts", inPlace := ["math.Float32frombits", "math.Float32bits", "math.Float64bits", "math.Float64frombits", "math.sqrt", "math.archFloor", "math.archTrunc", "math.RoundToEven"], apart := false }
def ArithIntsSaid : Prop := arithIntsRow.holds Try.pinned (OpenSpec.ofChange arithIntsSpec)

/-- ITS FALSE NEIGHBOUR: 'it returns false'. Refute it at one input. -/
def arithIntsWrong : ChangeSpec := { name := "arithInts", fn := fun _ => fun
  | [d1, d2] => { results := [.lit (.bool false)], args := [d1, d2] }
  | _ => none }
def ArithIntsWrongFalsely : Prop := arithIntsRow.holds Try.pinned (OpenSpec.ofChange arithIntsWrong)

/- THE SECOND FORM. 'bulk': how many values and letters a reading holds, each counted each time it is reached (what is shared counts as often as it is met; a slice's spare places count too). A statement '..UptoSaid' is the law's where the arguments, and the package variables that the reading takes, are together of bulk at most 1048576: NARROWER than '..Said'. Prove '..Said' where nothing that the law and all that it calls make is longer than what came in: it says more and counts as full. Else prove '..UptoSaid'. A law counts once. -/
mutual
def uptoBulk {H : Type} : DataW H → Nat
  | .lit (.string bytes) => bytes.length + 1
  | .lit _ => 1
  | .nil => 1
  | .ptr d => uptoBulk d + 1
  | .slice elems spare => uptoBulkAll elems + uptoBulkAll spare + 1
  | .agg parts => uptoBulkAll parts + 1
  | .iface _ d => uptoBulk d + 1
  | .map entries => uptoBulkEntries entries + 1
  | .held _ => 1
def uptoBulkAll {H : Type} : List (DataW H) → Nat
  | [] => 0
  | d :: r => uptoBulk d + uptoBulkAll r
def uptoBulkEntries {H : Type} : List (Lit × DataW H) → Nat
  | [] => 0
  | x :: r => uptoBulkEntry x + uptoBulkEntries r
def uptoBulkEntry {H : Type} : Lit × DataW H → Nat
  | (.string bytes, d) => bytes.length + uptoBulk d + 1
  | (_, d) => uptoBulk d + 1
 end
def uptoSmall : (H : Type) → List (DataW H) → Bool := fun _ ds => decide (uptoBulkAll ds ≤ 1048576)
def OpenSpec.upto (s : _root_.Go.ChangeSpec) : _root_.Go.OpenSpec := { _root_.Go.OpenSpec.ofChange s with cond := some uptoSmall }

/-- 'halidelaw2.ArithWhole', WHERE WHAT IT READS IS OF BULK AT MOST 1048576: true; the input reads as it did. -/
def arithWholeUptoRow : OpenClaim := { program := "ytgpkcclapkdndab", sum := "15ed2d69f04be7c2d48c9fa201747a0bc6be1bfab4cf1a16f0de7a085a11913b", func := "halide/halidelaw2.ArithWhole", spec := "arithWhole", inPlace := ["math.Float32frombits", "math.Float32bits", "math.Float64bits", "math.Float64frombits", "math.sqrt", "math.archFloor", "math.archTrunc", "math.RoundToEven"], apart := false, narrowed := true }
def ArithWholeUptoSaid : Prop := arithWholeUptoRow.holds Try.pinned (OpenSpec.upto arithWholeSpec)

/-- 'halidelaw2.ArithWide', WHERE WHAT IT READS IS OF BULK AT MOST 1048576: true; the input reads as it did. -/
def arithWideUptoRow : OpenClaim := { program := "ytgpkcclapkdndab", sum := "15ed2d69f04be7c2d48c9fa201747a0bc6be1bfab4cf1a16f0de7a085a11913b", func := "halide/halidelaw2.ArithWide", spec := "arithWide", inPlace := ["math.Float32frombits", "math.Float32bits", "math.Float64bits", "math.Float64frombits", "math.sqrt", "math.archFloor", "math.archTrunc", "math.RoundToEven"], apart := false, narrowed := true }
def ArithWideUptoSaid : Prop := arithWideUptoRow.holds Try.pinned (OpenSpec.upto arithWideSpec)

/-- 'halidelaw2.ArithNear', WHERE WHAT IT READS IS OF BULK AT MOST 1048576: true; the input reads as it did. -/
def arithNearUptoRow : OpenClaim := { program := "ytgpkcclapkdndab", sum := "15ed2d69f04be7c2d48c9fa201747a0bc6be1bfab4cf1a16f0de7a085a11913b", func := "halide/halidelaw2.ArithNear", spec := "arithNear", inPlace := ["math.Float32frombits", "math.Float32bits", "math.Float64bits", "math.Float64frombits", "math.sqrt", "math.archFloor", "math.archTrunc", "math.RoundToEven"], apart := false, narrowed := true }
def ArithNearUptoSaid : Prop := arithNearUptoRow.holds Try.pinned (OpenSpec.upto arithNearSpec)

/-- 'halidelaw2.ArithSides', WHERE WHAT IT READS IS OF BULK AT MOST 1048576: true; the input reads as it did. -/
def arithSidesUptoRow : OpenClaim := { program := "ytgpkcclapkdndab", sum := "15ed2d69f04be7c2d48c9fa201747a0bc6be1bfab4cf1a16f0de7a085a11913b", func := "halide/halidelaw2.ArithSides", spec := "arithSides", inPlace := ["math.Float32frombits", "math.Float32bits", "math.Float64bits", "math.Float64frombits", "math.sqrt", "math.archFloor", "math.archTrunc", "math.RoundToEven"], apart := false, narrowed := true }
def ArithSidesUptoSaid : Prop := arithSidesUptoRow.holds Try.pinned (OpenSpec.upto arithSidesSpec)

/-- 'halidelaw2.ArithRises', WHERE WHAT IT READS IS OF BULK AT MOST 1048576: true; the input reads as it did. -/
def arithRisesUptoRow : OpenClaim := { program := "ytgpkcclapkdndab", sum := "15ed2d69f04be7c2d48c9fa201747a0bc6be1bfab4cf1a16f0de7a085a11913b", func := "halide/halidelaw2.ArithRises", spec := "arithRises", inPlace := ["math.Float32frombits", "math.Float32bits", "math.Float64bits", "math.Float64frombits", "math.sqrt", "math.archFloor", "math.archTrunc", "math.RoundToEven"], apart := false, narrowed := true }
def ArithRisesUptoSaid : Prop := arithRisesUptoRow.holds Try.pinned (OpenSpec.upto arithRisesSpec)

/-- 'halidelaw2.ArithInts', WHERE WHAT IT READS IS OF BULK AT MOST 1048576: true; the input reads as it did. -/
def arithIntsUptoRow : OpenClaim := { program := "ytgpkcclapkdndab", sum := "15ed2d69f04be7c2d48c9fa201747a0bc6be1bfab4cf1a16f0de7a085a11913b", func := "halide/halidelaw2.ArithInts", spec := "arithInts", inPlace := ["math.Float32frombits", "math.Float32bits", "math.Float64bits", "math.Float64frombits", "math.sqrt", "math.archFloor", "math.archTrunc", "math.RoundToEven"], apart := false, narrowed := true }
def ArithIntsUptoSaid : Prop := arithIntsUptoRow.holds Try.pinned (OpenSpec.upto arithIntsSpec)

end Rows
end Go.Proofs.Ytgpkcclapkdndab
