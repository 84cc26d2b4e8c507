/-
  No cell of these rows narrows 'for every input' (looked for: loops, veiled, ifaces, maps, wideKeys, modest, calm, conditions, laid).
  DERIVED. THE GIVEN ROWS OF THIS SEAT. 6 by the template 'for every input the law returns true; each argument reads behind the call as it read before'; 0 by the template 'total and deterministic' (their statements: YtgpkcclapkdndaaTotals.lean).
  GIVEN WITH THE SEED: the statements are not yours to turn. If you find one false, say at which input.
  Laid BY PROGRAM, IN A SANDBOX (cutbox-rows.mjs): the forced cells as the released guide's own fill.sh prints them over the translation 0bc6c0fd14894bf3… (all of the seat's roots in one cut). By AI agents, Wed Nov 11 2026. No macro, syntax, notation, axiom, sorry.
-/
import Derived.Test.YtgpkcclapkdndaaChecked
import GoSem.Claim
import GoSem.ClaimJoined
import GoSem.ClaimMapViews
import Derived.JoinedTies
import Derived.KernelRfl
namespace Go.Proofs.Ytgpkcclapkdndaa
/- THE CELL 'sum', in the pinned program and in every row, IS THE sha256 OF THE DUMP (.gsa) THAT YtgpkcclapkdndaaProg.lean LOADS. Nothing in Lean hashes anything: it is a label: what it is worth is what the hold of that sum in a sandbox is worth. -/
noncomputable def Try.pinned : Pinned := { name := "ytgpkcclapkdndaa", sum := "0bc6c0fd14894bf39a83594dc621746f580d977ae2c259c93d0adc7f89242ece", checked := Try.checked }
namespace Rows
def none {H : Type} : Left H := { results := [], args := [] }

/-- 'halidelaw2.ArithNames': WHATEVER THE INPUT: true; the input reads as it did. -/
def arithNamesSpec : ChangeSpec := { name := "arithNames", fn := fun _ => fun
  | [] => { results := [.lit (.bool true)], args := [] }
  | _ => none }
def arithNamesRow : OpenClaim := { program := "ytgpkcclapkdndaa", sum := "0bc6c0fd14894bf39a83594dc621746f580d977ae2c259c93d0adc7f89242ece", func := "halide/halidelaw2.ArithNames", spec := "arithNames", inPlace := ["math.Float32frombits", "math.Float32bits", "math.Float64bits", "math.Float64frombits", "math.sqrt", "math.archFloor", "math.archTrunc", "math.RoundToEven"], apart := false }
def ArithNamesSaid : Prop := arithNamesRow.holds Try.pinned (OpenSpec.ofChange arithNamesSpec)

/-- ITS FALSE NEIGHBOUR: 'it returns false'. Refute it at one input. -/
def arithNamesWrong : ChangeSpec := { name := "arithNames", fn := fun _ => fun
  | [] => { results := [.lit (.bool false)], args := [] }
  | _ => none }
def ArithNamesWrongFalsely : Prop := arithNamesRow.holds Try.pinned (OpenSpec.ofChange arithNamesWrong)

/-- 'halidelaw2.ArithFour': WHATEVER THE INPUT: true; the input reads as it did. -/
def arithFourSpec : ChangeSpec := { name := "arithFour", fn := fun _ => fun
  | [d1, d2] => { results := [.lit (.bool true)], args := [d1, d2] }
  | _ => none }
def arithFourRow : OpenClaim := { program := "ytgpkcclapkdndaa", sum := "0bc6c0fd14894bf39a83594dc621746f580d977ae2c259c93d0adc7f89242ece", func := "halide/halidelaw2.ArithFour", spec := "arithFour", inPlace := ["math.Float32frombits", "math.Float32bits", "math.Float64bits", "math.Float64frombits", "math.sqrt", "math.archFloor", "math.archTrunc", "math.RoundToEven"], apart := false }
def ArithFourSaid : Prop := arithFourRow.holds Try.pinned (OpenSpec.ofChange arithFourSpec)

/-- ITS FALSE NEIGHBOUR: 'it returns false'. Refute it at one input. -/
def arithFourWrong : ChangeSpec := { name := "arithFour", fn := fun _ => fun
  | [d1, d2] => { results := [.lit (.bool false)], args := [d1, d2] }
  | _ => none }
def ArithFourWrongFalsely : Prop := arithFourRow.holds Try.pinned (OpenSpec.ofChange arithFourWrong)

/-- 'halidelaw2.ArithFma': WHATEVER THE INPUT: true; the input reads as it did. -/
def arithFmaSpec : ChangeSpec := { name := "arithFma", fn := fun _ => fun
  | [d1, d2, d3] => { results := [.lit (.bool true)], args := [d1, d2, d3] }
  | _ => none }
def arithFmaRow : OpenClaim := { program := "ytgpkcclapkdndaa", sum := "0bc6c0fd14894bf39a83594dc621746f580d977ae2c259c93d0adc7f89242ece", func := "halide/halidelaw2.ArithFma", spec := "arithFma", inPlace := ["math.Float32frombits", "math.Float32bits", "math.Float64bits", "math.Float64frombits", "math.sqrt", "math.archFloor", "math.archTrunc", "math.RoundToEven"], apart := false }
def ArithFmaSaid : Prop := arithFmaRow.holds Try.pinned (OpenSpec.ofChange arithFmaSpec)

/-- ITS FALSE NEIGHBOUR: 'it returns false'. Refute it at one input. -/
def arithFmaWrong : ChangeSpec := { name := "arithFma", fn := fun _ => fun
  | [d1, d2, d3] => { results := [.lit (.bool false)], args := [d1, d2, d3] }
  | _ => none }
def ArithFmaWrongFalsely : Prop := arithFmaRow.holds Try.pinned (OpenSpec.ofChange arithFmaWrong)

/-- 'halidelaw2.ArithRoot': WHATEVER THE INPUT: true; the input reads as it did. -/
def arithRootSpec : ChangeSpec := { name := "arithRoot", fn := fun _ => fun
  | [d] => { results := [.lit (.bool true)], args := [d] }
  | _ => none }
def arithRootRow : OpenClaim := { program := "ytgpkcclapkdndaa", sum := "0bc6c0fd14894bf39a83594dc621746f580d977ae2c259c93d0adc7f89242ece", func := "halide/halidelaw2.ArithRoot", spec := "arithRoot", inPlace := ["math.Float32frombits", "math.Float32bits", "math.Float64bits", "math.Float64frombits", "math.sqrt", "math.archFloor", "math.archTrunc", "math.RoundToEven"], apart := false }
def ArithRootSaid : Prop := arithRootRow.holds Try.pinned (OpenSpec.ofChange arithRootSpec)

/-- ITS FALSE NEIGHBOUR: 'it returns false'. Refute it at one input. -/
def arithRootWrong : ChangeSpec := { name := "arithRoot", fn := fun _ => fun
  | [d] => { results := [.lit (.bool false)], args := [d] }
  | _ => none }
def ArithRootWrongFalsely : Prop := arithRootRow.holds Try.pinned (OpenSpec.ofChange arithRootWrong)

/-- 'halidelaw2.ArithScale': WHATEVER THE INPUT: true; the input reads as it did. -/
def arithScaleSpec : ChangeSpec := { name := "arithScale", fn := fun _ => fun
  | [d1, d2] => { results := [.lit (.bool true)], args := [d1, d2] }
  | _ => none }
def arithScaleRow : OpenClaim := { program := "ytgpkcclapkdndaa", sum := "0bc6c0fd14894bf39a83594dc621746f580d977ae2c259c93d0adc7f89242ece", func := "halide/halidelaw2.ArithScale", spec := "arithScale", inPlace := ["math.Float32frombits", "math.Float32bits", "math.Float64bits", "math.Float64frombits", "math.sqrt", "math.archFloor", "math.archTrunc", "math.RoundToEven"], apart := false }
def ArithScaleSaid : Prop := arithScaleRow.holds Try.pinned (OpenSpec.ofChange arithScaleSpec)

/-- ITS FALSE NEIGHBOUR: 'it returns false'. Refute it at one input. -/
def arithScaleWrong : ChangeSpec := { name := "arithScale", fn := fun _ => fun
  | [d1, d2] => { results := [.lit (.bool false)], args := [d1, d2] }
  | _ => none }
def ArithScaleWrongFalsely : Prop := arithScaleRow.holds Try.pinned (OpenSpec.ofChange arithScaleWrong)

/-- 'halidelaw2.ArithOrder': WHATEVER THE INPUT: true; the input reads as it did. -/
def arithOrderSpec : ChangeSpec := { name := "arithOrder", fn := fun _ => fun
  | [d1, d2] => { results := [.lit (.bool true)], args := [d1, d2] }
  | _ => none }
def arithOrderRow : OpenClaim := { program := "ytgpkcclapkdndaa", sum := "0bc6c0fd14894bf39a83594dc621746f580d977ae2c259c93d0adc7f89242ece", func := "halide/halidelaw2.ArithOrder", spec := "arithOrder", inPlace := ["math.Float32frombits", "math.Float32bits", "math.Float64bits", "math.Float64frombits", "math.sqrt", "math.archFloor", "math.archTrunc", "math.RoundToEven"], apart := false }
def ArithOrderSaid : Prop := arithOrderRow.holds Try.pinned (OpenSpec.ofChange arithOrderSpec)

/-- ITS FALSE NEIGHBOUR: 'it returns false'. Refute it at one input. -/
def arithOrderWrong : ChangeSpec := { name := "arithOrder", fn := fun _ => fun
  | [d1, d2] => { results := [.lit (.bool false)], args := [d1, d2] }
  | _ => none }
def ArithOrderWrongFalsely : Prop := arithOrderRow.holds Try.pinned (OpenSpec.ofChange arithOrderWrong)

/- THE SECOND FORM. 'bulk': how many values and letters a reading holds, each counted each time it is reached (what is shared counts as often as it is met; a slice's spare places count too). A statement '..UptoSaid' is the law's where the arguments, and the package variables that the reading takes, are together of bulk at most 1048576: NARROWER than '..Said'. Prove '..Said' where nothing that the law and all that it calls make is longer than what came in: it says more and counts as full. Else prove '..UptoSaid'. A law counts once. -/
mutual
def uptoBulk {H : Type} : DataW H → Nat
  | .lit (.string bytes) => bytes.length + 1
  | .lit _ => 1
  | .nil => 1
  | .ptr d => uptoBulk d + 1
  | .slice elems spare => uptoBulkAll elems + uptoBulkAll spare + 1
  | .agg parts => uptoBulkAll parts + 1
  | .iface _ d => uptoBulk d + 1
  | .map entries => uptoBulkEntries entries + 1
  | .held _ => 1
def uptoBulkAll {H : Type} : List (DataW H) → Nat
  | [] => 0
  | d :: r => uptoBulk d + uptoBulkAll r
def uptoBulkEntries {H : Type} : List (Lit × DataW H) → Nat
  | [] => 0
  | x :: r => uptoBulkEntry x + uptoBulkEntries r
def uptoBulkEntry {H : Type} : Lit × DataW H → Nat
  | (.string bytes, d) => bytes.length + uptoBulk d + 1
  | (_, d) => uptoBulk d + 1
 end
def uptoSmall : (H : Type) → List (DataW H) → Bool := fun _ ds => decide (uptoBulkAll ds ≤ 1048576)
def OpenSpec.upto (s : _root_.Go.ChangeSpec) : _root_.Go.OpenSpec := { _root_.Go.OpenSpec.ofChange s with cond := some uptoSmall }

/-- 'halidelaw2.ArithNames', WHERE WHAT IT READS IS OF BULK AT MOST 1048576: true; the input reads as it did. -/
def arithNamesUptoRow : OpenClaim := { program := "ytgpkcclapkdndaa", sum := "0bc6c0fd14894bf39a83594dc621746f580d977ae2c259c93d0adc7f89242ece", func := "halide/halidelaw2.ArithNames", spec := "arithNames", inPlace := ["math.Float32frombits", "math.Float32bits", "math.Float64bits", "math.Float64frombits", "math.sqrt", "math.archFloor", "math.archTrunc", "math.RoundToEven"], apart := false, narrowed := true }
def ArithNamesUptoSaid : Prop := arithNamesUptoRow.holds Try.pinned (OpenSpec.upto arithNamesSpec)

/-- 'halidelaw2.ArithFour', WHERE WHAT IT READS IS OF BULK AT MOST 1048576: true; the input reads as it did. -/
def arithFourUptoRow : OpenClaim := { program := "ytgpkcclapkdndaa", sum := "0bc6c0fd14894bf39a83594dc621746f580d977ae2c259c93d0adc7f89242ece", func := "halide/halidelaw2.ArithFour", spec := "arithFour", inPlace := ["math.Float32frombits", "math.Float32bits", "math.Float64bits", "math.Float64frombits", "math.sqrt", "math.archFloor", "math.archTrunc", "math.RoundToEven"], apart := false, narrowed := true }
def ArithFourUptoSaid : Prop := arithFourUptoRow.holds Try.pinned (OpenSpec.upto arithFourSpec)

/-- 'halidelaw2.ArithFma', WHERE WHAT IT READS IS OF BULK AT MOST 1048576: true; the input reads as it did. -/
def arithFmaUptoRow : OpenClaim := { program := "ytgpkcclapkdndaa", sum := "0bc6c0fd14894bf39a83594dc621746f580d977ae2c259c93d0adc7f89242ece", func := "halide/halidelaw2.ArithFma", spec := "arithFma", inPlace := ["math.Float32frombits", "math.Float32bits", "math.Float64bits", "math.Float64frombits", "math.sqrt", "math.archFloor", "math.archTrunc", "math.RoundToEven"], apart := false, narrowed := true }
def ArithFmaUptoSaid : Prop := arithFmaUptoRow.holds Try.pinned (OpenSpec.upto arithFmaSpec)

/-- 'halidelaw2.ArithRoot', WHERE WHAT IT READS IS OF BULK AT MOST 1048576: true; the input reads as it did. -/
def arithRootUptoRow : OpenClaim := { program := "ytgpkcclapkdndaa", sum := "0bc6c0fd14894bf39a83594dc621746f580d977ae2c259c93d0adc7f89242ece", func := "halide/halidelaw2.ArithRoot", spec := "arithRoot", inPlace := ["math.Float32frombits", "math.Float32bits", "math.Float64bits", "math.Float64frombits", "math.sqrt", "math.archFloor", "math.archTrunc", "math.RoundToEven"], apart := false, narrowed := true }
def ArithRootUptoSaid : Prop := arithRootUptoRow.holds Try.pinned (OpenSpec.upto arithRootSpec)

/-- 'halidelaw2.ArithScale', WHERE WHAT IT READS IS OF BULK AT MOST 1048576: true; the input reads as it did. -/
def arithScaleUptoRow : OpenClaim := { program := "ytgpkcclapkdndaa", sum := "0bc6c0fd14894bf39a83594dc621746f580d977ae2c259c93d0adc7f89242ece", func := "halide/halidelaw2.ArithScale", spec := "arithScale", inPlace := ["math.Float32frombits", "math.Float32bits", "math.Float64bits", "math.Float64frombits", "math.sqrt", "math.archFloor", "math.archTrunc", "math.RoundToEven"], apart := false, narrowed := true }
def ArithScaleUptoSaid : Prop := arithScaleUptoRow.holds Try.pinned (OpenSpec.upto arithScaleSpec)

/-- 'halidelaw2.ArithOrder', WHERE WHAT IT READS IS OF BULK AT MOST 1048576: true; the input reads as it did. -/
def arithOrderUptoRow : OpenClaim := { program := "ytgpkcclapkdndaa", sum := "0bc6c0fd14894bf39a83594dc621746f580d977ae2c259c93d0adc7f89242ece", func := "halide/halidelaw2.ArithOrder", spec := "arithOrder", inPlace := ["math.Float32frombits", "math.Float32bits", "math.Float64bits", "math.Float64frombits", "math.sqrt", "math.archFloor", "math.archTrunc", "math.RoundToEven"], apart := false, narrowed := true }
def ArithOrderUptoSaid : Prop := arithOrderUptoRow.holds Try.pinned (OpenSpec.upto arithOrderSpec)

end Rows
end Go.Proofs.Ytgpkcclapkdndaa
