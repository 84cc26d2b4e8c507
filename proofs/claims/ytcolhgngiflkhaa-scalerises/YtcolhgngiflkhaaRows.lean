/-
  No cell of these rows narrows 'for every input' (looked for: loops, veiled, ifaces, maps, wideKeys, modest, calm, conditions, laid).
  DERIVED. THE GIVEN ROWS OF THIS SEAT. 3 by the template 'for every input the law returns true; each argument reads behind the call as it read before'; 0 by the template 'total and deterministic' (their statements: YtcolhgngiflkhaaTotals.lean).
  GIVEN WITH THE SEED: the statements are not yours to turn. If you find one false, say at which input.
  Laid BY PROGRAM, IN A SANDBOX (cutbox-rows.mjs): the forced cells as the released guide's own fill.sh prints them over the translation f1517f009fe016c8… (all of the seat's roots in one cut). By AI agents, Wed Nov 11 2026. No macro, syntax, notation, axiom, sorry.
-/
import Derived.Test.YtcolhgngiflkhaaChecked
import GoSem.Claim
import GoSem.ClaimJoined
import GoSem.ClaimMapViews
import Derived.JoinedTies
import Derived.KernelRfl
namespace Go.Proofs.Ytcolhgngiflkhaa
/- THE CELL 'sum', in the pinned program and in every row, IS THE sha256 OF THE DUMP (.gsa) THAT YtcolhgngiflkhaaProg.lean LOADS. Nothing in Lean hashes anything: it is a label: what it is worth is what the hold of that sum in a sandbox is worth. -/
noncomputable def Try.pinned : Pinned := { name := "ytcolhgngiflkhaa", sum := "f1517f009fe016c840130c5da40801f417d2ef2cba2d0f5b90db523b9a1b7b79", checked := Try.checked }
namespace Rows
def none {H : Type} : Left H := { results := [], args := [] }

/-- 'halidelaw10.ScaleExtremes': WHATEVER THE INPUT: true; the input reads as it did. -/
def scaleExtremesSpec : ChangeSpec := { name := "scaleExtremes", fn := fun _ => fun
  | [d1, d2, d3, d4] => { results := [.lit (.bool true)], args := [d1, d2, d3, d4] }
  | _ => none }
def scaleExtremesRow : OpenClaim := { program := "ytcolhgngiflkhaa", sum := "f1517f009fe016c840130c5da40801f417d2ef2cba2d0f5b90db523b9a1b7b79", func := "halide/halidelaw10.ScaleExtremes", spec := "scaleExtremes", inPlace := ["math.Float64bits", "math.Float64frombits", "math.Float32frombits", "math.Float32bits"], unfollowed := true, recurses := true, apart := false }
def ScaleExtremesSaid : Prop := scaleExtremesRow.holds Try.pinned (OpenSpec.ofChange scaleExtremesSpec)

/-- ITS FALSE NEIGHBOUR: 'it returns false'. Refute it at one input. -/
def scaleExtremesWrong : ChangeSpec := { name := "scaleExtremes", fn := fun _ => fun
  | [d1, d2, d3, d4] => { results := [.lit (.bool false)], args := [d1, d2, d3, d4] }
  | _ => none }
def ScaleExtremesWrongFalsely : Prop := scaleExtremesRow.holds Try.pinned (OpenSpec.ofChange scaleExtremesWrong)

/-- 'halidelaw10.ScaleRises': WHATEVER THE INPUT: true; the input reads as it did. -/
def scaleRisesSpec : ChangeSpec := { name := "scaleRises", fn := fun _ => fun
  | [d1, d2, d3, d4, d5] => { results := [.lit (.bool true)], args := [d1, d2, d3, d4, d5] }
  | _ => none }
def scaleRisesRow : OpenClaim := { program := "ytcolhgngiflkhaa", sum := "f1517f009fe016c840130c5da40801f417d2ef2cba2d0f5b90db523b9a1b7b79", func := "halide/halidelaw10.ScaleRises", spec := "scaleRises", inPlace := ["math.Float64bits", "math.Float64frombits", "math.Float32frombits", "math.Float32bits"], unfollowed := true, recurses := true, apart := false }
def ScaleRisesSaid : Prop := scaleRisesRow.holds Try.pinned (OpenSpec.ofChange scaleRisesSpec)

/-- ITS FALSE NEIGHBOUR: 'it returns false'. Refute it at one input. -/
def scaleRisesWrong : ChangeSpec := { name := "scaleRises", fn := fun _ => fun
  | [d1, d2, d3, d4, d5] => { results := [.lit (.bool false)], args := [d1, d2, d3, d4, d5] }
  | _ => none }
def ScaleRisesWrongFalsely : Prop := scaleRisesRow.holds Try.pinned (OpenSpec.ofChange scaleRisesWrong)

/-- 'halidelaw10.ScaleSame': WHATEVER THE INPUT: true; the input reads as it did. -/
def scaleSameSpec : ChangeSpec := { name := "scaleSame", fn := fun _ => fun
  | [d1, d2, d3, d4, d5, d6, d7] => { results := [.lit (.bool true)], args := [d1, d2, d3, d4, d5, d6, d7] }
  | _ => none }
def scaleSameRow : OpenClaim := { program := "ytcolhgngiflkhaa", sum := "f1517f009fe016c840130c5da40801f417d2ef2cba2d0f5b90db523b9a1b7b79", func := "halide/halidelaw10.ScaleSame", spec := "scaleSame", inPlace := ["math.Float64bits", "math.Float64frombits", "math.Float32frombits", "math.Float32bits"], unfollowed := true, recurses := true, apart := false }
def ScaleSameSaid : Prop := scaleSameRow.holds Try.pinned (OpenSpec.ofChange scaleSameSpec)

/-- ITS FALSE NEIGHBOUR: 'it returns false'. Refute it at one input. -/
def scaleSameWrong : ChangeSpec := { name := "scaleSame", fn := fun _ => fun
  | [d1, d2, d3, d4, d5, d6, d7] => { results := [.lit (.bool false)], args := [d1, d2, d3, d4, d5, d6, d7] }
  | _ => none }
def ScaleSameWrongFalsely : Prop := scaleSameRow.holds Try.pinned (OpenSpec.ofChange scaleSameWrong)

/- THE SECOND FORM. 'bulk': how many values and letters a reading holds, each counted each time it is reached (what is shared counts as often as it is met; a slice's spare places count too). A statement '..UptoSaid' is the law's where the arguments, and the package variables that the reading takes, are together of bulk at most 1048576: NARROWER than '..Said'. Prove '..Said' where nothing that the law and all that it calls make is longer than what came in: it says more and counts as full. Else prove '..UptoSaid'. A law counts once. -/
mutual
def uptoBulk {H : Type} : DataW H → Nat
  | .lit (.string bytes) => bytes.length + 1
  | .lit _ => 1
  | .nil => 1
  | .ptr d => uptoBulk d + 1
  | .slice elems spare => uptoBulkAll elems + uptoBulkAll spare + 1
  | .agg parts => uptoBulkAll parts + 1
  | .iface _ d => uptoBulk d + 1
  | .map entries => uptoBulkEntries entries + 1
  | .held _ => 1
def uptoBulkAll {H : Type} : List (DataW H) → Nat
  | [] => 0
  | d :: r => uptoBulk d + uptoBulkAll r
def uptoBulkEntries {H : Type} : List (Lit × DataW H) → Nat
  | [] => 0
  | x :: r => uptoBulkEntry x + uptoBulkEntries r
def uptoBulkEntry {H : Type} : Lit × DataW H → Nat
  | (.string bytes, d) => bytes.length + uptoBulk d + 1
  | (_, d) => uptoBulk d + 1
 end
def uptoSmall : (H : Type) → List (DataW H) → Bool := fun _ ds => decide (uptoBulkAll ds ≤ 1048576)
def OpenSpec.upto (s : _root_.Go.ChangeSpec) : _root_.Go.OpenSpec := { _root_.Go.OpenSpec.ofChange s with cond := some uptoSmall }

/-- 'halidelaw10.ScaleExtremes', WHERE WHAT IT READS IS OF BULK AT MOST 1048576: true; the input reads as it did. -/
def scaleExtremesUptoRow : OpenClaim := { program := "ytcolhgngiflkhaa", sum := "f1517f009fe016c840130c5da40801f417d2ef2cba2d0f5b90db523b9a1b7b79", func := "halide/halidelaw10.ScaleExtremes", spec := "scaleExtremes", inPlace := ["math.Float64bits", "math.Float64frombits", "math.Float32frombits", "math.Float32bits"], unfollowed := true, recurses := true, apart := false, narrowed := true }
def ScaleExtremesUptoSaid : Prop := scaleExtremesUptoRow.holds Try.pinned (OpenSpec.upto scaleExtremesSpec)

/-- 'halidelaw10.ScaleRises', WHERE WHAT IT READS IS OF BULK AT MOST 1048576: true; the input reads as it did. -/
def scaleRisesUptoRow : OpenClaim := { program := "ytcolhgngiflkhaa", sum := "f1517f009fe016c840130c5da40801f417d2ef2cba2d0f5b90db523b9a1b7b79", func := "halide/halidelaw10.ScaleRises", spec := "scaleRises", inPlace := ["math.Float64bits", "math.Float64frombits", "math.Float32frombits", "math.Float32bits"], unfollowed := true, recurses := true, apart := false, narrowed := true }
def ScaleRisesUptoSaid : Prop := scaleRisesUptoRow.holds Try.pinned (OpenSpec.upto scaleRisesSpec)

/-- 'halidelaw10.ScaleSame', WHERE WHAT IT READS IS OF BULK AT MOST 1048576: true; the input reads as it did. -/
def scaleSameUptoRow : OpenClaim := { program := "ytcolhgngiflkhaa", sum := "f1517f009fe016c840130c5da40801f417d2ef2cba2d0f5b90db523b9a1b7b79", func := "halide/halidelaw10.ScaleSame", spec := "scaleSame", inPlace := ["math.Float64bits", "math.Float64frombits", "math.Float32frombits", "math.Float32bits"], unfollowed := true, recurses := true, apart := false, narrowed := true }
def ScaleSameUptoSaid : Prop := scaleSameUptoRow.holds Try.pinned (OpenSpec.upto scaleSameSpec)

end Rows
end Go.Proofs.Ytcolhgngiflkhaa
