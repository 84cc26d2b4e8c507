/-
  No cell of these rows narrows 'for every input' (looked for: loops, veiled, ifaces, maps, wideKeys, modest, calm, conditions, laid).
  DERIVED. THE GIVEN ROWS OF THIS SEAT. 6 by the template 'for every input the law returns true; each argument reads behind the call as it read before'; 0 by the template 'total and deterministic' (their statements: YtnlphjekillciaaTotals.lean).
  GIVEN WITH THE SEED: the statements are not yours to turn. If you find one false, say at which input.
  Laid BY PROGRAM, IN A SANDBOX (cutbox-rows.mjs): the forced cells as the released guide's own fill.sh prints them over the translation 3646af839e7c1fef… (all of the seat's roots in one cut). By AI agents, Wed Nov 11 2026. No macro, syntax, notation, axiom, sorry.
-/
import Derived.Test.YtnlphjekillciaaChecked
import GoSem.Claim
import GoSem.ClaimJoined
import GoSem.ClaimMapViews
import Derived.JoinedTies
import Derived.KernelRfl
namespace Go.Proofs.Ytnlphjekillciaa
/- THE CELL 'sum', in the pinned program and in every row, IS THE sha256 OF THE DUMP (.gsa) THAT YtnlphjekillciaaProg.lean LOADS. Nothing in Lean hashes anything: it is a label: what it is worth is what the hold of that sum in a sandbox is worth. -/
noncomputable def Try.pinned : Pinned := { name := "ytnlphjekillciaa", sum := "3646af839e7c1fef7bdbe264d73993e8bff265a4622d69da471bf6a9069b76f0", checked := Try.checked }
namespace Rows
def none {H : Type} : Left H := { results := [], args := [] }

/-- 'halidelaw10.ScaleNames': WHATEVER THE INPUT: true; the input reads as it did. -/
def scaleNamesSpec : ChangeSpec := { name := "scaleNames", fn := fun _ => fun
  | [] => { results := [.lit (.bool true)], args := [] }
  | _ => none }
def scaleNamesRow : OpenClaim := { program := "ytnlphjekillciaa", sum := "3646af839e7c1fef7bdbe264d73993e8bff265a4622d69da471bf6a9069b76f0", func := "halide/halidelaw10.ScaleNames", spec := "scaleNames", inPlace := ["math.Float64bits", "math.Float64frombits", "math.Float32frombits", "math.Float32bits"], unfollowed := true, recurses := true, apart := false }
def ScaleNamesSaid : Prop := scaleNamesRow.holds Try.pinned (OpenSpec.ofChange scaleNamesSpec)

/-- ITS FALSE NEIGHBOUR: 'it returns false'. Refute it at one input. -/
def scaleNamesWrong : ChangeSpec := { name := "scaleNames", fn := fun _ => fun
  | [] => { results := [.lit (.bool false)], args := [] }
  | _ => none }
def ScaleNamesWrongFalsely : Prop := scaleNamesRow.holds Try.pinned (OpenSpec.ofChange scaleNamesWrong)

/-- 'halidelaw10.ScaleRow': WHATEVER THE INPUT: true; the input reads as it did. -/
def scaleRowSpec : ChangeSpec := { name := "scaleRow", fn := fun _ => fun
  | [d1, d2, d3] => { results := [.lit (.bool true)], args := [d1, d2, d3] }
  | _ => none }
def scaleRowRow : OpenClaim := { program := "ytnlphjekillciaa", sum := "3646af839e7c1fef7bdbe264d73993e8bff265a4622d69da471bf6a9069b76f0", func := "halide/halidelaw10.ScaleRow", spec := "scaleRow", inPlace := ["math.Float64bits", "math.Float64frombits", "math.Float32frombits", "math.Float32bits"], unfollowed := true, recurses := true, apart := false }
def ScaleRowSaid : Prop := scaleRowRow.holds Try.pinned (OpenSpec.ofChange scaleRowSpec)

/-- ITS FALSE NEIGHBOUR: 'it returns false'. Refute it at one input. -/
def scaleRowWrong : ChangeSpec := { name := "scaleRow", fn := fun _ => fun
  | [d1, d2, d3] => { results := [.lit (.bool false)], args := [d1, d2, d3] }
  | _ => none }
def ScaleRowWrongFalsely : Prop := scaleRowRow.holds Try.pinned (OpenSpec.ofChange scaleRowWrong)

/-- 'halidelaw10.ScalePlane': WHATEVER THE INPUT: true; the input reads as it did. -/
def scalePlaneSpec : ChangeSpec := { name := "scalePlane", fn := fun _ => fun
  | [d1, d2, d3, d4] => { results := [.lit (.bool true)], args := [d1, d2, d3, d4] }
  | _ => none }
def scalePlaneRow : OpenClaim := { program := "ytnlphjekillciaa", sum := "3646af839e7c1fef7bdbe264d73993e8bff265a4622d69da471bf6a9069b76f0", func := "halide/halidelaw10.ScalePlane", spec := "scalePlane", inPlace := ["math.Float64bits", "math.Float64frombits", "math.Float32frombits", "math.Float32bits"], unfollowed := true, recurses := true, apart := false }
def ScalePlaneSaid : Prop := scalePlaneRow.holds Try.pinned (OpenSpec.ofChange scalePlaneSpec)

/-- ITS FALSE NEIGHBOUR: 'it returns false'. Refute it at one input. -/
def scalePlaneWrong : ChangeSpec := { name := "scalePlane", fn := fun _ => fun
  | [d1, d2, d3, d4] => { results := [.lit (.bool false)], args := [d1, d2, d3, d4] }
  | _ => none }
def ScalePlaneWrongFalsely : Prop := scalePlaneRow.holds Try.pinned (OpenSpec.ofChange scalePlaneWrong)

/-- 'halidelaw10.ScalePart': WHATEVER THE INPUT: true; the input reads as it did. -/
def scalePartSpec : ChangeSpec := { name := "scalePart", fn := fun _ => fun
  | [d1, d2, d3, d4, d5] => { results := [.lit (.bool true)], args := [d1, d2, d3, d4, d5] }
  | _ => none }
def scalePartRow : OpenClaim := { program := "ytnlphjekillciaa", sum := "3646af839e7c1fef7bdbe264d73993e8bff265a4622d69da471bf6a9069b76f0", func := "halide/halidelaw10.ScalePart", spec := "scalePart", inPlace := ["math.Float64bits", "math.Float64frombits", "math.Float32frombits", "math.Float32bits"], unfollowed := true, recurses := true, apart := false }
def ScalePartSaid : Prop := scalePartRow.holds Try.pinned (OpenSpec.ofChange scalePartSpec)

/-- ITS FALSE NEIGHBOUR: 'it returns false'. Refute it at one input. -/
def scalePartWrong : ChangeSpec := { name := "scalePart", fn := fun _ => fun
  | [d1, d2, d3, d4, d5] => { results := [.lit (.bool false)], args := [d1, d2, d3, d4, d5] }
  | _ => none }
def ScalePartWrongFalsely : Prop := scalePartRow.holds Try.pinned (OpenSpec.ofChange scalePartWrong)

/-- 'halidelaw10.ScaleConstant': WHATEVER THE INPUT: true; the input reads as it did. -/
def scaleConstantSpec : ChangeSpec := { name := "scaleConstant", fn := fun _ => fun
  | [d1, d2, d3, d4, d5, d6] => { results := [.lit (.bool true)], args := [d1, d2, d3, d4, d5, d6] }
  | _ => none }
def scaleConstantRow : OpenClaim := { program := "ytnlphjekillciaa", sum := "3646af839e7c1fef7bdbe264d73993e8bff265a4622d69da471bf6a9069b76f0", func := "halide/halidelaw10.ScaleConstant", spec := "scaleConstant", inPlace := ["math.Float64bits", "math.Float64frombits", "math.Float32frombits", "math.Float32bits"], unfollowed := true, recurses := true, apart := false }
def ScaleConstantSaid : Prop := scaleConstantRow.holds Try.pinned (OpenSpec.ofChange scaleConstantSpec)

/-- ITS FALSE NEIGHBOUR: 'it returns false'. Refute it at one input. -/
def scaleConstantWrong : ChangeSpec := { name := "scaleConstant", fn := fun _ => fun
  | [d1, d2, d3, d4, d5, d6] => { results := [.lit (.bool false)], args := [d1, d2, d3, d4, d5, d6] }
  | _ => none }
def ScaleConstantWrongFalsely : Prop := scaleConstantRow.holds Try.pinned (OpenSpec.ofChange scaleConstantWrong)

/-- 'halidelaw10.ScaleExtremes': WHATEVER THE INPUT: true; the input reads as it did. -/
def scaleExtremesSpec : ChangeSpec := { name := "scaleExtremes", fn := fun _ => fun
  | [d1, d2, d3, d4] => { results := [.lit (.bool true)], args := [d1, d2, d3, d4] }
  | _ => none }
def scaleExtremesRow : OpenClaim := { program := "ytnlphjekillciaa", sum := "3646af839e7c1fef7bdbe264d73993e8bff265a4622d69da471bf6a9069b76f0", func := "halide/halidelaw10.ScaleExtremes", spec := "scaleExtremes", inPlace := ["math.Float64bits", "math.Float64frombits", "math.Float32frombits", "math.Float32bits"], unfollowed := true, recurses := true, apart := false }
def ScaleExtremesSaid : Prop := scaleExtremesRow.holds Try.pinned (OpenSpec.ofChange scaleExtremesSpec)

/-- ITS FALSE NEIGHBOUR: 'it returns false'. Refute it at one input. -/
def scaleExtremesWrong : ChangeSpec := { name := "scaleExtremes", fn := fun _ => fun
  | [d1, d2, d3, d4] => { results := [.lit (.bool false)], args := [d1, d2, d3, d4] }
  | _ => none }
def ScaleExtremesWrongFalsely : Prop := scaleExtremesRow.holds Try.pinned (OpenSpec.ofChange scaleExtremesWrong)

/- THE SECOND FORM. 'bulk': how many values and letters a reading holds, each counted each time it is reached (what is shared counts as often as it is met; a slice's spare places count too). A statement '..UptoSaid' is the law's where the arguments, and the package variables that the reading takes, are together of bulk at most 1048576: NARROWER than '..Said'. Prove '..Said' where nothing that the law and all that it calls make is longer than what came in: it says more and counts as full. Else prove '..UptoSaid'. A law counts once. -/
mutual
def uptoBulk {H : Type} : DataW H → Nat
  | .lit (.string bytes) => bytes.length + 1
  | .lit _ => 1
  | .nil => 1
  | .ptr d => uptoBulk d + 1
  | .slice elems spare => uptoBulkAll elems + uptoBulkAll spare + 1
  | .agg parts => uptoBulkAll parts + 1
  | .iface _ d => uptoBulk d + 1
  | .map entries => uptoBulkEntries entries + 1
  | .held _ => 1
def uptoBulkAll {H : Type} : List (DataW H) → Nat
  | [] => 0
  | d :: r => uptoBulk d + uptoBulkAll r
def uptoBulkEntries {H : Type} : List (Lit × DataW H) → Nat
  | [] => 0
  | x :: r => uptoBulkEntry x + uptoBulkEntries r
def uptoBulkEntry {H : Type} : Lit × DataW H → Nat
  | (.string bytes, d) => bytes.length + uptoBulk d + 1
  | (_, d) => uptoBulk d + 1
 end
def uptoSmall : (H : Type) → List (DataW H) → Bool := fun _ ds => decide (uptoBulkAll ds ≤ 1048576)
def OpenSpec.upto (s : _root_.Go.ChangeSpec) : _root_.Go.OpenSpec := { _root_.Go.OpenSpec.ofChange s with cond := some uptoSmall }

/-- 'halidelaw10.ScaleNames', WHERE WHAT IT READS IS OF BULK AT MOST 1048576: true; the input reads as it did. -/
def scaleNamesUptoRow : OpenClaim := { program := "ytnlphjekillciaa", sum := "3646af839e7c1fef7bdbe264d73993e8bff265a4622d69da471bf6a9069b76f0", func := "halide/halidelaw10.ScaleNames", spec := "scaleNames", inPlace := ["math.Float64bits", "math.Float64frombits", "math.Float32frombits", "math.Float32bits"], unfollowed := true, recurses := true, apart := false, narrowed := true }
def ScaleNamesUptoSaid : Prop := scaleNamesUptoRow.holds Try.pinned (OpenSpec.upto scaleNamesSpec)

/-- 'halidelaw10.ScaleRow', WHERE WHAT IT READS IS OF BULK AT MOST 1048576: true; the input reads as it did. -/
def scaleRowUptoRow : OpenClaim := { program := "ytnlphjekillciaa", sum := "3646af839e7c1fef7bdbe264d73993e8bff265a4622d69da471bf6a9069b76f0", func := "halide/halidelaw10.ScaleRow", spec := "scaleRow", inPlace := ["math.Float64bits", "math.Float64frombits", "math.Float32frombits", "math.Float32bits"], unfollowed := true, recurses := true, apart := false, narrowed := true }
def ScaleRowUptoSaid : Prop := scaleRowUptoRow.holds Try.pinned (OpenSpec.upto scaleRowSpec)

/-- 'halidelaw10.ScalePlane', WHERE WHAT IT READS IS OF BULK AT MOST 1048576: true; the input reads as it did. -/
def scalePlaneUptoRow : OpenClaim := { program := "ytnlphjekillciaa", sum := "3646af839e7c1fef7bdbe264d73993e8bff265a4622d69da471bf6a9069b76f0", func := "halide/halidelaw10.ScalePlane", spec := "scalePlane", inPlace := ["math.Float64bits", "math.Float64frombits", "math.Float32frombits", "math.Float32bits"], unfollowed := true, recurses := true, apart := false, narrowed := true }
def ScalePlaneUptoSaid : Prop := scalePlaneUptoRow.holds Try.pinned (OpenSpec.upto scalePlaneSpec)

/-- 'halidelaw10.ScalePart', WHERE WHAT IT READS IS OF BULK AT MOST 1048576: true; the input reads as it did. -/
def scalePartUptoRow : OpenClaim := { program := "ytnlphjekillciaa", sum := "3646af839e7c1fef7bdbe264d73993e8bff265a4622d69da471bf6a9069b76f0", func := "halide/halidelaw10.ScalePart", spec := "scalePart", inPlace := ["math.Float64bits", "math.Float64frombits", "math.Float32frombits", "math.Float32bits"], unfollowed := true, recurses := true, apart := false, narrowed := true }
def ScalePartUptoSaid : Prop := scalePartUptoRow.holds Try.pinned (OpenSpec.upto scalePartSpec)

/-- 'halidelaw10.ScaleConstant', WHERE WHAT IT READS IS OF BULK AT MOST 1048576: true; the input reads as it did. -/
def scaleConstantUptoRow : OpenClaim := { program := "ytnlphjekillciaa", sum := "3646af839e7c1fef7bdbe264d73993e8bff265a4622d69da471bf6a9069b76f0", func := "halide/halidelaw10.ScaleConstant", spec := "scaleConstant", inPlace := ["math.Float64bits", "math.Float64frombits", "math.Float32frombits", "math.Float32bits"], unfollowed := true, recurses := true, apart := false, narrowed := true }
def ScaleConstantUptoSaid : Prop := scaleConstantUptoRow.holds Try.pinned (OpenSpec.upto scaleConstantSpec)

/-- 'halidelaw10.ScaleExtremes', WHERE WHAT IT READS IS OF BULK AT MOST 1048576: true; the input reads as it did. -/
def scaleExtremesUptoRow : OpenClaim := { program := "ytnlphjekillciaa", sum := "3646af839e7c1fef7bdbe264d73993e8bff265a4622d69da471bf6a9069b76f0", func := "halide/halidelaw10.ScaleExtremes", spec := "scaleExtremes", inPlace := ["math.Float64bits", "math.Float64frombits", "math.Float32frombits", "math.Float32bits"], unfollowed := true, recurses := true, apart := false, narrowed := true }
def ScaleExtremesUptoSaid : Prop := scaleExtremesUptoRow.holds Try.pinned (OpenSpec.upto scaleExtremesSpec)

end Rows
end Go.Proofs.Ytnlphjekillciaa
