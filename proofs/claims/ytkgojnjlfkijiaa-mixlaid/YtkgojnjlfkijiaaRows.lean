/-
  No cell of these rows narrows 'for every input' (looked for: loops, veiled, ifaces, maps, wideKeys, modest, calm, conditions, laid).
  DERIVED. THE GIVEN ROWS OF THIS SEAT. 3 by the template 'for every input the law returns true; each argument reads behind the call as it read before'; 0 by the template 'total and deterministic' (their statements: YtkgojnjlfkijiaaTotals.lean).
  GIVEN WITH THE SEED: the statements are not yours to turn. If you find one false, say at which input.
  Laid BY PROGRAM, IN A SANDBOX (cutbox-rows.mjs): the forced cells as the released guide's own fill.sh prints them over the translation b0b2e0090b08d391… (all of the seat's roots in one cut). By AI agents, Wed Nov 11 2026. No macro, syntax, notation, axiom, sorry.
-/
import Derived.Test.YtkgojnjlfkijiaaChecked
import GoSem.Claim
import GoSem.ClaimJoined
import GoSem.ClaimMapViews
import Derived.JoinedTies
import Derived.KernelRfl
namespace Go.Proofs.Ytkgojnjlfkijiaa
/- THE CELL 'sum', in the pinned program and in every row, IS THE sha256 OF THE DUMP (.gsa) THAT YtkgojnjlfkijiaaProg.lean LOADS. Nothing in Lean hashes anything: it is a label: what it is worth is what the hold of that sum in a sandbox is worth. -/
noncomputable def Try.pinned : Pinned := { name := "ytkgojnjlfkijiaa", sum := "b0b2e0090b08d3915548e2c8874661c8b3275d1a1c2ecf741ec7a1c6b19f122a", checked := Try.checked }
namespace Rows
def none {H : Type} : Left H := { results := [], args := [] }

/-- 'halidelaw15.MixNames': WHATEVER THE INPUT: true; the input reads as it did. -/
def mixNamesSpec : ChangeSpec := { name := "mixNames", fn := fun _ => fun
  | [] => { results := [.lit (.bool true)], args := [] }
  | _ => none }
def mixNamesRow : OpenClaim := { program := "ytkgojnjlfkijiaa", sum := "b0b2e0090b08d3915548e2c8874661c8b3275d1a1c2ecf741ec7a1c6b19f122a", func := "halide/halidelaw15.MixNames", spec := "mixNames", inPlace := ["math.Float32frombits", "math.Float64bits", "math.Float64frombits", "math.Float32bits"], unfollowed := true, recurses := true, apart := false }
def MixNamesSaid : Prop := mixNamesRow.holds Try.pinned (OpenSpec.ofChange mixNamesSpec)

/-- ITS FALSE NEIGHBOUR: 'it returns false'. Refute it at one input. -/
def mixNamesWrong : ChangeSpec := { name := "mixNames", fn := fun _ => fun
  | [] => { results := [.lit (.bool false)], args := [] }
  | _ => none }
def MixNamesWrongFalsely : Prop := mixNamesRow.holds Try.pinned (OpenSpec.ofChange mixNamesWrong)

/-- 'halidelaw15.MixEnds': WHATEVER THE INPUT: true; the input reads as it did. -/
def mixEndsSpec : ChangeSpec := { name := "mixEnds", fn := fun _ => fun
  | [d1, d2, d3] => { results := [.lit (.bool true)], args := [d1, d2, d3] }
  | _ => none }
def mixEndsRow : OpenClaim := { program := "ytkgojnjlfkijiaa", sum := "b0b2e0090b08d3915548e2c8874661c8b3275d1a1c2ecf741ec7a1c6b19f122a", func := "halide/halidelaw15.MixEnds", spec := "mixEnds", inPlace := ["math.Float32frombits", "math.Float64bits", "math.Float64frombits", "math.Float32bits"], unfollowed := true, recurses := true, apart := false }
def MixEndsSaid : Prop := mixEndsRow.holds Try.pinned (OpenSpec.ofChange mixEndsSpec)

/-- ITS FALSE NEIGHBOUR: 'it returns false'. Refute it at one input. -/
def mixEndsWrong : ChangeSpec := { name := "mixEnds", fn := fun _ => fun
  | [d1, d2, d3] => { results := [.lit (.bool false)], args := [d1, d2, d3] }
  | _ => none }
def MixEndsWrongFalsely : Prop := mixEndsRow.holds Try.pinned (OpenSpec.ofChange mixEndsWrong)

/-- 'halidelaw15.MixLaid': WHATEVER THE INPUT: true; the input reads as it did. -/
def mixLaidSpec : ChangeSpec := { name := "mixLaid", fn := fun _ => fun
  | [d1, d2, d3, d4, d5, d6] => { results := [.lit (.bool true)], args := [d1, d2, d3, d4, d5, d6] }
  | _ => none }
def mixLaidRow : OpenClaim := { program := "ytkgojnjlfkijiaa", sum := "b0b2e0090b08d3915548e2c8874661c8b3275d1a1c2ecf741ec7a1c6b19f122a", func := "halide/halidelaw15.MixLaid", spec := "mixLaid", inPlace := ["math.Float32frombits", "math.Float64bits", "math.Float64frombits", "math.Float32bits"], unfollowed := true, recurses := true, apart := false }
def MixLaidSaid : Prop := mixLaidRow.holds Try.pinned (OpenSpec.ofChange mixLaidSpec)

/-- ITS FALSE NEIGHBOUR: 'it returns false'. Refute it at one input. -/
def mixLaidWrong : ChangeSpec := { name := "mixLaid", fn := fun _ => fun
  | [d1, d2, d3, d4, d5, d6] => { results := [.lit (.bool false)], args := [d1, d2, d3, d4, d5, d6] }
  | _ => none }
def MixLaidWrongFalsely : Prop := mixLaidRow.holds Try.pinned (OpenSpec.ofChange mixLaidWrong)

/- THE SECOND FORM. 'bulk': how many values and letters a reading holds, each counted each time it is reached (what is shared counts as often as it is met; a slice's spare places count too). A statement '..UptoSaid' is the law's where the arguments, and the package variables that the reading takes, are together of bulk at most 1048576: NARROWER than '..Said'. Prove '..Said' where nothing that the law and all that it calls make is longer than what came in: it says more and counts as full. Else prove '..UptoSaid'. A law counts once. -/
mutual
def uptoBulk {H : Type} : DataW H → Nat
  | .lit (.string bytes) => bytes.length + 1
  | .lit _ => 1
  | .nil => 1
  | .ptr d => uptoBulk d + 1
  | .slice elems spare => uptoBulkAll elems + uptoBulkAll spare + 1
  | .agg parts => uptoBulkAll parts + 1
  | .iface _ d => uptoBulk d + 1
  | .map entries => uptoBulkEntries entries + 1
  | .held _ => 1
def uptoBulkAll {H : Type} : List (DataW H) → Nat
  | [] => 0
  | d :: r => uptoBulk d + uptoBulkAll r
def uptoBulkEntries {H : Type} : List (Lit × DataW H) → Nat
  | [] => 0
  | x :: r => uptoBulkEntry x + uptoBulkEntries r
def uptoBulkEntry {H : Type} : Lit × DataW H → Nat
  | (.string bytes, d) => bytes.length + uptoBulk d + 1
  | (_, d) => uptoBulk d + 1
 end
def uptoSmall : (H : Type) → List (DataW H) → Bool := fun _ ds => decide (uptoBulkAll ds ≤ 1048576)
def OpenSpec.upto (s : _root_.Go.ChangeSpec) : _root_.Go.OpenSpec := { _root_.Go.OpenSpec.ofChange s with cond := some uptoSmall }

/-- 'halidelaw15.MixNames', WHERE WHAT IT READS IS OF BULK AT MOST 1048576: true; the input reads as it did. -/
def mixNamesUptoRow : OpenClaim := { program := "ytkgojnjlfkijiaa", sum := "b0b2e0090b08d3915548e2c8874661c8b3275d1a1c2ecf741ec7a1c6b19f122a", func := "halide/halidelaw15.MixNames", spec := "mixNames", inPlace := ["math.Float32frombits", "math.Float64bits", "math.Float64frombits", "math.Float32bits"], unfollowed := true, recurses := true, apart := false, narrowed := true }
def MixNamesUptoSaid : Prop := mixNamesUptoRow.holds Try.pinned (OpenSpec.upto mixNamesSpec)

/-- 'halidelaw15.MixEnds', WHERE WHAT IT READS IS OF BULK AT MOST 1048576: true; the input reads as it did. -/
def mixEndsUptoRow : OpenClaim := { program := "ytkgojnjlfkijiaa", sum := "b0b2e0090b08d3915548e2c8874661c8b3275d1a1c2ecf741ec7a1c6b19f122a", func := "halide/halidelaw15.MixEnds", spec := "mixEnds", inPlace := ["math.Float32frombits", "math.Float64bits", "math.Float64frombits", "math.Float32bits"], unfollowed := true, recurses := true, apart := false, narrowed := true }
def MixEndsUptoSaid : Prop := mixEndsUptoRow.holds Try.pinned (OpenSpec.upto mixEndsSpec)

/-- 'halidelaw15.MixLaid', WHERE WHAT IT READS IS OF BULK AT MOST 1048576: true; the input reads as it did. -/
def mixLaidUptoRow : OpenClaim := { program := "ytkgojnjlfkijiaa", sum := "b0b2e0090b08d3915548e2c8874661c8b3275d1a1c2ecf741ec7a1c6b19f122a", func := "halide/halidelaw15.MixLaid", spec := "mixLaid", inPlace := ["math.Float32frombits", "math.Float64bits", "math.Float64frombits", "math.Float32bits"], unfollowed := true, recurses := true, apart := false, narrowed := true }
def MixLaidUptoSaid : Prop := mixLaidUptoRow.holds Try.pinned (OpenSpec.upto mixLaidSpec)

end Rows
end Go.Proofs.Ytkgojnjlfkijiaa
