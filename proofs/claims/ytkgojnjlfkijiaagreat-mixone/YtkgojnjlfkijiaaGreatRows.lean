/-
  No cell of these rows narrows 'for every input' (looked for: loops, veiled, ifaces, maps, wideKeys, modest, calm, conditions, laid).
  DERIVED. THE GIVEN ROWS OF THIS SEAT. 3 by the template 'for every input the law returns true; each argument reads behind the call as it read before'; 0 by the template 'total and deterministic' (their statements: YtkgojnjlfkijiaaGreatTotals.lean).
  GIVEN WITH THE SEED: the statements are not yours to turn. If you find one false, say at which input.
  Laid BY PROGRAM, IN A SANDBOX (cutbox-rows.mjs): the forced cells as the released guide's own fill.sh prints them over the translation 9166421855ab333b… (all of the seat's roots in one cut). By AI agents, Wed Nov 11 2026. No macro, syntax, notation, axiom, sorry.
-/
import Derived.Test.YtkgojnjlfkijiaaGreatChecked
import GoSem.Claim
import GoSem.ClaimJoined
import GoSem.ClaimMapViews
import Derived.JoinedTies
import Derived.KernelRfl
namespace Go.Proofs.YtkgojnjlfkijiaaGreat
/- THE CELL 'sum', in the pinned program and in every row, IS THE sha256 OF THE DUMP (.gsa) THAT YtkgojnjlfkijiaaGreatProg.lean LOADS. Nothing in Lean hashes anything: it is a label: what it is worth is what the hold of that sum in a sandbox is worth. -/
noncomputable def Tryz.pinned : Pinned := { name := "ytkgojnjlfkijiaagreat", sum := "9166421855ab333b78e559a170cfc9713386acdba63b11ff8c74346ab12ecae3", checked := Tryz.checked }
namespace Rows
def none {H : Type} : Left H := { results := [], args := [] }

/-- 'halidelaw15.MixOne': WHATEVER THE INPUT: true; the input reads as it did. -/
def mixOneSpec : ChangeSpec := { name := "mixOne", fn := fun _ => fun
  | [d1, d2, d3, d4, d5] => { results := [.lit (.bool true)], args := [d1, d2, d3, d4, d5] }
  | _ => none }
def mixOneRow : OpenClaim := { program := "ytkgojnjlfkijiaagreat", sum := "9166421855ab333b78e559a170cfc9713386acdba63b11ff8c74346ab12ecae3", func := "halide/halidelaw15.MixOne", spec := "mixOne", inPlace := ["math.Float32frombits", "math.Float64bits", "math.Float64frombits", "math.Float32bits"], unfollowed := true, recurses := true, apart := false }
def MixOneSaid : Prop := mixOneRow.holds Tryz.pinned (OpenSpec.ofChange mixOneSpec)

/-- ITS FALSE NEIGHBOUR: 'it returns false'. Refute it at one input. -/
def mixOneWrong : ChangeSpec := { name := "mixOne", fn := fun _ => fun
  | [d1, d2, d3, d4, d5] => { results := [.lit (.bool false)], args := [d1, d2, d3, d4, d5] }
  | _ => none }
def MixOneWrongFalsely : Prop := mixOneRow.holds Tryz.pinned (OpenSpec.ofChange mixOneWrong)

/-- 'halidelaw15.MixPictures': WHATEVER THE INPUT: true; the input reads as it did. -/
def mixPicturesSpec : ChangeSpec := { name := "mixPictures", fn := fun _ => fun
  | [d1, d2, d3] => { results := [.lit (.bool true)], args := [d1, d2, d3] }
  | _ => none }
def mixPicturesRow : OpenClaim := { program := "ytkgojnjlfkijiaagreat", sum := "9166421855ab333b78e559a170cfc9713386acdba63b11ff8c74346ab12ecae3", func := "halide/halidelaw15.MixPictures", spec := "mixPictures", inPlace := ["math.Float32frombits", "math.Float64bits", "math.Float64frombits", "math.Float32bits"], unfollowed := true, recurses := true, apart := false }
def MixPicturesSaid : Prop := mixPicturesRow.holds Tryz.pinned (OpenSpec.ofChange mixPicturesSpec)

/-- ITS FALSE NEIGHBOUR: 'it returns false'. Refute it at one input. -/
def mixPicturesWrong : ChangeSpec := { name := "mixPictures", fn := fun _ => fun
  | [d1, d2, d3] => { results := [.lit (.bool false)], args := [d1, d2, d3] }
  | _ => none }
def MixPicturesWrongFalsely : Prop := mixPicturesRow.holds Tryz.pinned (OpenSpec.ofChange mixPicturesWrong)

/-- 'halidelaw15.MixFades': WHATEVER THE INPUT: true; the input reads as it did. -/
def mixFadesSpec : ChangeSpec := { name := "mixFades", fn := fun _ => fun
  | [d1, d2, d3] => { results := [.lit (.bool true)], args := [d1, d2, d3] }
  | _ => none }
def mixFadesRow : OpenClaim := { program := "ytkgojnjlfkijiaagreat", sum := "9166421855ab333b78e559a170cfc9713386acdba63b11ff8c74346ab12ecae3", func := "halide/halidelaw15.MixFades", spec := "mixFades", inPlace := ["math.Float32frombits", "math.Float64bits", "math.Float64frombits", "math.Float32bits"], unfollowed := true, recurses := true, apart := false }
def MixFadesSaid : Prop := mixFadesRow.holds Tryz.pinned (OpenSpec.ofChange mixFadesSpec)

/-- ITS FALSE NEIGHBOUR: 'it returns false'. Refute it at one input. -/
def mixFadesWrong : ChangeSpec := { name := "mixFades", fn := fun _ => fun
  | [d1, d2, d3] => { results := [.lit (.bool false)], args := [d1, d2, d3] }
  | _ => none }
def MixFadesWrongFalsely : Prop := mixFadesRow.holds Tryz.pinned (OpenSpec.ofChange mixFadesWrong)

/- THE SECOND FORM. 'bulk': how many values and letters a reading holds, each counted each time it is reached (what is shared counts as often as it is met; a slice's spare places count too). A statement '..UptoSaid' is the law's where the arguments, and the package variables that the reading takes, are together of bulk at most 1048576: NARROWER than '..Said'. Prove '..Said' where nothing that the law and all that it calls make is longer than what came in: it says more and counts as full. Else prove '..UptoSaid'. A law counts once. -/
mutual
def uptoBulk {H : Type} : DataW H → Nat
  | .lit (.string bytes) => bytes.length + 1
  | .lit _ => 1
  | .nil => 1
  | .ptr d => uptoBulk d + 1
  | .slice elems spare => uptoBulkAll elems + uptoBulkAll spare + 1
  | .agg parts => uptoBulkAll parts + 1
  | .iface _ d => uptoBulk d + 1
  | .map entries => uptoBulkEntries entries + 1
  | .held _ => 1
def uptoBulkAll {H : Type} : List (DataW H) → Nat
  | [] => 0
  | d :: r => uptoBulk d + uptoBulkAll r
def uptoBulkEntries {H : Type} : List (Lit × DataW H) → Nat
  | [] => 0
  | x :: r => uptoBulkEntry x + uptoBulkEntries r
def uptoBulkEntry {H : Type} : Lit × DataW H → Nat
  | (.string bytes, d) => bytes.length + uptoBulk d + 1
  | (_, d) => uptoBulk d + 1
 end
def uptoSmall : (H : Type) → List (DataW H) → Bool := fun _ ds => decide (uptoBulkAll ds ≤ 1048576)
def OpenSpec.upto (s : _root_.Go.ChangeSpec) : _root_.Go.OpenSpec := { _root_.Go.OpenSpec.ofChange s with cond := some uptoSmall }

/-- 'halidelaw15.MixOne', WHERE WHAT IT READS IS OF BULK AT MOST 1048576: true; the input reads as it did. -/
def mixOneUptoRow : OpenClaim := { program := "ytkgojnjlfkijiaagreat", sum := "9166421855ab333b78e559a170cfc9713386acdba63b11ff8c74346ab12ecae3", func := "halide/halidelaw15.MixOne", spec := "mixOne", inPlace := ["math.Float32frombits", "math.Float64bits", "math.Float64frombits", "math.Float32bits"], unfollowed := true, recurses := true, apart := false, narrowed := true }
def MixOneUptoSaid : Prop := mixOneUptoRow.holds Tryz.pinned (OpenSpec.upto mixOneSpec)

/-- 'halidelaw15.MixPictures', WHERE WHAT IT READS IS OF BULK AT MOST 1048576: true; the input reads as it did. -/
def mixPicturesUptoRow : OpenClaim := { program := "ytkgojnjlfkijiaagreat", sum := "9166421855ab333b78e559a170cfc9713386acdba63b11ff8c74346ab12ecae3", func := "halide/halidelaw15.MixPictures", spec := "mixPictures", inPlace := ["math.Float32frombits", "math.Float64bits", "math.Float64frombits", "math.Float32bits"], unfollowed := true, recurses := true, apart := false, narrowed := true }
def MixPicturesUptoSaid : Prop := mixPicturesUptoRow.holds Tryz.pinned (OpenSpec.upto mixPicturesSpec)

/-- 'halidelaw15.MixFades', WHERE WHAT IT READS IS OF BULK AT MOST 1048576: true; the input reads as it did. -/
def mixFadesUptoRow : OpenClaim := { program := "ytkgojnjlfkijiaagreat", sum := "9166421855ab333b78e559a170cfc9713386acdba63b11ff8c74346ab12ecae3", func := "halide/halidelaw15.MixFades", spec := "mixFades", inPlace := ["math.Float32frombits", "math.Float64bits", "math.Float64frombits", "math.Float32bits"], unfollowed := true, recurses := true, apart := false, narrowed := true }
def MixFadesUptoSaid : Prop := mixFadesUptoRow.holds Tryz.pinned (OpenSpec.upto mixFadesSpec)

end Rows
end Go.Proofs.YtkgojnjlfkijiaaGreat
