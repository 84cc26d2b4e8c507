/-
  No cell of these rows narrows 'for every input' (looked for: loops, veiled, ifaces, maps, wideKeys, modest, calm, conditions, laid).
  DERIVED. THE GIVEN ROWS OF THIS SEAT. 6 by the template 'for every input the law returns true; each argument reads behind the call as it read before'; 0 by the template 'total and deterministic' (their statements: YtgajobomimcoaaaTotals.lean).
  GIVEN WITH THE SEED: the statements are not yours to turn. If you find one false, say at which input.
  Laid BY PROGRAM, IN A SANDBOX (cutbox-rows.mjs): the forced cells as the released guide's own fill.sh prints them over the translation 6e35735cbd93abfd… (all of the seat's roots in one cut). By AI agents, Wed Nov 11 2026. No macro, syntax, notation, axiom, sorry.
-/
import Derived.Test.YtgajobomimcoaaaChecked
import GoSem.Claim
import GoSem.ClaimJoined
import GoSem.ClaimMapViews
import Derived.JoinedTies
import Derived.KernelRfl
namespace Go.Proofs.Ytgajobomimcoaaa
/- THE CELL 'sum', in the pinned program and in every row, IS THE sha256 OF THE DUMP (.gsa) THAT YtgajobomimcoaaaProg.lean LOADS. Nothing in Lean hashes anything: it is a label: what it is worth is what the hold of that sum in a sandbox is worth. -/
noncomputable def Try.pinned : Pinned := { name := "ytgajobomimcoaaa", sum := "6e35735cbd93abfdf094e2ed99ce410ca1b2f3831233ea6c94ba7f670e7473b4", checked := Try.checked }
namespace Rows
def none {H : Type} : Left H := { results := [], args := [] }

/-- 'halidelaw9.KernelTaps': WHATEVER THE INPUT: true; the input reads as it did. -/
def kernelTapsSpec : ChangeSpec := { name := "kernelTaps", fn := fun _ => fun
  | [d1, d2, d3, d4] => { results := [.lit (.bool true)], args := [d1, d2, d3, d4] }
  | _ => none }
def kernelTapsRow : OpenClaim := { program := "ytgajobomimcoaaa", sum := "6e35735cbd93abfdf094e2ed99ce410ca1b2f3831233ea6c94ba7f670e7473b4", func := "halide/halidelaw9.KernelTaps", spec := "kernelTaps", unfollowed := true, recurses := true, apart := false }
def KernelTapsSaid : Prop := kernelTapsRow.holds Try.pinned (OpenSpec.ofChange kernelTapsSpec)

/-- ITS FALSE NEIGHBOUR: 'it returns false'. Refute it at one input. -/
def kernelTapsWrong : ChangeSpec := { name := "kernelTaps", fn := fun _ => fun
  | [d1, d2, d3, d4] => { results := [.lit (.bool false)], args := [d1, d2, d3, d4] }
  | _ => none }
def KernelTapsWrongFalsely : Prop := kernelTapsRow.holds Try.pinned (OpenSpec.ofChange kernelTapsWrong)

/-- 'halidelaw9.KernelAll': WHATEVER THE INPUT: true; the input reads as it did. -/
def kernelAllSpec : ChangeSpec := { name := "kernelAll", fn := fun _ => fun
  | [d1, d2, d3, d4] => { results := [.lit (.bool true)], args := [d1, d2, d3, d4] }
  | _ => none }
def kernelAllRow : OpenClaim := { program := "ytgajobomimcoaaa", sum := "6e35735cbd93abfdf094e2ed99ce410ca1b2f3831233ea6c94ba7f670e7473b4", func := "halide/halidelaw9.KernelAll", spec := "kernelAll", unfollowed := true, recurses := true, apart := false }
def KernelAllSaid : Prop := kernelAllRow.holds Try.pinned (OpenSpec.ofChange kernelAllSpec)

/-- ITS FALSE NEIGHBOUR: 'it returns false'. Refute it at one input. -/
def kernelAllWrong : ChangeSpec := { name := "kernelAll", fn := fun _ => fun
  | [d1, d2, d3, d4] => { results := [.lit (.bool false)], args := [d1, d2, d3, d4] }
  | _ => none }
def KernelAllWrongFalsely : Prop := kernelAllRow.holds Try.pinned (OpenSpec.ofChange kernelAllWrong)

/-- 'halidelaw9.KernelShares': WHATEVER THE INPUT: true; the input reads as it did. -/
def kernelSharesSpec : ChangeSpec := { name := "kernelShares", fn := fun _ => fun
  | [d] => { results := [.lit (.bool true)], args := [d] }
  | _ => none }
def kernelSharesRow : OpenClaim := { program := "ytgajobomimcoaaa", sum := "6e35735cbd93abfdf094e2ed99ce410ca1b2f3831233ea6c94ba7f670e7473b4", func := "halide/halidelaw9.KernelShares", spec := "kernelShares", unfollowed := true, recurses := true, apart := false }
def KernelSharesSaid : Prop := kernelSharesRow.holds Try.pinned (OpenSpec.ofChange kernelSharesSpec)

/-- ITS FALSE NEIGHBOUR: 'it returns false'. Refute it at one input. -/
def kernelSharesWrong : ChangeSpec := { name := "kernelShares", fn := fun _ => fun
  | [d] => { results := [.lit (.bool false)], args := [d] }
  | _ => none }
def KernelSharesWrongFalsely : Prop := kernelSharesRow.holds Try.pinned (OpenSpec.ofChange kernelSharesWrong)

/-- 'halidelaw9.KernelRows': WHATEVER THE INPUT: true; the input reads as it did. -/
def kernelRowsSpec : ChangeSpec := { name := "kernelRows", fn := fun _ => fun
  | [d] => { results := [.lit (.bool true)], args := [d] }
  | _ => none }
def kernelRowsRow : OpenClaim := { program := "ytgajobomimcoaaa", sum := "6e35735cbd93abfdf094e2ed99ce410ca1b2f3831233ea6c94ba7f670e7473b4", func := "halide/halidelaw9.KernelRows", spec := "kernelRows", unfollowed := true, recurses := true, apart := false }
def KernelRowsSaid : Prop := kernelRowsRow.holds Try.pinned (OpenSpec.ofChange kernelRowsSpec)

/-- ITS FALSE NEIGHBOUR: 'it returns false'. Refute it at one input. -/
def kernelRowsWrong : ChangeSpec := { name := "kernelRows", fn := fun _ => fun
  | [d] => { results := [.lit (.bool false)], args := [d] }
  | _ => none }
def KernelRowsWrongFalsely : Prop := kernelRowsRow.holds Try.pinned (OpenSpec.ofChange kernelRowsWrong)

/-- 'halidelaw9.KernelOnes': WHATEVER THE INPUT: true; the input reads as it did. -/
def kernelOnesSpec : ChangeSpec := { name := "kernelOnes", fn := fun _ => fun
  | [d1, d2, d3, d4] => { results := [.lit (.bool true)], args := [d1, d2, d3, d4] }
  | _ => none }
def kernelOnesRow : OpenClaim := { program := "ytgajobomimcoaaa", sum := "6e35735cbd93abfdf094e2ed99ce410ca1b2f3831233ea6c94ba7f670e7473b4", func := "halide/halidelaw9.KernelOnes", spec := "kernelOnes", unfollowed := true, recurses := true, apart := false }
def KernelOnesSaid : Prop := kernelOnesRow.holds Try.pinned (OpenSpec.ofChange kernelOnesSpec)

/-- ITS FALSE NEIGHBOUR: 'it returns false'. Refute it at one input. -/
def kernelOnesWrong : ChangeSpec := { name := "kernelOnes", fn := fun _ => fun
  | [d1, d2, d3, d4] => { results := [.lit (.bool false)], args := [d1, d2, d3, d4] }
  | _ => none }
def KernelOnesWrongFalsely : Prop := kernelOnesRow.holds Try.pinned (OpenSpec.ofChange kernelOnesWrong)

/-- 'halidelaw9.KernelSums': WHATEVER THE INPUT: true; the input reads as it did. -/
def kernelSumsSpec : ChangeSpec := { name := "kernelSums", fn := fun _ => fun
  | [d] => { results := [.lit (.bool true)], args := [d] }
  | _ => none }
def kernelSumsRow : OpenClaim := { program := "ytgajobomimcoaaa", sum := "6e35735cbd93abfdf094e2ed99ce410ca1b2f3831233ea6c94ba7f670e7473b4", func := "halide/halidelaw9.KernelSums", spec := "kernelSums", unfollowed := true, recurses := true, apart := false }
def KernelSumsSaid : Prop := kernelSumsRow.holds Try.pinned (OpenSpec.ofChange kernelSumsSpec)

/-- ITS FALSE NEIGHBOUR: 'it returns false'. Refute it at one input. -/
def kernelSumsWrong : ChangeSpec := { name := "kernelSums", fn := fun _ => fun
  | [d] => { results := [.lit (.bool false)], args := [d] }
  | _ => none }
def KernelSumsWrongFalsely : Prop := kernelSumsRow.holds Try.pinned (OpenSpec.ofChange kernelSumsWrong)

/- THE SECOND FORM. 'bulk': how many values and letters a reading holds, each counted each time it is reached (what is shared counts as often as it is met; a slice's spare places count too). A statement '..UptoSaid' is the law's where the arguments, and the package variables that the reading takes, are together of bulk at most 1048576: NARROWER than '..Said'. Prove '..Said' where nothing that the law and all that it calls make is longer than what came in: it says more and counts as full. Else prove '..UptoSaid'. A law counts once. -/
mutual
def uptoBulk {H : Type} : DataW H → Nat
  | .lit (.string bytes) => bytes.length + 1
  | .lit _ => 1
  | .nil => 1
  | .ptr d => uptoBulk d + 1
  | .slice elems spare => uptoBulkAll elems + uptoBulkAll spare + 1
  | .agg parts => uptoBulkAll parts + 1
  | .iface _ d => uptoBulk d + 1
  | .map entries => uptoBulkEntries entries + 1
  | .held _ => 1
def uptoBulkAll {H : Type} : List (DataW H) → Nat
  | [] => 0
  | d :: r => uptoBulk d + uptoBulkAll r
def uptoBulkEntries {H : Type} : List (Lit × DataW H) → Nat
  | [] => 0
  | x :: r => uptoBulkEntry x + uptoBulkEntries r
def uptoBulkEntry {H : Type} : Lit × DataW H → Nat
  | (.string bytes, d) => bytes.length + uptoBulk d + 1
  | (_, d) => uptoBulk d + 1
 end
def uptoSmall : (H : Type) → List (DataW H) → Bool := fun _ ds => decide (uptoBulkAll ds ≤ 1048576)
def OpenSpec.upto (s : _root_.Go.ChangeSpec) : _root_.Go.OpenSpec := { _root_.Go.OpenSpec.ofChange s with cond := some uptoSmall }

/-- 'halidelaw9.KernelTaps', WHERE WHAT IT READS IS OF BULK AT MOST 1048576: true; the input reads as it did. -/
def kernelTapsUptoRow : OpenClaim := { program := "ytgajobomimcoaaa", sum := "6e35735cbd93abfdf094e2ed99ce410ca1b2f3831233ea6c94ba7f670e7473b4", func := "halide/halidelaw9.KernelTaps", spec := "kernelTaps", unfollowed := true, recurses := true, apart := false, narrowed := true }
def KernelTapsUptoSaid : Prop := kernelTapsUptoRow.holds Try.pinned (OpenSpec.upto kernelTapsSpec)

/-- 'halidelaw9.KernelAll', WHERE WHAT IT READS IS OF BULK AT MOST 1048576: true; the input reads as it did. -/
def kernelAllUptoRow : OpenClaim := { program := "ytgajobomimcoaaa", sum := "6e35735cbd93abfdf094e2ed99ce410ca1b2f3831233ea6c94ba7f670e7473b4", func := "halide/halidelaw9.KernelAll", spec := "kernelAll", unfollowed := true, recurses := true, apart := false, narrowed := true }
def KernelAllUptoSaid : Prop := kernelAllUptoRow.holds Try.pinned (OpenSpec.upto kernelAllSpec)

/-- 'halidelaw9.KernelShares', WHERE WHAT IT READS IS OF BULK AT MOST 1048576: true; the input reads as it did. -/
def kernelSharesUptoRow : OpenClaim := { program := "ytgajobomimcoaaa", sum := "6e35735cbd93abfdf094e2ed99ce410ca1b2f3831233ea6c94ba7f670e7473b4", func := "halide/halidelaw9.KernelShares", spec := "kernelShares", unfollowed := true, recurses := true, apart := false, narrowed := true }
def KernelSharesUptoSaid : Prop := kernelSharesUptoRow.holds Try.pinned (OpenSpec.upto kernelSharesSpec)

/-- 'halidelaw9.KernelRows', WHERE WHAT IT READS IS OF BULK AT MOST 1048576: true; the input reads as it did. -/
def kernelRowsUptoRow : OpenClaim := { program := "ytgajobomimcoaaa", sum := "6e35735cbd93abfdf094e2ed99ce410ca1b2f3831233ea6c94ba7f670e7473b4", func := "halide/halidelaw9.KernelRows", spec := "kernelRows", unfollowed := true, recurses := true, apart := false, narrowed := true }
def KernelRowsUptoSaid : Prop := kernelRowsUptoRow.holds Try.pinned (OpenSpec.upto kernelRowsSpec)

/-- 'halidelaw9.KernelOnes', WHERE WHAT IT READS IS OF BULK AT MOST 1048576: true; the input reads as it did. -/
def kernelOnesUptoRow : OpenClaim := { program := "ytgajobomimcoaaa", sum := "6e35735cbd93abfdf094e2ed99ce410ca1b2f3831233ea6c94ba7f670e7473b4", func := "halide/halidelaw9.KernelOnes", spec := "kernelOnes", unfollowed := true, recurses := true, apart := false, narrowed := true }
def KernelOnesUptoSaid : Prop := kernelOnesUptoRow.holds Try.pinned (OpenSpec.upto kernelOnesSpec)

/-- 'halidelaw9.KernelSums', WHERE WHAT IT READS IS OF BULK AT MOST 1048576: true; the input reads as it did. -/
def kernelSumsUptoRow : OpenClaim := { program := "ytgajobomimcoaaa", sum := "6e35735cbd93abfdf094e2ed99ce410ca1b2f3831233ea6c94ba7f670e7473b4", func := "halide/halidelaw9.KernelSums", spec := "kernelSums", unfollowed := true, recurses := true, apart := false, narrowed := true }
def KernelSumsUptoSaid : Prop := kernelSumsUptoRow.holds Try.pinned (OpenSpec.upto kernelSumsSpec)

end Rows
end Go.Proofs.Ytgajobomimcoaaa
