/- The drawn region of the statements' helper same. (gen_tyu.py) -/
import Derived.Test.YtieojgblamkgoaaGreatDoorG66edaefc
import Derived.Test.YtieojgblamkgoaaGreatDoorG1976cb7d
import Derived.Test.YtieojgblamkgoaaGreatDoorG0317dd36
namespace Go.Proofs.YtieojgblamkgoaaGreatDoor
open Go.RowKit
set_option linter.unusedVariables false
set_option linter.unusedSimpArgs false
set_option maxRecDepth 100000

def spI (I : List Int) : Spec := ⟨fun v x => ISl x v I, fun h q => ISl.next h q⟩
section
variable {P : Program} {ρ : Operand → Value} {x : World} {d : Option Tmp} {ty : TypeId} {ps : String} {af : Array Edge} {g : Option (Nat × Bool)}
theorem run_equ {i j : Nat} {n : Int} (h : ρ (.tmp i) = .int .u32 n) (h' : ρ (.tmp j) = .int .u32 n) : (execOp ρ { dst := d, op := .binOp .eql 43 (.tmp i) (.tmp j) 43, type := ty, pos := ps, after := af, guard := g }).run Tryz.prog x = .ok (.value (.bool true)) x := by
  simp [execOp, h, h', go_sem]
theorem run_eqe {i j : Nat} {n : Int} (h : ρ (.tmp i) = .int .i64 n) (h' : ρ (.tmp j) = .int .i64 n) : (execOp ρ { dst := d, op := .binOp .eql 32 (.tmp i) (.tmp j) 32, type := ty, pos := ps, after := af, guard := g }).run Tryz.prog x = .ok (.value (.bool true)) x := by
  simp [execOp, h, h', go_sem]
theorem run_eqi {i j : Nat} {n : Int} (h : ρ (.tmp i) = .int .i64 n) (h' : ρ (.tmp j) = .int .i64 n) : (execOp ρ { dst := d, op := .binOp .eql 3 (.tmp i) (.tmp j) 3, type := ty, pos := ps, after := af, guard := g }).run Tryz.prog x = .ok (.value (.bool true)) x := by
  simp [execOp, h, h', go_sem]
theorem run_nckS {j : Nat} {p : Addr} (h : ρ (.tmp j) = .pointer (some p)) : (execOp ρ { dst := d, op := .nilCheck (.tmp j), type := ty, pos := ps, after := af, guard := g }).run P x = .ok (.value (.pointer (some p))) x := by
  simp [execOp, h, go_sem]
theorem run_faS {j b : Nat} (h : ρ (.tmp j) = .pointer (some ⟨b, 0, none⟩)) : (execOp ρ { dst := d, op := .fieldAddr 76 (.tmp j) 0, type := ty, pos := ps, after := af, guard := g }).run Tryz.prog x = .ok (.value (.pointer (some ⟨b, 0, none⟩))) x := by
  simp [execOp, h, go_sem]
theorem run_ldS {j : Nat} {p : Addr} {v : Value} (h : ρ (.tmp j) = .pointer (some p)) (hc : x.cell? p = some v) : (execOp ρ { dst := d, op := .load 70 (.tmp j), type := ty, pos := ps, after := af, guard := g }).run Tryz.prog x = .ok (.value v) x := by
  simp [execOp, h, go_sem, hc]
end
def oSA_0 : Oper := { dst := some 37, op := .move (.tmp 5), type := 43, pos := "whatfor.go:59", after := #[], guard := none }
def oSA_1 : Oper := { dst := some 38, op := .move (.tmp 7), type := 43, pos := "whatfor.go:59", after := #[], guard := none }
def oSA_2 : Oper := { dst := some 39, op := .binOp .eql 43 (.tmp 37) (.tmp 38) 43, type := 4, pos := "whatfor.go:59", after := #[⟨0, .data⟩, ⟨1, .data⟩], guard := none }
def oSA_3 : Oper := { dst := some 40, op := .move (.tmp 39), type := 4, pos := "whatfor.go:59", after := #[⟨2, .data⟩], guard := none }
def oSA_4 : Oper := { dst := some 41, op := .move (.tmp 6), type := 32, pos := "whatfor.go:59", after := #[⟨3, .guard⟩], guard := some (3, true) }
def oSA_5 : Oper := { dst := some 42, op := .move (.tmp 8), type := 32, pos := "whatfor.go:59", after := #[⟨3, .guard⟩], guard := some (3, true) }
def oSA_6 : Oper := { dst := some 43, op := .binOp .eql 32 (.tmp 41) (.tmp 42) 32, type := 4, pos := "whatfor.go:59", after := #[⟨4, .data⟩, ⟨5, .data⟩, ⟨3, .guard⟩], guard := some (3, true) }
def oSA_7 : Oper := { dst := some 44, op := .pick (.tmp 40) (.tmp 43) (.const (.bool false)), type := 4, pos := "whatfor.go:59", after := #[⟨3, .data⟩, ⟨6, .data⟩], guard := none }
def oSA_8 : Oper := { dst := some 45, op := .move (.tmp 44), type := 4, pos := "whatfor.go:59", after := #[⟨7, .data⟩, ⟨3, .chain⟩], guard := none }
def oSA_9 : Oper := { dst := some 46, op := .move (.tmp 9), type := 43, pos := "whatfor.go:59", after := #[⟨8, .guard⟩], guard := some (8, true) }
def oSA_10 : Oper := { dst := some 47, op := .move (.tmp 12), type := 43, pos := "whatfor.go:59", after := #[⟨8, .guard⟩], guard := some (8, true) }
def oSA_11 : Oper := { dst := some 48, op := .binOp .eql 43 (.tmp 46) (.tmp 47) 43, type := 4, pos := "whatfor.go:59", after := #[⟨9, .data⟩, ⟨10, .data⟩, ⟨8, .guard⟩], guard := some (8, true) }
def oSA_12 : Oper := { dst := some 49, op := .pick (.tmp 45) (.tmp 48) (.const (.bool false)), type := 4, pos := "whatfor.go:59", after := #[⟨8, .data⟩, ⟨11, .data⟩], guard := none }
def oSA_13 : Oper := { dst := some 50, op := .move (.tmp 49), type := 4, pos := "whatfor.go:59", after := #[⟨12, .data⟩, ⟨8, .chain⟩], guard := none }
def oSA_14 : Oper := { dst := some 51, op := .move (.tmp 10), type := 43, pos := "whatfor.go:59", after := #[⟨13, .guard⟩], guard := some (13, true) }
def oSA_15 : Oper := { dst := some 52, op := .move (.tmp 13), type := 43, pos := "whatfor.go:59", after := #[⟨13, .guard⟩], guard := some (13, true) }
def oSA_16 : Oper := { dst := some 53, op := .binOp .eql 43 (.tmp 51) (.tmp 52) 43, type := 4, pos := "whatfor.go:59", after := #[⟨14, .data⟩, ⟨15, .data⟩, ⟨13, .guard⟩], guard := some (13, true) }
def oSA_17 : Oper := { dst := some 54, op := .pick (.tmp 50) (.tmp 53) (.const (.bool false)), type := 4, pos := "whatfor.go:59", after := #[⟨13, .data⟩, ⟨16, .data⟩], guard := none }
def oSA_18 : Oper := { dst := some 55, op := .move (.tmp 54), type := 4, pos := "whatfor.go:59", after := #[⟨17, .data⟩, ⟨13, .chain⟩], guard := none }
def oSA_19 : Oper := { dst := some 56, op := .move (.tmp 11), type := 32, pos := "whatfor.go:59", after := #[⟨18, .guard⟩], guard := some (18, true) }
def oSA_20 : Oper := { dst := some 57, op := .move (.tmp 14), type := 32, pos := "whatfor.go:59", after := #[⟨18, .guard⟩], guard := some (18, true) }
def oSA_21 : Oper := { dst := some 58, op := .binOp .eql 32 (.tmp 56) (.tmp 57) 32, type := 4, pos := "whatfor.go:59", after := #[⟨19, .data⟩, ⟨20, .data⟩, ⟨18, .guard⟩], guard := some (18, true) }
def oSA_22 : Oper := { dst := some 59, op := .pick (.tmp 55) (.tmp 58) (.const (.bool false)), type := 4, pos := "whatfor.go:59", after := #[⟨18, .data⟩, ⟨21, .data⟩], guard := none }
def oSA_23 : Oper := { dst := some 60, op := .move (.tmp 59), type := 4, pos := "whatfor.go:59", after := #[⟨22, .data⟩, ⟨18, .chain⟩], guard := none }
def oSA_24 : Oper := { dst := some 61, op := .move (.tmp 0), type := 31, pos := "whatfor.go:59", after := #[⟨23, .guard⟩], guard := some (23, true) }
def oSA_25 : Oper := { dst := some 62, op := .nilCheck (.tmp 61), type := 0, pos := "whatfor.go:59", after := #[⟨24, .data⟩, ⟨23, .guard⟩], guard := some (23, true) }
def oSA_26 : Oper := { dst := some 63, op := .fieldAddr 76 (.tmp 62) 0, type := 0, pos := "whatfor.go:59", after := #[⟨25, .data⟩, ⟨23, .guard⟩], guard := some (23, true) }
def oSA_27 : Oper := { dst := some 64, op := .load 70 (.tmp 63), type := 70, pos := "whatfor.go:59", after := #[⟨26, .data⟩, ⟨23, .guard⟩], guard := some (23, true) }
def oSA_28 : Oper := { dst := some 65, op := .call { callee := .value (.func 37), args := #[.tmp 64], argTypes := #[70] }, type := 43, pos := "whatfor.go:59", after := #[⟨27, .data⟩, ⟨23, .chain⟩, ⟨23, .guard⟩], guard := some (23, true) }
def oSA_29 : Oper := { dst := some 66, op := .move (.tmp 1), type := 31, pos := "whatfor.go:59", after := #[⟨23, .guard⟩], guard := some (23, true) }
def oSA_30 : Oper := { dst := some 67, op := .nilCheck (.tmp 66), type := 0, pos := "whatfor.go:59", after := #[⟨29, .data⟩, ⟨23, .guard⟩], guard := some (23, true) }
def oSA_31 : Oper := { dst := some 68, op := .fieldAddr 76 (.tmp 67) 0, type := 0, pos := "whatfor.go:59", after := #[⟨30, .data⟩, ⟨23, .guard⟩], guard := some (23, true) }
def oSA_32 : Oper := { dst := some 69, op := .load 70 (.tmp 68), type := 70, pos := "whatfor.go:59", after := #[⟨31, .data⟩, ⟨23, .guard⟩], guard := some (23, true) }
def oSA_33 : Oper := { dst := some 70, op := .call { callee := .value (.func 37), args := #[.tmp 69], argTypes := #[70] }, type := 43, pos := "whatfor.go:59", after := #[⟨32, .data⟩, ⟨28, .chain⟩, ⟨23, .guard⟩], guard := some (23, true) }
def oSA_34 : Oper := { dst := some 71, op := .binOp .eql 43 (.tmp 65) (.tmp 70) 43, type := 4, pos := "whatfor.go:59", after := #[⟨28, .data⟩, ⟨33, .data⟩, ⟨23, .guard⟩], guard := some (23, true) }
def oSA_35 : Oper := { dst := some 72, op := .pick (.tmp 60) (.tmp 71) (.const (.bool false)), type := 4, pos := "whatfor.go:59", after := #[⟨23, .data⟩, ⟨34, .data⟩], guard := none }
def oSA_36 : Oper := { dst := some 73, op := .move (.tmp 72), type := 4, pos := "whatfor.go:59", after := #[⟨35, .data⟩, ⟨33, .chain⟩], guard := none }
def oSA_37 : Oper := { dst := some 74, op := .move (.tmp 0), type := 31, pos := "whatfor.go:59", after := #[⟨36, .guard⟩], guard := some (36, true) }
def oSA_38 : Oper := { dst := some 75, op := .nilCheck (.tmp 74), type := 0, pos := "whatfor.go:59", after := #[⟨37, .data⟩, ⟨36, .guard⟩], guard := some (36, true) }
def oSA_39 : Oper := { dst := some 76, op := .fieldAddr 76 (.tmp 75) 0, type := 0, pos := "whatfor.go:59", after := #[⟨38, .data⟩, ⟨36, .guard⟩], guard := some (36, true) }
def oSA_40 : Oper := { dst := some 77, op := .load 70 (.tmp 76), type := 70, pos := "whatfor.go:59", after := #[⟨39, .data⟩, ⟨36, .guard⟩], guard := some (36, true) }
def oSA_41 : Oper := { dst := some 78, op := .call { callee := .value (.func 32), args := #[.tmp 77], argTypes := #[70] }, type := 3, pos := "whatfor.go:59", after := #[⟨40, .data⟩, ⟨36, .chain⟩, ⟨36, .guard⟩], guard := some (36, true) }
def oSA_42 : Oper := { dst := some 79, op := .move (.tmp 1), type := 31, pos := "whatfor.go:59", after := #[⟨36, .guard⟩], guard := some (36, true) }
def oSA_43 : Oper := { dst := some 80, op := .nilCheck (.tmp 79), type := 0, pos := "whatfor.go:59", after := #[⟨42, .data⟩, ⟨36, .guard⟩], guard := some (36, true) }
def oSA_44 : Oper := { dst := some 81, op := .fieldAddr 76 (.tmp 80) 0, type := 0, pos := "whatfor.go:59", after := #[⟨43, .data⟩, ⟨36, .guard⟩], guard := some (36, true) }
def oSA_45 : Oper := { dst := some 82, op := .load 70 (.tmp 81), type := 70, pos := "whatfor.go:59", after := #[⟨44, .data⟩, ⟨36, .guard⟩], guard := some (36, true) }
def oSA_46 : Oper := { dst := some 83, op := .call { callee := .value (.func 32), args := #[.tmp 82], argTypes := #[70] }, type := 3, pos := "whatfor.go:59", after := #[⟨45, .data⟩, ⟨41, .chain⟩, ⟨36, .guard⟩], guard := some (36, true) }
def oSA_47 : Oper := { dst := some 84, op := .binOp .eql 3 (.tmp 78) (.tmp 83) 3, type := 4, pos := "whatfor.go:59", after := #[⟨41, .data⟩, ⟨46, .data⟩, ⟨36, .guard⟩], guard := some (36, true) }
def oSA_48 : Oper := { dst := some 85, op := .pick (.tmp 73) (.tmp 84) (.const (.bool false)), type := 4, pos := "whatfor.go:59", after := #[⟨36, .data⟩, ⟨47, .data⟩], guard := none }
def oSA_49 : Oper := { dst := some 86, op := .move (.tmp 85), type := 4, pos := "whatfor.go:59", after := #[⟨48, .data⟩, ⟨46, .chain⟩], guard := none }
def oSA_50 : Oper := { dst := some 87, op := .move (.tmp 0), type := 31, pos := "whatfor.go:59", after := #[⟨49, .guard⟩], guard := some (49, true) }
def oSA_51 : Oper := { dst := some 88, op := .call { callee := .value (.func 33), args := #[.tmp 87], argTypes := #[31] }, type := 3, pos := "whatfor.go:59", after := #[⟨50, .data⟩, ⟨49, .chain⟩, ⟨49, .guard⟩], guard := some (49, true) }
def oSA_52 : Oper := { dst := some 89, op := .move (.tmp 1), type := 31, pos := "whatfor.go:59", after := #[⟨49, .guard⟩], guard := some (49, true) }
def oSA_53 : Oper := { dst := some 90, op := .call { callee := .value (.func 33), args := #[.tmp 89], argTypes := #[31] }, type := 3, pos := "whatfor.go:59", after := #[⟨52, .data⟩, ⟨51, .chain⟩, ⟨49, .guard⟩], guard := some (49, true) }
def oSA_54 : Oper := { dst := some 91, op := .binOp .eql 3 (.tmp 88) (.tmp 90) 3, type := 4, pos := "whatfor.go:59", after := #[⟨51, .data⟩, ⟨53, .data⟩, ⟨49, .guard⟩], guard := some (49, true) }
def oSA_55 : Oper := { dst := some 92, op := .pick (.tmp 86) (.tmp 91) (.const (.bool false)), type := 4, pos := "whatfor.go:59", after := #[⟨49, .data⟩, ⟨54, .data⟩], guard := none }
def oSA_56 : Oper := { dst := some 93, op := .move (.tmp 92), type := 4, pos := "whatfor.go:59", after := #[⟨55, .data⟩, ⟨53, .chain⟩], guard := none }
def oSA_57 : Oper := { dst := some 94, op := .move (.tmp 0), type := 31, pos := "whatfor.go:59", after := #[⟨56, .guard⟩], guard := some (56, true) }
def oSA_58 : Oper := { dst := some 95, op := .call { callee := .value (.func 30), args := #[.tmp 94], argTypes := #[31] }, type := 60, pos := "whatfor.go:59", after := #[⟨57, .data⟩, ⟨56, .chain⟩, ⟨56, .guard⟩], guard := some (56, true) }
def oSA_59 : Oper := { dst := some 96, op := .move (.tmp 1), type := 31, pos := "whatfor.go:59", after := #[⟨56, .guard⟩], guard := some (56, true) }
def oSA_60 : Oper := { dst := some 97, op := .call { callee := .value (.func 30), args := #[.tmp 96], argTypes := #[31] }, type := 60, pos := "whatfor.go:59", after := #[⟨59, .data⟩, ⟨58, .chain⟩, ⟨56, .guard⟩], guard := some (56, true) }
def oSA_61 : Oper := { dst := some 98, op := .call { callee := .value (.func 49), args := #[.tmp 95, .tmp 97], argTypes := #[60, 60] }, type := 4, pos := "whatfor.go:59", after := #[⟨58, .data⟩, ⟨60, .data⟩, ⟨60, .chain⟩, ⟨56, .guard⟩], guard := some (56, true) }
def oSA_62 : Oper := { dst := some 99, op := .pick (.tmp 93) (.tmp 98) (.const (.bool false)), type := 4, pos := "whatfor.go:59", after := #[⟨56, .data⟩, ⟨61, .data⟩], guard := none }
def oSA_63 : Oper := { dst := some 4, op := .assign (.tmp 99), type := 4, pos := "whatfor.go:59", after := #[⟨62, .data⟩, ⟨61, .chain⟩, ⟨0, .phase⟩, ⟨1, .phase⟩, ⟨2, .phase⟩, ⟨3, .phase⟩, ⟨4, .phase⟩, ⟨5, .phase⟩, ⟨6, .phase⟩, ⟨7, .phase⟩, ⟨8, .phase⟩, ⟨9, .phase⟩, ⟨10, .phase⟩, ⟨11, .phase⟩, ⟨12, .phase⟩, ⟨13, .phase⟩, ⟨14, .phase⟩, ⟨15, .phase⟩, ⟨16, .phase⟩, ⟨17, .phase⟩, ⟨18, .phase⟩, ⟨19, .phase⟩, ⟨20, .phase⟩, ⟨21, .phase⟩, ⟨22, .phase⟩, ⟨23, .phase⟩, ⟨24, .phase⟩, ⟨25, .phase⟩, ⟨26, .phase⟩, ⟨27, .phase⟩, ⟨28, .phase⟩, ⟨29, .phase⟩, ⟨30, .phase⟩, ⟨31, .phase⟩, ⟨32, .phase⟩, ⟨33, .phase⟩, ⟨34, .phase⟩, ⟨35, .phase⟩, ⟨36, .phase⟩, ⟨37, .phase⟩, ⟨38, .phase⟩, ⟨39, .phase⟩, ⟨40, .phase⟩, ⟨41, .phase⟩, ⟨42, .phase⟩, ⟨43, .phase⟩, ⟨44, .phase⟩, ⟨45, .phase⟩, ⟨46, .phase⟩, ⟨47, .phase⟩, ⟨48, .phase⟩, ⟨49, .phase⟩, ⟨50, .phase⟩, ⟨51, .phase⟩, ⟨52, .phase⟩, ⟨53, .phase⟩, ⟨54, .phase⟩, ⟨55, .phase⟩, ⟨56, .phase⟩, ⟨57, .phase⟩, ⟨58, .phase⟩, ⟨59, .phase⟩, ⟨60, .phase⟩, ⟨61, .phase⟩, ⟨62, .phase⟩], guard := none }
def opsSA : List Oper := [oSA_0, oSA_1, oSA_2, oSA_3, oSA_4, oSA_5, oSA_6, oSA_7, oSA_8, oSA_9, oSA_10, oSA_11, oSA_12, oSA_13, oSA_14, oSA_15, oSA_16, oSA_17, oSA_18, oSA_19, oSA_20, oSA_21, oSA_22, oSA_23, oSA_24, oSA_25, oSA_26, oSA_27, oSA_28, oSA_29, oSA_30, oSA_31, oSA_32, oSA_33, oSA_34, oSA_35, oSA_36, oSA_37, oSA_38, oSA_39, oSA_40, oSA_41, oSA_42, oSA_43, oSA_44, oSA_45, oSA_46, oSA_47, oSA_48, oSA_49, oSA_50, oSA_51, oSA_52, oSA_53, oSA_54, oSA_55, oSA_56, oSA_57, oSA_58, oSA_59, oSA_60, oSA_61, oSA_62, oSA_63]
def sSA : List Nat := [37, 38, 39, 40, 41, 42, 43, 44, 45, 46, 47, 48, 49, 50, 51, 52, 53, 54, 55, 56, 57, 58, 59, 60, 61, 62, 63, 64, 65, 66, 67, 68, 69, 70, 71, 72, 73, 74, 75, 76, 77, 78, 79, 80, 81, 82, 83, 84, 85, 86, 87, 88, 89, 90, 91, 92, 93, 94, 95, 96, 97, 98, 99]
def spSA (P A P2 A2 : Nat) (m1 e1 e2 sm : Nat) (m2 e3 nL nc : Int) (I : List Int) : List Spec := [spV (.int .u32 (m1 : Int)), spV (.int .u32 (m1 : Int)), spV (.bool true), spV (.bool true), spV (.int .i64 m2), spV (.int .i64 m2), spV (.bool true), spV (.bool true), spV (.bool true), spV (.int .u32 (e1 : Int)), spV (.int .u32 (e1 : Int)), spV (.bool true), spV (.bool true), spV (.bool true), spV (.int .u32 (e2 : Int)), spV (.int .u32 (e2 : Int)), spV (.bool true), spV (.bool true), spV (.bool true), spV (.int .i64 e3), spV (.int .i64 e3), spV (.bool true), spV (.bool true), spV (.bool true), spV (.pointer (some ⟨P, 0, none⟩)), spV (.pointer (some ⟨P, 0, none⟩)), spV (.pointer (some ⟨P, 0, none⟩)), spV (.pointer (some ⟨A, 0, none⟩)), spV (.int .u32 (sm : Int)), spV (.pointer (some ⟨P2, 0, none⟩)), spV (.pointer (some ⟨P2, 0, none⟩)), spV (.pointer (some ⟨P2, 0, none⟩)), spV (.pointer (some ⟨A2, 0, none⟩)), spV (.int .u32 (sm : Int)), spV (.bool true), spV (.bool true), spV (.bool true), spV (.pointer (some ⟨P, 0, none⟩)), spV (.pointer (some ⟨P, 0, none⟩)), spV (.pointer (some ⟨P, 0, none⟩)), spV (.pointer (some ⟨A, 0, none⟩)), spV (.int .i64 nL), spV (.pointer (some ⟨P2, 0, none⟩)), spV (.pointer (some ⟨P2, 0, none⟩)), spV (.pointer (some ⟨P2, 0, none⟩)), spV (.pointer (some ⟨A2, 0, none⟩)), spV (.int .i64 nL), spV (.bool true), spV (.bool true), spV (.bool true), spV (.pointer (some ⟨P, 0, none⟩)), spV (.int .i64 nc), spV (.pointer (some ⟨P2, 0, none⟩)), spV (.int .i64 nc), spV (.bool true), spV (.bool true), spV (.bool true), spV (.pointer (some ⟨P, 0, none⟩)), spI I, spV (.pointer (some ⟨P2, 0, none⟩)), spI I, spV (.bool true), spV (.bool true)]
structure EnvSA (a0 : Act) (w : World) (P A P2 A2 : Nat) (m1 e1 e2 sm : Nat) (m2 e3 nL nc : Int) (I : List Int) : Prop where
  h0 : a0.tmps[0]? = some (.pointer (some ⟨P, 0, none⟩))
  h1 : a0.tmps[1]? = some (.pointer (some ⟨P2, 0, none⟩))
  h5 : a0.tmps[5]? = some (.int .u32 (m1 : Int))
  h7 : a0.tmps[7]? = some (.int .u32 (m1 : Int))
  h6 : a0.tmps[6]? = some (.int .i64 m2)
  h8 : a0.tmps[8]? = some (.int .i64 m2)
  h9 : a0.tmps[9]? = some (.int .u32 (e1 : Int))
  h12 : a0.tmps[12]? = some (.int .u32 (e1 : Int))
  h10 : a0.tmps[10]? = some (.int .u32 (e2 : Int))
  h13 : a0.tmps[13]? = some (.int .u32 (e2 : Int))
  h11 : a0.tmps[11]? = some (.int .i64 e3)
  h14 : a0.tmps[14]? = some (.int .i64 e3)
  c0 : w.cell? ⟨P, 0, none⟩ = some (.pointer (some ⟨A, 0, none⟩))
  c1 : w.cell? ⟨P2, 0, none⟩ = some (.pointer (some ⟨A2, 0, none⟩))
  hI : I.length ≤ 100000
  k5 : ∀ x, Q w x → Calls Tryz.prog 37 #[.pointer (some ⟨A, 0, none⟩)] x fun e w' => e = .returned (.int .u32 (sm : Int)) ∧ Q x w'
  k6 : ∀ x, Q w x → Calls Tryz.prog 37 #[.pointer (some ⟨A2, 0, none⟩)] x fun e w' => e = .returned (.int .u32 (sm : Int)) ∧ Q x w'
  k7 : ∀ x, Q w x → Calls Tryz.prog 32 #[.pointer (some ⟨A, 0, none⟩)] x fun e w' => e = .returned (.int .i64 nL) ∧ Q x w'
  k8 : ∀ x, Q w x → Calls Tryz.prog 32 #[.pointer (some ⟨A2, 0, none⟩)] x fun e w' => e = .returned (.int .i64 nL) ∧ Q x w'
  k9 : ∀ x, Q w x → Calls Tryz.prog 33 #[.pointer (some ⟨P, 0, none⟩)] x fun e w' => e = .returned (.int .i64 nc) ∧ Q x w'
  k10 : ∀ x, Q w x → Calls Tryz.prog 33 #[.pointer (some ⟨P2, 0, none⟩)] x fun e w' => e = .returned (.int .i64 nc) ∧ Q x w'
  k11 : ∀ x, Q w x → Calls Tryz.prog 30 #[.pointer (some ⟨P, 0, none⟩)] x fun e w' => ∃ v, e = .returned v ∧ ISl w' v I ∧ Q x w'
  k12 : ∀ x, Q w x → Calls Tryz.prog 30 #[.pointer (some ⟨P2, 0, none⟩)] x fun e w' => ∃ v, e = .returned v ∧ ISl w' v I ∧ Q x w'
theorem ySA_0 {a0 : Act} {w : World} {P A P2 A2 : Nat} {m1 e1 e2 sm : Nat} {m2 e3 nL nc : Int} {I : List Int} (E : EnvSA a0 w P A P2 A2 m1 e1 e2 sm m2 e3 nL nc I) {R : Exit → Act → World → Prop} {a : Act} {x : World} (q : Q w x) (oth : ∀ j, j ∉ sSA → a.tmps[j]? = a0.tmps[j]?) (dep : ∀ ed ∈ oSA_0.after, Region.binds .any ed = true → ∀ t', sSA[ed.on]? = some t' → ∃ v, a.tmps[t']? = some v ∧ specAt (spSA P A P2 A2 m1 e1 e2 sm m2 e3 nL nc I) ed.on v x) : Yld Tryz.prog R oSA_0 a x 37 (fun v x' => specAt (spSA P A P2 A2 m1 e1 e2 sm m2 e3 nL nc I) 0 v x' ∧ (0 ∈ ([] : List Nat) → v = ptrV x.heap.size)) := by
  exact yld_move ((oth 5 (by decide)).trans E.h5) ⟨rfl, fun h => absurd h (by decide)⟩
theorem ySA_1 {a0 : Act} {w : World} {P A P2 A2 : Nat} {m1 e1 e2 sm : Nat} {m2 e3 nL nc : Int} {I : List Int} (E : EnvSA a0 w P A P2 A2 m1 e1 e2 sm m2 e3 nL nc I) {R : Exit → Act → World → Prop} {a : Act} {x : World} (q : Q w x) (oth : ∀ j, j ∉ sSA → a.tmps[j]? = a0.tmps[j]?) (dep : ∀ ed ∈ oSA_1.after, Region.binds .any ed = true → ∀ t', sSA[ed.on]? = some t' → ∃ v, a.tmps[t']? = some v ∧ specAt (spSA P A P2 A2 m1 e1 e2 sm m2 e3 nL nc I) ed.on v x) : Yld Tryz.prog R oSA_1 a x 38 (fun v x' => specAt (spSA P A P2 A2 m1 e1 e2 sm m2 e3 nL nc I) 1 v x' ∧ (1 ∈ ([] : List Nat) → v = ptrV x.heap.size)) := by
  exact yld_move ((oth 7 (by decide)).trans E.h7) ⟨rfl, fun h => absurd h (by decide)⟩
theorem ySA_2 {a0 : Act} {w : World} {P A P2 A2 : Nat} {m1 e1 e2 sm : Nat} {m2 e3 nL nc : Int} {I : List Int} (E : EnvSA a0 w P A P2 A2 m1 e1 e2 sm m2 e3 nL nc I) {R : Exit → Act → World → Prop} {a : Act} {x : World} (q : Q w x) (oth : ∀ j, j ∉ sSA → a.tmps[j]? = a0.tmps[j]?) (dep : ∀ ed ∈ oSA_2.after, Region.binds .any ed = true → ∀ t', sSA[ed.on]? = some t' → ∃ v, a.tmps[t']? = some v ∧ specAt (spSA P A P2 A2 m1 e1 e2 sm m2 e3 nL nc I) ed.on v x) : Yld Tryz.prog R oSA_2 a x 39 (fun v x' => specAt (spSA P A P2 A2 m1 e1 e2 sm m2 e3 nL nc I) 2 v x' ∧ (2 ∈ ([] : List Nat) → v = ptrV x.heap.size)) := by
  obtain ⟨v0, t0, f0⟩ := dep ⟨0, .data⟩ (by simp [oSA_2]) rfl 37 rfl
  have f0 : v0 = (.int .u32 (m1 : Int)) := f0
  subst f0
  obtain ⟨v1, t1, f1⟩ := dep ⟨1, .data⟩ (by simp [oSA_2]) rfl 38 rfl
  have f1 : v1 = (.int .u32 (m1 : Int)) := f1
  subst f1
  exact yld_run (x' := x) rfl (run_equ (tmp_eval t0) (tmp_eval t1)) (Q.refl x) ⟨rfl, fun h => absurd h (by decide)⟩
theorem ySA_3 {a0 : Act} {w : World} {P A P2 A2 : Nat} {m1 e1 e2 sm : Nat} {m2 e3 nL nc : Int} {I : List Int} (E : EnvSA a0 w P A P2 A2 m1 e1 e2 sm m2 e3 nL nc I) {R : Exit → Act → World → Prop} {a : Act} {x : World} (q : Q w x) (oth : ∀ j, j ∉ sSA → a.tmps[j]? = a0.tmps[j]?) (dep : ∀ ed ∈ oSA_3.after, Region.binds .any ed = true → ∀ t', sSA[ed.on]? = some t' → ∃ v, a.tmps[t']? = some v ∧ specAt (spSA P A P2 A2 m1 e1 e2 sm m2 e3 nL nc I) ed.on v x) : Yld Tryz.prog R oSA_3 a x 40 (fun v x' => specAt (spSA P A P2 A2 m1 e1 e2 sm m2 e3 nL nc I) 3 v x' ∧ (3 ∈ ([] : List Nat) → v = ptrV x.heap.size)) := by
  obtain ⟨v2, t2, f2⟩ := dep ⟨2, .data⟩ (by simp [oSA_3]) rfl 39 rfl
  have f2 : v2 = (.bool true) := f2
  subst f2
  exact yld_move t2 ⟨rfl, fun h => absurd h (by decide)⟩
theorem ySA_4 {a0 : Act} {w : World} {P A P2 A2 : Nat} {m1 e1 e2 sm : Nat} {m2 e3 nL nc : Int} {I : List Int} (E : EnvSA a0 w P A P2 A2 m1 e1 e2 sm m2 e3 nL nc I) {R : Exit → Act → World → Prop} {a : Act} {x : World} (q : Q w x) (oth : ∀ j, j ∉ sSA → a.tmps[j]? = a0.tmps[j]?) (dep : ∀ ed ∈ oSA_4.after, Region.binds .any ed = true → ∀ t', sSA[ed.on]? = some t' → ∃ v, a.tmps[t']? = some v ∧ specAt (spSA P A P2 A2 m1 e1 e2 sm m2 e3 nL nc I) ed.on v x) : Yld Tryz.prog R oSA_4 a x 41 (fun v x' => specAt (spSA P A P2 A2 m1 e1 e2 sm m2 e3 nL nc I) 4 v x' ∧ (4 ∈ ([] : List Nat) → v = ptrV x.heap.size)) := by
  exact yld_move ((oth 6 (by decide)).trans E.h6) ⟨rfl, fun h => absurd h (by decide)⟩
theorem ySA_5 {a0 : Act} {w : World} {P A P2 A2 : Nat} {m1 e1 e2 sm : Nat} {m2 e3 nL nc : Int} {I : List Int} (E : EnvSA a0 w P A P2 A2 m1 e1 e2 sm m2 e3 nL nc I) {R : Exit → Act → World → Prop} {a : Act} {x : World} (q : Q w x) (oth : ∀ j, j ∉ sSA → a.tmps[j]? = a0.tmps[j]?) (dep : ∀ ed ∈ oSA_5.after, Region.binds .any ed = true → ∀ t', sSA[ed.on]? = some t' → ∃ v, a.tmps[t']? = some v ∧ specAt (spSA P A P2 A2 m1 e1 e2 sm m2 e3 nL nc I) ed.on v x) : Yld Tryz.prog R oSA_5 a x 42 (fun v x' => specAt (spSA P A P2 A2 m1 e1 e2 sm m2 e3 nL nc I) 5 v x' ∧ (5 ∈ ([] : List Nat) → v = ptrV x.heap.size)) := by
  exact yld_move ((oth 8 (by decide)).trans E.h8) ⟨rfl, fun h => absurd h (by decide)⟩
theorem ySA_6 {a0 : Act} {w : World} {P A P2 A2 : Nat} {m1 e1 e2 sm : Nat} {m2 e3 nL nc : Int} {I : List Int} (E : EnvSA a0 w P A P2 A2 m1 e1 e2 sm m2 e3 nL nc I) {R : Exit → Act → World → Prop} {a : Act} {x : World} (q : Q w x) (oth : ∀ j, j ∉ sSA → a.tmps[j]? = a0.tmps[j]?) (dep : ∀ ed ∈ oSA_6.after, Region.binds .any ed = true → ∀ t', sSA[ed.on]? = some t' → ∃ v, a.tmps[t']? = some v ∧ specAt (spSA P A P2 A2 m1 e1 e2 sm m2 e3 nL nc I) ed.on v x) : Yld Tryz.prog R oSA_6 a x 43 (fun v x' => specAt (spSA P A P2 A2 m1 e1 e2 sm m2 e3 nL nc I) 6 v x' ∧ (6 ∈ ([] : List Nat) → v = ptrV x.heap.size)) := by
  obtain ⟨v4, t4, f4⟩ := dep ⟨4, .data⟩ (by simp [oSA_6]) rfl 41 rfl
  have f4 : v4 = (.int .i64 m2) := f4
  subst f4
  obtain ⟨v5, t5, f5⟩ := dep ⟨5, .data⟩ (by simp [oSA_6]) rfl 42 rfl
  have f5 : v5 = (.int .i64 m2) := f5
  subst f5
  exact yld_run (x' := x) rfl (run_eqe (tmp_eval t4) (tmp_eval t5)) (Q.refl x) ⟨rfl, fun h => absurd h (by decide)⟩
theorem ySA_7 {a0 : Act} {w : World} {P A P2 A2 : Nat} {m1 e1 e2 sm : Nat} {m2 e3 nL nc : Int} {I : List Int} (E : EnvSA a0 w P A P2 A2 m1 e1 e2 sm m2 e3 nL nc I) {R : Exit → Act → World → Prop} {a : Act} {x : World} (q : Q w x) (oth : ∀ j, j ∉ sSA → a.tmps[j]? = a0.tmps[j]?) (dep : ∀ ed ∈ oSA_7.after, Region.binds .any ed = true → ∀ t', sSA[ed.on]? = some t' → ∃ v, a.tmps[t']? = some v ∧ specAt (spSA P A P2 A2 m1 e1 e2 sm m2 e3 nL nc I) ed.on v x) : Yld Tryz.prog R oSA_7 a x 44 (fun v x' => specAt (spSA P A P2 A2 m1 e1 e2 sm m2 e3 nL nc I) 7 v x' ∧ (7 ∈ ([] : List Nat) → v = ptrV x.heap.size)) := by
  obtain ⟨v3, t3, f3⟩ := dep ⟨3, .data⟩ (by simp [oSA_7]) rfl 40 rfl
  have f3 : v3 = (.bool true) := f3
  subst f3
  obtain ⟨v6, t6, f6⟩ := dep ⟨6, .data⟩ (by simp [oSA_7]) rfl 43 rfl
  have f6 : v6 = (.bool true) := f6
  subst f6
  exact yld_pick t3 t6 ⟨rfl, fun h => absurd h (by decide)⟩
theorem ySA_8 {a0 : Act} {w : World} {P A P2 A2 : Nat} {m1 e1 e2 sm : Nat} {m2 e3 nL nc : Int} {I : List Int} (E : EnvSA a0 w P A P2 A2 m1 e1 e2 sm m2 e3 nL nc I) {R : Exit → Act → World → Prop} {a : Act} {x : World} (q : Q w x) (oth : ∀ j, j ∉ sSA → a.tmps[j]? = a0.tmps[j]?) (dep : ∀ ed ∈ oSA_8.after, Region.binds .any ed = true → ∀ t', sSA[ed.on]? = some t' → ∃ v, a.tmps[t']? = some v ∧ specAt (spSA P A P2 A2 m1 e1 e2 sm m2 e3 nL nc I) ed.on v x) : Yld Tryz.prog R oSA_8 a x 45 (fun v x' => specAt (spSA P A P2 A2 m1 e1 e2 sm m2 e3 nL nc I) 8 v x' ∧ (8 ∈ ([] : List Nat) → v = ptrV x.heap.size)) := by
  obtain ⟨v7, t7, f7⟩ := dep ⟨7, .data⟩ (by simp [oSA_8]) rfl 44 rfl
  have f7 : v7 = (.bool true) := f7
  subst f7
  exact yld_move t7 ⟨rfl, fun h => absurd h (by decide)⟩
theorem ySA_9 {a0 : Act} {w : World} {P A P2 A2 : Nat} {m1 e1 e2 sm : Nat} {m2 e3 nL nc : Int} {I : List Int} (E : EnvSA a0 w P A P2 A2 m1 e1 e2 sm m2 e3 nL nc I) {R : Exit → Act → World → Prop} {a : Act} {x : World} (q : Q w x) (oth : ∀ j, j ∉ sSA → a.tmps[j]? = a0.tmps[j]?) (dep : ∀ ed ∈ oSA_9.after, Region.binds .any ed = true → ∀ t', sSA[ed.on]? = some t' → ∃ v, a.tmps[t']? = some v ∧ specAt (spSA P A P2 A2 m1 e1 e2 sm m2 e3 nL nc I) ed.on v x) : Yld Tryz.prog R oSA_9 a x 46 (fun v x' => specAt (spSA P A P2 A2 m1 e1 e2 sm m2 e3 nL nc I) 9 v x' ∧ (9 ∈ ([] : List Nat) → v = ptrV x.heap.size)) := by
  exact yld_move ((oth 9 (by decide)).trans E.h9) ⟨rfl, fun h => absurd h (by decide)⟩
theorem ySA_10 {a0 : Act} {w : World} {P A P2 A2 : Nat} {m1 e1 e2 sm : Nat} {m2 e3 nL nc : Int} {I : List Int} (E : EnvSA a0 w P A P2 A2 m1 e1 e2 sm m2 e3 nL nc I) {R : Exit → Act → World → Prop} {a : Act} {x : World} (q : Q w x) (oth : ∀ j, j ∉ sSA → a.tmps[j]? = a0.tmps[j]?) (dep : ∀ ed ∈ oSA_10.after, Region.binds .any ed = true → ∀ t', sSA[ed.on]? = some t' → ∃ v, a.tmps[t']? = some v ∧ specAt (spSA P A P2 A2 m1 e1 e2 sm m2 e3 nL nc I) ed.on v x) : Yld Tryz.prog R oSA_10 a x 47 (fun v x' => specAt (spSA P A P2 A2 m1 e1 e2 sm m2 e3 nL nc I) 10 v x' ∧ (10 ∈ ([] : List Nat) → v = ptrV x.heap.size)) := by
  exact yld_move ((oth 12 (by decide)).trans E.h12) ⟨rfl, fun h => absurd h (by decide)⟩
theorem ySA_11 {a0 : Act} {w : World} {P A P2 A2 : Nat} {m1 e1 e2 sm : Nat} {m2 e3 nL nc : Int} {I : List Int} (E : EnvSA a0 w P A P2 A2 m1 e1 e2 sm m2 e3 nL nc I) {R : Exit → Act → World → Prop} {a : Act} {x : World} (q : Q w x) (oth : ∀ j, j ∉ sSA → a.tmps[j]? = a0.tmps[j]?) (dep : ∀ ed ∈ oSA_11.after, Region.binds .any ed = true → ∀ t', sSA[ed.on]? = some t' → ∃ v, a.tmps[t']? = some v ∧ specAt (spSA P A P2 A2 m1 e1 e2 sm m2 e3 nL nc I) ed.on v x) : Yld Tryz.prog R oSA_11 a x 48 (fun v x' => specAt (spSA P A P2 A2 m1 e1 e2 sm m2 e3 nL nc I) 11 v x' ∧ (11 ∈ ([] : List Nat) → v = ptrV x.heap.size)) := by
  obtain ⟨v9, t9, f9⟩ := dep ⟨9, .data⟩ (by simp [oSA_11]) rfl 46 rfl
  have f9 : v9 = (.int .u32 (e1 : Int)) := f9
  subst f9
  obtain ⟨v10, t10, f10⟩ := dep ⟨10, .data⟩ (by simp [oSA_11]) rfl 47 rfl
  have f10 : v10 = (.int .u32 (e1 : Int)) := f10
  subst f10
  exact yld_run (x' := x) rfl (run_equ (tmp_eval t9) (tmp_eval t10)) (Q.refl x) ⟨rfl, fun h => absurd h (by decide)⟩
theorem ySA_12 {a0 : Act} {w : World} {P A P2 A2 : Nat} {m1 e1 e2 sm : Nat} {m2 e3 nL nc : Int} {I : List Int} (E : EnvSA a0 w P A P2 A2 m1 e1 e2 sm m2 e3 nL nc I) {R : Exit → Act → World → Prop} {a : Act} {x : World} (q : Q w x) (oth : ∀ j, j ∉ sSA → a.tmps[j]? = a0.tmps[j]?) (dep : ∀ ed ∈ oSA_12.after, Region.binds .any ed = true → ∀ t', sSA[ed.on]? = some t' → ∃ v, a.tmps[t']? = some v ∧ specAt (spSA P A P2 A2 m1 e1 e2 sm m2 e3 nL nc I) ed.on v x) : Yld Tryz.prog R oSA_12 a x 49 (fun v x' => specAt (spSA P A P2 A2 m1 e1 e2 sm m2 e3 nL nc I) 12 v x' ∧ (12 ∈ ([] : List Nat) → v = ptrV x.heap.size)) := by
  obtain ⟨v8, t8, f8⟩ := dep ⟨8, .data⟩ (by simp [oSA_12]) rfl 45 rfl
  have f8 : v8 = (.bool true) := f8
  subst f8
  obtain ⟨v11, t11, f11⟩ := dep ⟨11, .data⟩ (by simp [oSA_12]) rfl 48 rfl
  have f11 : v11 = (.bool true) := f11
  subst f11
  exact yld_pick t8 t11 ⟨rfl, fun h => absurd h (by decide)⟩
theorem ySA_13 {a0 : Act} {w : World} {P A P2 A2 : Nat} {m1 e1 e2 sm : Nat} {m2 e3 nL nc : Int} {I : List Int} (E : EnvSA a0 w P A P2 A2 m1 e1 e2 sm m2 e3 nL nc I) {R : Exit → Act → World → Prop} {a : Act} {x : World} (q : Q w x) (oth : ∀ j, j ∉ sSA → a.tmps[j]? = a0.tmps[j]?) (dep : ∀ ed ∈ oSA_13.after, Region.binds .any ed = true → ∀ t', sSA[ed.on]? = some t' → ∃ v, a.tmps[t']? = some v ∧ specAt (spSA P A P2 A2 m1 e1 e2 sm m2 e3 nL nc I) ed.on v x) : Yld Tryz.prog R oSA_13 a x 50 (fun v x' => specAt (spSA P A P2 A2 m1 e1 e2 sm m2 e3 nL nc I) 13 v x' ∧ (13 ∈ ([] : List Nat) → v = ptrV x.heap.size)) := by
  obtain ⟨v12, t12, f12⟩ := dep ⟨12, .data⟩ (by simp [oSA_13]) rfl 49 rfl
  have f12 : v12 = (.bool true) := f12
  subst f12
  exact yld_move t12 ⟨rfl, fun h => absurd h (by decide)⟩
theorem ySA_14 {a0 : Act} {w : World} {P A P2 A2 : Nat} {m1 e1 e2 sm : Nat} {m2 e3 nL nc : Int} {I : List Int} (E : EnvSA a0 w P A P2 A2 m1 e1 e2 sm m2 e3 nL nc I) {R : Exit → Act → World → Prop} {a : Act} {x : World} (q : Q w x) (oth : ∀ j, j ∉ sSA → a.tmps[j]? = a0.tmps[j]?) (dep : ∀ ed ∈ oSA_14.after, Region.binds .any ed = true → ∀ t', sSA[ed.on]? = some t' → ∃ v, a.tmps[t']? = some v ∧ specAt (spSA P A P2 A2 m1 e1 e2 sm m2 e3 nL nc I) ed.on v x) : Yld Tryz.prog R oSA_14 a x 51 (fun v x' => specAt (spSA P A P2 A2 m1 e1 e2 sm m2 e3 nL nc I) 14 v x' ∧ (14 ∈ ([] : List Nat) → v = ptrV x.heap.size)) := by
  exact yld_move ((oth 10 (by decide)).trans E.h10) ⟨rfl, fun h => absurd h (by decide)⟩
theorem ySA_15 {a0 : Act} {w : World} {P A P2 A2 : Nat} {m1 e1 e2 sm : Nat} {m2 e3 nL nc : Int} {I : List Int} (E : EnvSA a0 w P A P2 A2 m1 e1 e2 sm m2 e3 nL nc I) {R : Exit → Act → World → Prop} {a : Act} {x : World} (q : Q w x) (oth : ∀ j, j ∉ sSA → a.tmps[j]? = a0.tmps[j]?) (dep : ∀ ed ∈ oSA_15.after, Region.binds .any ed = true → ∀ t', sSA[ed.on]? = some t' → ∃ v, a.tmps[t']? = some v ∧ specAt (spSA P A P2 A2 m1 e1 e2 sm m2 e3 nL nc I) ed.on v x) : Yld Tryz.prog R oSA_15 a x 52 (fun v x' => specAt (spSA P A P2 A2 m1 e1 e2 sm m2 e3 nL nc I) 15 v x' ∧ (15 ∈ ([] : List Nat) → v = ptrV x.heap.size)) := by
  exact yld_move ((oth 13 (by decide)).trans E.h13) ⟨rfl, fun h => absurd h (by decide)⟩
theorem ySA_16 {a0 : Act} {w : World} {P A P2 A2 : Nat} {m1 e1 e2 sm : Nat} {m2 e3 nL nc : Int} {I : List Int} (E : EnvSA a0 w P A P2 A2 m1 e1 e2 sm m2 e3 nL nc I) {R : Exit → Act → World → Prop} {a : Act} {x : World} (q : Q w x) (oth : ∀ j, j ∉ sSA → a.tmps[j]? = a0.tmps[j]?) (dep : ∀ ed ∈ oSA_16.after, Region.binds .any ed = true → ∀ t', sSA[ed.on]? = some t' → ∃ v, a.tmps[t']? = some v ∧ specAt (spSA P A P2 A2 m1 e1 e2 sm m2 e3 nL nc I) ed.on v x) : Yld Tryz.prog R oSA_16 a x 53 (fun v x' => specAt (spSA P A P2 A2 m1 e1 e2 sm m2 e3 nL nc I) 16 v x' ∧ (16 ∈ ([] : List Nat) → v = ptrV x.heap.size)) := by
  obtain ⟨v14, t14, f14⟩ := dep ⟨14, .data⟩ (by simp [oSA_16]) rfl 51 rfl
  have f14 : v14 = (.int .u32 (e2 : Int)) := f14
  subst f14
  obtain ⟨v15, t15, f15⟩ := dep ⟨15, .data⟩ (by simp [oSA_16]) rfl 52 rfl
  have f15 : v15 = (.int .u32 (e2 : Int)) := f15
  subst f15
  exact yld_run (x' := x) rfl (run_equ (tmp_eval t14) (tmp_eval t15)) (Q.refl x) ⟨rfl, fun h => absurd h (by decide)⟩
theorem ySA_17 {a0 : Act} {w : World} {P A P2 A2 : Nat} {m1 e1 e2 sm : Nat} {m2 e3 nL nc : Int} {I : List Int} (E : EnvSA a0 w P A P2 A2 m1 e1 e2 sm m2 e3 nL nc I) {R : Exit → Act → World → Prop} {a : Act} {x : World} (q : Q w x) (oth : ∀ j, j ∉ sSA → a.tmps[j]? = a0.tmps[j]?) (dep : ∀ ed ∈ oSA_17.after, Region.binds .any ed = true → ∀ t', sSA[ed.on]? = some t' → ∃ v, a.tmps[t']? = some v ∧ specAt (spSA P A P2 A2 m1 e1 e2 sm m2 e3 nL nc I) ed.on v x) : Yld Tryz.prog R oSA_17 a x 54 (fun v x' => specAt (spSA P A P2 A2 m1 e1 e2 sm m2 e3 nL nc I) 17 v x' ∧ (17 ∈ ([] : List Nat) → v = ptrV x.heap.size)) := by
  obtain ⟨v13, t13, f13⟩ := dep ⟨13, .data⟩ (by simp [oSA_17]) rfl 50 rfl
  have f13 : v13 = (.bool true) := f13
  subst f13
  obtain ⟨v16, t16, f16⟩ := dep ⟨16, .data⟩ (by simp [oSA_17]) rfl 53 rfl
  have f16 : v16 = (.bool true) := f16
  subst f16
  exact yld_pick t13 t16 ⟨rfl, fun h => absurd h (by decide)⟩
theorem ySA_18 {a0 : Act} {w : World} {P A P2 A2 : Nat} {m1 e1 e2 sm : Nat} {m2 e3 nL nc : Int} {I : List Int} (E : EnvSA a0 w P A P2 A2 m1 e1 e2 sm m2 e3 nL nc I) {R : Exit → Act → World → Prop} {a : Act} {x : World} (q : Q w x) (oth : ∀ j, j ∉ sSA → a.tmps[j]? = a0.tmps[j]?) (dep : ∀ ed ∈ oSA_18.after, Region.binds .any ed = true → ∀ t', sSA[ed.on]? = some t' → ∃ v, a.tmps[t']? = some v ∧ specAt (spSA P A P2 A2 m1 e1 e2 sm m2 e3 nL nc I) ed.on v x) : Yld Tryz.prog R oSA_18 a x 55 (fun v x' => specAt (spSA P A P2 A2 m1 e1 e2 sm m2 e3 nL nc I) 18 v x' ∧ (18 ∈ ([] : List Nat) → v = ptrV x.heap.size)) := by
  obtain ⟨v17, t17, f17⟩ := dep ⟨17, .data⟩ (by simp [oSA_18]) rfl 54 rfl
  have f17 : v17 = (.bool true) := f17
  subst f17
  exact yld_move t17 ⟨rfl, fun h => absurd h (by decide)⟩
theorem ySA_19 {a0 : Act} {w : World} {P A P2 A2 : Nat} {m1 e1 e2 sm : Nat} {m2 e3 nL nc : Int} {I : List Int} (E : EnvSA a0 w P A P2 A2 m1 e1 e2 sm m2 e3 nL nc I) {R : Exit → Act → World → Prop} {a : Act} {x : World} (q : Q w x) (oth : ∀ j, j ∉ sSA → a.tmps[j]? = a0.tmps[j]?) (dep : ∀ ed ∈ oSA_19.after, Region.binds .any ed = true → ∀ t', sSA[ed.on]? = some t' → ∃ v, a.tmps[t']? = some v ∧ specAt (spSA P A P2 A2 m1 e1 e2 sm m2 e3 nL nc I) ed.on v x) : Yld Tryz.prog R oSA_19 a x 56 (fun v x' => specAt (spSA P A P2 A2 m1 e1 e2 sm m2 e3 nL nc I) 19 v x' ∧ (19 ∈ ([] : List Nat) → v = ptrV x.heap.size)) := by
  exact yld_move ((oth 11 (by decide)).trans E.h11) ⟨rfl, fun h => absurd h (by decide)⟩
theorem ySA_20 {a0 : Act} {w : World} {P A P2 A2 : Nat} {m1 e1 e2 sm : Nat} {m2 e3 nL nc : Int} {I : List Int} (E : EnvSA a0 w P A P2 A2 m1 e1 e2 sm m2 e3 nL nc I) {R : Exit → Act → World → Prop} {a : Act} {x : World} (q : Q w x) (oth : ∀ j, j ∉ sSA → a.tmps[j]? = a0.tmps[j]?) (dep : ∀ ed ∈ oSA_20.after, Region.binds .any ed = true → ∀ t', sSA[ed.on]? = some t' → ∃ v, a.tmps[t']? = some v ∧ specAt (spSA P A P2 A2 m1 e1 e2 sm m2 e3 nL nc I) ed.on v x) : Yld Tryz.prog R oSA_20 a x 57 (fun v x' => specAt (spSA P A P2 A2 m1 e1 e2 sm m2 e3 nL nc I) 20 v x' ∧ (20 ∈ ([] : List Nat) → v = ptrV x.heap.size)) := by
  exact yld_move ((oth 14 (by decide)).trans E.h14) ⟨rfl, fun h => absurd h (by decide)⟩
theorem ySA_21 {a0 : Act} {w : World} {P A P2 A2 : Nat} {m1 e1 e2 sm : Nat} {m2 e3 nL nc : Int} {I : List Int} (E : EnvSA a0 w P A P2 A2 m1 e1 e2 sm m2 e3 nL nc I) {R : Exit → Act → World → Prop} {a : Act} {x : World} (q : Q w x) (oth : ∀ j, j ∉ sSA → a.tmps[j]? = a0.tmps[j]?) (dep : ∀ ed ∈ oSA_21.after, Region.binds .any ed = true → ∀ t', sSA[ed.on]? = some t' → ∃ v, a.tmps[t']? = some v ∧ specAt (spSA P A P2 A2 m1 e1 e2 sm m2 e3 nL nc I) ed.on v x) : Yld Tryz.prog R oSA_21 a x 58 (fun v x' => specAt (spSA P A P2 A2 m1 e1 e2 sm m2 e3 nL nc I) 21 v x' ∧ (21 ∈ ([] : List Nat) → v = ptrV x.heap.size)) := by
  obtain ⟨v19, t19, f19⟩ := dep ⟨19, .data⟩ (by simp [oSA_21]) rfl 56 rfl
  have f19 : v19 = (.int .i64 e3) := f19
  subst f19
  obtain ⟨v20, t20, f20⟩ := dep ⟨20, .data⟩ (by simp [oSA_21]) rfl 57 rfl
  have f20 : v20 = (.int .i64 e3) := f20
  subst f20
  exact yld_run (x' := x) rfl (run_eqe (tmp_eval t19) (tmp_eval t20)) (Q.refl x) ⟨rfl, fun h => absurd h (by decide)⟩
theorem ySA_22 {a0 : Act} {w : World} {P A P2 A2 : Nat} {m1 e1 e2 sm : Nat} {m2 e3 nL nc : Int} {I : List Int} (E : EnvSA a0 w P A P2 A2 m1 e1 e2 sm m2 e3 nL nc I) {R : Exit → Act → World → Prop} {a : Act} {x : World} (q : Q w x) (oth : ∀ j, j ∉ sSA → a.tmps[j]? = a0.tmps[j]?) (dep : ∀ ed ∈ oSA_22.after, Region.binds .any ed = true → ∀ t', sSA[ed.on]? = some t' → ∃ v, a.tmps[t']? = some v ∧ specAt (spSA P A P2 A2 m1 e1 e2 sm m2 e3 nL nc I) ed.on v x) : Yld Tryz.prog R oSA_22 a x 59 (fun v x' => specAt (spSA P A P2 A2 m1 e1 e2 sm m2 e3 nL nc I) 22 v x' ∧ (22 ∈ ([] : List Nat) → v = ptrV x.heap.size)) := by
  obtain ⟨v18, t18, f18⟩ := dep ⟨18, .data⟩ (by simp [oSA_22]) rfl 55 rfl
  have f18 : v18 = (.bool true) := f18
  subst f18
  obtain ⟨v21, t21, f21⟩ := dep ⟨21, .data⟩ (by simp [oSA_22]) rfl 58 rfl
  have f21 : v21 = (.bool true) := f21
  subst f21
  exact yld_pick t18 t21 ⟨rfl, fun h => absurd h (by decide)⟩
theorem ySA_23 {a0 : Act} {w : World} {P A P2 A2 : Nat} {m1 e1 e2 sm : Nat} {m2 e3 nL nc : Int} {I : List Int} (E : EnvSA a0 w P A P2 A2 m1 e1 e2 sm m2 e3 nL nc I) {R : Exit → Act → World → Prop} {a : Act} {x : World} (q : Q w x) (oth : ∀ j, j ∉ sSA → a.tmps[j]? = a0.tmps[j]?) (dep : ∀ ed ∈ oSA_23.after, Region.binds .any ed = true → ∀ t', sSA[ed.on]? = some t' → ∃ v, a.tmps[t']? = some v ∧ specAt (spSA P A P2 A2 m1 e1 e2 sm m2 e3 nL nc I) ed.on v x) : Yld Tryz.prog R oSA_23 a x 60 (fun v x' => specAt (spSA P A P2 A2 m1 e1 e2 sm m2 e3 nL nc I) 23 v x' ∧ (23 ∈ ([] : List Nat) → v = ptrV x.heap.size)) := by
  obtain ⟨v22, t22, f22⟩ := dep ⟨22, .data⟩ (by simp [oSA_23]) rfl 59 rfl
  have f22 : v22 = (.bool true) := f22
  subst f22
  exact yld_move t22 ⟨rfl, fun h => absurd h (by decide)⟩
theorem ySA_24 {a0 : Act} {w : World} {P A P2 A2 : Nat} {m1 e1 e2 sm : Nat} {m2 e3 nL nc : Int} {I : List Int} (E : EnvSA a0 w P A P2 A2 m1 e1 e2 sm m2 e3 nL nc I) {R : Exit → Act → World → Prop} {a : Act} {x : World} (q : Q w x) (oth : ∀ j, j ∉ sSA → a.tmps[j]? = a0.tmps[j]?) (dep : ∀ ed ∈ oSA_24.after, Region.binds .any ed = true → ∀ t', sSA[ed.on]? = some t' → ∃ v, a.tmps[t']? = some v ∧ specAt (spSA P A P2 A2 m1 e1 e2 sm m2 e3 nL nc I) ed.on v x) : Yld Tryz.prog R oSA_24 a x 61 (fun v x' => specAt (spSA P A P2 A2 m1 e1 e2 sm m2 e3 nL nc I) 24 v x' ∧ (24 ∈ ([] : List Nat) → v = ptrV x.heap.size)) := by
  exact yld_move ((oth 0 (by decide)).trans E.h0) ⟨rfl, fun h => absurd h (by decide)⟩
theorem ySA_25 {a0 : Act} {w : World} {P A P2 A2 : Nat} {m1 e1 e2 sm : Nat} {m2 e3 nL nc : Int} {I : List Int} (E : EnvSA a0 w P A P2 A2 m1 e1 e2 sm m2 e3 nL nc I) {R : Exit → Act → World → Prop} {a : Act} {x : World} (q : Q w x) (oth : ∀ j, j ∉ sSA → a.tmps[j]? = a0.tmps[j]?) (dep : ∀ ed ∈ oSA_25.after, Region.binds .any ed = true → ∀ t', sSA[ed.on]? = some t' → ∃ v, a.tmps[t']? = some v ∧ specAt (spSA P A P2 A2 m1 e1 e2 sm m2 e3 nL nc I) ed.on v x) : Yld Tryz.prog R oSA_25 a x 62 (fun v x' => specAt (spSA P A P2 A2 m1 e1 e2 sm m2 e3 nL nc I) 25 v x' ∧ (25 ∈ ([] : List Nat) → v = ptrV x.heap.size)) := by
  obtain ⟨v24, t24, f24⟩ := dep ⟨24, .data⟩ (by simp [oSA_25]) rfl 61 rfl
  have f24 : v24 = (.pointer (some ⟨P, 0, none⟩)) := f24
  subst f24
  exact yld_run (x' := x) rfl (run_nckS (tmp_eval t24)) (Q.refl x) ⟨rfl, fun h => absurd h (by decide)⟩
theorem ySA_26 {a0 : Act} {w : World} {P A P2 A2 : Nat} {m1 e1 e2 sm : Nat} {m2 e3 nL nc : Int} {I : List Int} (E : EnvSA a0 w P A P2 A2 m1 e1 e2 sm m2 e3 nL nc I) {R : Exit → Act → World → Prop} {a : Act} {x : World} (q : Q w x) (oth : ∀ j, j ∉ sSA → a.tmps[j]? = a0.tmps[j]?) (dep : ∀ ed ∈ oSA_26.after, Region.binds .any ed = true → ∀ t', sSA[ed.on]? = some t' → ∃ v, a.tmps[t']? = some v ∧ specAt (spSA P A P2 A2 m1 e1 e2 sm m2 e3 nL nc I) ed.on v x) : Yld Tryz.prog R oSA_26 a x 63 (fun v x' => specAt (spSA P A P2 A2 m1 e1 e2 sm m2 e3 nL nc I) 26 v x' ∧ (26 ∈ ([] : List Nat) → v = ptrV x.heap.size)) := by
  obtain ⟨v25, t25, f25⟩ := dep ⟨25, .data⟩ (by simp [oSA_26]) rfl 62 rfl
  have f25 : v25 = (.pointer (some ⟨P, 0, none⟩)) := f25
  subst f25
  exact yld_run (x' := x) rfl (run_faS (tmp_eval t25)) (Q.refl x) ⟨rfl, fun h => absurd h (by decide)⟩
theorem ySA_27 {a0 : Act} {w : World} {P A P2 A2 : Nat} {m1 e1 e2 sm : Nat} {m2 e3 nL nc : Int} {I : List Int} (E : EnvSA a0 w P A P2 A2 m1 e1 e2 sm m2 e3 nL nc I) {R : Exit → Act → World → Prop} {a : Act} {x : World} (q : Q w x) (oth : ∀ j, j ∉ sSA → a.tmps[j]? = a0.tmps[j]?) (dep : ∀ ed ∈ oSA_27.after, Region.binds .any ed = true → ∀ t', sSA[ed.on]? = some t' → ∃ v, a.tmps[t']? = some v ∧ specAt (spSA P A P2 A2 m1 e1 e2 sm m2 e3 nL nc I) ed.on v x) : Yld Tryz.prog R oSA_27 a x 64 (fun v x' => specAt (spSA P A P2 A2 m1 e1 e2 sm m2 e3 nL nc I) 27 v x' ∧ (27 ∈ ([] : List Nat) → v = ptrV x.heap.size)) := by
  obtain ⟨v26, t26, f26⟩ := dep ⟨26, .data⟩ (by simp [oSA_27]) rfl 63 rfl
  have f26 : v26 = (.pointer (some ⟨P, 0, none⟩)) := f26
  subst f26
  exact yld_run (x' := x) rfl (run_ldS (tmp_eval t26) (q.cell E.c0)) (Q.refl x) ⟨rfl, fun h => absurd h (by decide)⟩
theorem ySA_28 {a0 : Act} {w : World} {P A P2 A2 : Nat} {m1 e1 e2 sm : Nat} {m2 e3 nL nc : Int} {I : List Int} (E : EnvSA a0 w P A P2 A2 m1 e1 e2 sm m2 e3 nL nc I) {R : Exit → Act → World → Prop} {a : Act} {x : World} (q : Q w x) (oth : ∀ j, j ∉ sSA → a.tmps[j]? = a0.tmps[j]?) (dep : ∀ ed ∈ oSA_28.after, Region.binds .any ed = true → ∀ t', sSA[ed.on]? = some t' → ∃ v, a.tmps[t']? = some v ∧ specAt (spSA P A P2 A2 m1 e1 e2 sm m2 e3 nL nc I) ed.on v x) : Yld Tryz.prog R oSA_28 a x 65 (fun v x' => specAt (spSA P A P2 A2 m1 e1 e2 sm m2 e3 nL nc I) 28 v x' ∧ (28 ∈ ([] : List Nat) → v = ptrV x.heap.size)) := by
  obtain ⟨v27, t27, f27⟩ := dep ⟨27, .data⟩ (by simp [oSA_28]) rfl 64 rfl
  have f27 : v27 = (.pointer (some ⟨A, 0, none⟩)) := f27
  subst f27
  refine yld_call (enters_of Tryz.func37 (by kernel_rfl) rfl) (args1 t27) ((E.k5 x q).mono ?_)
  rintro y x' ⟨rfl, q'⟩
  exact ⟨_, rfl, q', ⟨rfl, fun h => absurd h (by decide)⟩⟩
theorem ySA_29 {a0 : Act} {w : World} {P A P2 A2 : Nat} {m1 e1 e2 sm : Nat} {m2 e3 nL nc : Int} {I : List Int} (E : EnvSA a0 w P A P2 A2 m1 e1 e2 sm m2 e3 nL nc I) {R : Exit → Act → World → Prop} {a : Act} {x : World} (q : Q w x) (oth : ∀ j, j ∉ sSA → a.tmps[j]? = a0.tmps[j]?) (dep : ∀ ed ∈ oSA_29.after, Region.binds .any ed = true → ∀ t', sSA[ed.on]? = some t' → ∃ v, a.tmps[t']? = some v ∧ specAt (spSA P A P2 A2 m1 e1 e2 sm m2 e3 nL nc I) ed.on v x) : Yld Tryz.prog R oSA_29 a x 66 (fun v x' => specAt (spSA P A P2 A2 m1 e1 e2 sm m2 e3 nL nc I) 29 v x' ∧ (29 ∈ ([] : List Nat) → v = ptrV x.heap.size)) := by
  exact yld_move ((oth 1 (by decide)).trans E.h1) ⟨rfl, fun h => absurd h (by decide)⟩
theorem ySA_30 {a0 : Act} {w : World} {P A P2 A2 : Nat} {m1 e1 e2 sm : Nat} {m2 e3 nL nc : Int} {I : List Int} (E : EnvSA a0 w P A P2 A2 m1 e1 e2 sm m2 e3 nL nc I) {R : Exit → Act → World → Prop} {a : Act} {x : World} (q : Q w x) (oth : ∀ j, j ∉ sSA → a.tmps[j]? = a0.tmps[j]?) (dep : ∀ ed ∈ oSA_30.after, Region.binds .any ed = true → ∀ t', sSA[ed.on]? = some t' → ∃ v, a.tmps[t']? = some v ∧ specAt (spSA P A P2 A2 m1 e1 e2 sm m2 e3 nL nc I) ed.on v x) : Yld Tryz.prog R oSA_30 a x 67 (fun v x' => specAt (spSA P A P2 A2 m1 e1 e2 sm m2 e3 nL nc I) 30 v x' ∧ (30 ∈ ([] : List Nat) → v = ptrV x.heap.size)) := by
  obtain ⟨v29, t29, f29⟩ := dep ⟨29, .data⟩ (by simp [oSA_30]) rfl 66 rfl
  have f29 : v29 = (.pointer (some ⟨P2, 0, none⟩)) := f29
  subst f29
  exact yld_run (x' := x) rfl (run_nckS (tmp_eval t29)) (Q.refl x) ⟨rfl, fun h => absurd h (by decide)⟩
theorem ySA_31 {a0 : Act} {w : World} {P A P2 A2 : Nat} {m1 e1 e2 sm : Nat} {m2 e3 nL nc : Int} {I : List Int} (E : EnvSA a0 w P A P2 A2 m1 e1 e2 sm m2 e3 nL nc I) {R : Exit → Act → World → Prop} {a : Act} {x : World} (q : Q w x) (oth : ∀ j, j ∉ sSA → a.tmps[j]? = a0.tmps[j]?) (dep : ∀ ed ∈ oSA_31.after, Region.binds .any ed = true → ∀ t', sSA[ed.on]? = some t' → ∃ v, a.tmps[t']? = some v ∧ specAt (spSA P A P2 A2 m1 e1 e2 sm m2 e3 nL nc I) ed.on v x) : Yld Tryz.prog R oSA_31 a x 68 (fun v x' => specAt (spSA P A P2 A2 m1 e1 e2 sm m2 e3 nL nc I) 31 v x' ∧ (31 ∈ ([] : List Nat) → v = ptrV x.heap.size)) := by
  obtain ⟨v30, t30, f30⟩ := dep ⟨30, .data⟩ (by simp [oSA_31]) rfl 67 rfl
  have f30 : v30 = (.pointer (some ⟨P2, 0, none⟩)) := f30
  subst f30
  exact yld_run (x' := x) rfl (run_faS (tmp_eval t30)) (Q.refl x) ⟨rfl, fun h => absurd h (by decide)⟩
theorem ySA_32 {a0 : Act} {w : World} {P A P2 A2 : Nat} {m1 e1 e2 sm : Nat} {m2 e3 nL nc : Int} {I : List Int} (E : EnvSA a0 w P A P2 A2 m1 e1 e2 sm m2 e3 nL nc I) {R : Exit → Act → World → Prop} {a : Act} {x : World} (q : Q w x) (oth : ∀ j, j ∉ sSA → a.tmps[j]? = a0.tmps[j]?) (dep : ∀ ed ∈ oSA_32.after, Region.binds .any ed = true → ∀ t', sSA[ed.on]? = some t' → ∃ v, a.tmps[t']? = some v ∧ specAt (spSA P A P2 A2 m1 e1 e2 sm m2 e3 nL nc I) ed.on v x) : Yld Tryz.prog R oSA_32 a x 69 (fun v x' => specAt (spSA P A P2 A2 m1 e1 e2 sm m2 e3 nL nc I) 32 v x' ∧ (32 ∈ ([] : List Nat) → v = ptrV x.heap.size)) := by
  obtain ⟨v31, t31, f31⟩ := dep ⟨31, .data⟩ (by simp [oSA_32]) rfl 68 rfl
  have f31 : v31 = (.pointer (some ⟨P2, 0, none⟩)) := f31
  subst f31
  exact yld_run (x' := x) rfl (run_ldS (tmp_eval t31) (q.cell E.c1)) (Q.refl x) ⟨rfl, fun h => absurd h (by decide)⟩
theorem ySA_33 {a0 : Act} {w : World} {P A P2 A2 : Nat} {m1 e1 e2 sm : Nat} {m2 e3 nL nc : Int} {I : List Int} (E : EnvSA a0 w P A P2 A2 m1 e1 e2 sm m2 e3 nL nc I) {R : Exit → Act → World → Prop} {a : Act} {x : World} (q : Q w x) (oth : ∀ j, j ∉ sSA → a.tmps[j]? = a0.tmps[j]?) (dep : ∀ ed ∈ oSA_33.after, Region.binds .any ed = true → ∀ t', sSA[ed.on]? = some t' → ∃ v, a.tmps[t']? = some v ∧ specAt (spSA P A P2 A2 m1 e1 e2 sm m2 e3 nL nc I) ed.on v x) : Yld Tryz.prog R oSA_33 a x 70 (fun v x' => specAt (spSA P A P2 A2 m1 e1 e2 sm m2 e3 nL nc I) 33 v x' ∧ (33 ∈ ([] : List Nat) → v = ptrV x.heap.size)) := by
  obtain ⟨v32, t32, f32⟩ := dep ⟨32, .data⟩ (by simp [oSA_33]) rfl 69 rfl
  have f32 : v32 = (.pointer (some ⟨A2, 0, none⟩)) := f32
  subst f32
  refine yld_call (enters_of Tryz.func37 (by kernel_rfl) rfl) (args1 t32) ((E.k6 x q).mono ?_)
  rintro y x' ⟨rfl, q'⟩
  exact ⟨_, rfl, q', ⟨rfl, fun h => absurd h (by decide)⟩⟩
theorem ySA_34 {a0 : Act} {w : World} {P A P2 A2 : Nat} {m1 e1 e2 sm : Nat} {m2 e3 nL nc : Int} {I : List Int} (E : EnvSA a0 w P A P2 A2 m1 e1 e2 sm m2 e3 nL nc I) {R : Exit → Act → World → Prop} {a : Act} {x : World} (q : Q w x) (oth : ∀ j, j ∉ sSA → a.tmps[j]? = a0.tmps[j]?) (dep : ∀ ed ∈ oSA_34.after, Region.binds .any ed = true → ∀ t', sSA[ed.on]? = some t' → ∃ v, a.tmps[t']? = some v ∧ specAt (spSA P A P2 A2 m1 e1 e2 sm m2 e3 nL nc I) ed.on v x) : Yld Tryz.prog R oSA_34 a x 71 (fun v x' => specAt (spSA P A P2 A2 m1 e1 e2 sm m2 e3 nL nc I) 34 v x' ∧ (34 ∈ ([] : List Nat) → v = ptrV x.heap.size)) := by
  obtain ⟨v28, t28, f28⟩ := dep ⟨28, .data⟩ (by simp [oSA_34]) rfl 65 rfl
  have f28 : v28 = (.int .u32 (sm : Int)) := f28
  subst f28
  obtain ⟨v33, t33, f33⟩ := dep ⟨33, .data⟩ (by simp [oSA_34]) rfl 70 rfl
  have f33 : v33 = (.int .u32 (sm : Int)) := f33
  subst f33
  exact yld_run (x' := x) rfl (run_equ (tmp_eval t28) (tmp_eval t33)) (Q.refl x) ⟨rfl, fun h => absurd h (by decide)⟩
theorem ySA_35 {a0 : Act} {w : World} {P A P2 A2 : Nat} {m1 e1 e2 sm : Nat} {m2 e3 nL nc : Int} {I : List Int} (E : EnvSA a0 w P A P2 A2 m1 e1 e2 sm m2 e3 nL nc I) {R : Exit → Act → World → Prop} {a : Act} {x : World} (q : Q w x) (oth : ∀ j, j ∉ sSA → a.tmps[j]? = a0.tmps[j]?) (dep : ∀ ed ∈ oSA_35.after, Region.binds .any ed = true → ∀ t', sSA[ed.on]? = some t' → ∃ v, a.tmps[t']? = some v ∧ specAt (spSA P A P2 A2 m1 e1 e2 sm m2 e3 nL nc I) ed.on v x) : Yld Tryz.prog R oSA_35 a x 72 (fun v x' => specAt (spSA P A P2 A2 m1 e1 e2 sm m2 e3 nL nc I) 35 v x' ∧ (35 ∈ ([] : List Nat) → v = ptrV x.heap.size)) := by
  obtain ⟨v23, t23, f23⟩ := dep ⟨23, .data⟩ (by simp [oSA_35]) rfl 60 rfl
  have f23 : v23 = (.bool true) := f23
  subst f23
  obtain ⟨v34, t34, f34⟩ := dep ⟨34, .data⟩ (by simp [oSA_35]) rfl 71 rfl
  have f34 : v34 = (.bool true) := f34
  subst f34
  exact yld_pick t23 t34 ⟨rfl, fun h => absurd h (by decide)⟩
theorem ySA_36 {a0 : Act} {w : World} {P A P2 A2 : Nat} {m1 e1 e2 sm : Nat} {m2 e3 nL nc : Int} {I : List Int} (E : EnvSA a0 w P A P2 A2 m1 e1 e2 sm m2 e3 nL nc I) {R : Exit → Act → World → Prop} {a : Act} {x : World} (q : Q w x) (oth : ∀ j, j ∉ sSA → a.tmps[j]? = a0.tmps[j]?) (dep : ∀ ed ∈ oSA_36.after, Region.binds .any ed = true → ∀ t', sSA[ed.on]? = some t' → ∃ v, a.tmps[t']? = some v ∧ specAt (spSA P A P2 A2 m1 e1 e2 sm m2 e3 nL nc I) ed.on v x) : Yld Tryz.prog R oSA_36 a x 73 (fun v x' => specAt (spSA P A P2 A2 m1 e1 e2 sm m2 e3 nL nc I) 36 v x' ∧ (36 ∈ ([] : List Nat) → v = ptrV x.heap.size)) := by
  obtain ⟨v35, t35, f35⟩ := dep ⟨35, .data⟩ (by simp [oSA_36]) rfl 72 rfl
  have f35 : v35 = (.bool true) := f35
  subst f35
  exact yld_move t35 ⟨rfl, fun h => absurd h (by decide)⟩
theorem ySA_37 {a0 : Act} {w : World} {P A P2 A2 : Nat} {m1 e1 e2 sm : Nat} {m2 e3 nL nc : Int} {I : List Int} (E : EnvSA a0 w P A P2 A2 m1 e1 e2 sm m2 e3 nL nc I) {R : Exit → Act → World → Prop} {a : Act} {x : World} (q : Q w x) (oth : ∀ j, j ∉ sSA → a.tmps[j]? = a0.tmps[j]?) (dep : ∀ ed ∈ oSA_37.after, Region.binds .any ed = true → ∀ t', sSA[ed.on]? = some t' → ∃ v, a.tmps[t']? = some v ∧ specAt (spSA P A P2 A2 m1 e1 e2 sm m2 e3 nL nc I) ed.on v x) : Yld Tryz.prog R oSA_37 a x 74 (fun v x' => specAt (spSA P A P2 A2 m1 e1 e2 sm m2 e3 nL nc I) 37 v x' ∧ (37 ∈ ([] : List Nat) → v = ptrV x.heap.size)) := by
  exact yld_move ((oth 0 (by decide)).trans E.h0) ⟨rfl, fun h => absurd h (by decide)⟩
theorem ySA_38 {a0 : Act} {w : World} {P A P2 A2 : Nat} {m1 e1 e2 sm : Nat} {m2 e3 nL nc : Int} {I : List Int} (E : EnvSA a0 w P A P2 A2 m1 e1 e2 sm m2 e3 nL nc I) {R : Exit → Act → World → Prop} {a : Act} {x : World} (q : Q w x) (oth : ∀ j, j ∉ sSA → a.tmps[j]? = a0.tmps[j]?) (dep : ∀ ed ∈ oSA_38.after, Region.binds .any ed = true → ∀ t', sSA[ed.on]? = some t' → ∃ v, a.tmps[t']? = some v ∧ specAt (spSA P A P2 A2 m1 e1 e2 sm m2 e3 nL nc I) ed.on v x) : Yld Tryz.prog R oSA_38 a x 75 (fun v x' => specAt (spSA P A P2 A2 m1 e1 e2 sm m2 e3 nL nc I) 38 v x' ∧ (38 ∈ ([] : List Nat) → v = ptrV x.heap.size)) := by
  obtain ⟨v37, t37, f37⟩ := dep ⟨37, .data⟩ (by simp [oSA_38]) rfl 74 rfl
  have f37 : v37 = (.pointer (some ⟨P, 0, none⟩)) := f37
  subst f37
  exact yld_run (x' := x) rfl (run_nckS (tmp_eval t37)) (Q.refl x) ⟨rfl, fun h => absurd h (by decide)⟩
theorem ySA_39 {a0 : Act} {w : World} {P A P2 A2 : Nat} {m1 e1 e2 sm : Nat} {m2 e3 nL nc : Int} {I : List Int} (E : EnvSA a0 w P A P2 A2 m1 e1 e2 sm m2 e3 nL nc I) {R : Exit → Act → World → Prop} {a : Act} {x : World} (q : Q w x) (oth : ∀ j, j ∉ sSA → a.tmps[j]? = a0.tmps[j]?) (dep : ∀ ed ∈ oSA_39.after, Region.binds .any ed = true → ∀ t', sSA[ed.on]? = some t' → ∃ v, a.tmps[t']? = some v ∧ specAt (spSA P A P2 A2 m1 e1 e2 sm m2 e3 nL nc I) ed.on v x) : Yld Tryz.prog R oSA_39 a x 76 (fun v x' => specAt (spSA P A P2 A2 m1 e1 e2 sm m2 e3 nL nc I) 39 v x' ∧ (39 ∈ ([] : List Nat) → v = ptrV x.heap.size)) := by
  obtain ⟨v38, t38, f38⟩ := dep ⟨38, .data⟩ (by simp [oSA_39]) rfl 75 rfl
  have f38 : v38 = (.pointer (some ⟨P, 0, none⟩)) := f38
  subst f38
  exact yld_run (x' := x) rfl (run_faS (tmp_eval t38)) (Q.refl x) ⟨rfl, fun h => absurd h (by decide)⟩
theorem ySA_40 {a0 : Act} {w : World} {P A P2 A2 : Nat} {m1 e1 e2 sm : Nat} {m2 e3 nL nc : Int} {I : List Int} (E : EnvSA a0 w P A P2 A2 m1 e1 e2 sm m2 e3 nL nc I) {R : Exit → Act → World → Prop} {a : Act} {x : World} (q : Q w x) (oth : ∀ j, j ∉ sSA → a.tmps[j]? = a0.tmps[j]?) (dep : ∀ ed ∈ oSA_40.after, Region.binds .any ed = true → ∀ t', sSA[ed.on]? = some t' → ∃ v, a.tmps[t']? = some v ∧ specAt (spSA P A P2 A2 m1 e1 e2 sm m2 e3 nL nc I) ed.on v x) : Yld Tryz.prog R oSA_40 a x 77 (fun v x' => specAt (spSA P A P2 A2 m1 e1 e2 sm m2 e3 nL nc I) 40 v x' ∧ (40 ∈ ([] : List Nat) → v = ptrV x.heap.size)) := by
  obtain ⟨v39, t39, f39⟩ := dep ⟨39, .data⟩ (by simp [oSA_40]) rfl 76 rfl
  have f39 : v39 = (.pointer (some ⟨P, 0, none⟩)) := f39
  subst f39
  exact yld_run (x' := x) rfl (run_ldS (tmp_eval t39) (q.cell E.c0)) (Q.refl x) ⟨rfl, fun h => absurd h (by decide)⟩
theorem ySA_41 {a0 : Act} {w : World} {P A P2 A2 : Nat} {m1 e1 e2 sm : Nat} {m2 e3 nL nc : Int} {I : List Int} (E : EnvSA a0 w P A P2 A2 m1 e1 e2 sm m2 e3 nL nc I) {R : Exit → Act → World → Prop} {a : Act} {x : World} (q : Q w x) (oth : ∀ j, j ∉ sSA → a.tmps[j]? = a0.tmps[j]?) (dep : ∀ ed ∈ oSA_41.after, Region.binds .any ed = true → ∀ t', sSA[ed.on]? = some t' → ∃ v, a.tmps[t']? = some v ∧ specAt (spSA P A P2 A2 m1 e1 e2 sm m2 e3 nL nc I) ed.on v x) : Yld Tryz.prog R oSA_41 a x 78 (fun v x' => specAt (spSA P A P2 A2 m1 e1 e2 sm m2 e3 nL nc I) 41 v x' ∧ (41 ∈ ([] : List Nat) → v = ptrV x.heap.size)) := by
  obtain ⟨v40, t40, f40⟩ := dep ⟨40, .data⟩ (by simp [oSA_41]) rfl 77 rfl
  have f40 : v40 = (.pointer (some ⟨A, 0, none⟩)) := f40
  subst f40
  refine yld_call (enters_of Tryz.func32 (by kernel_rfl) rfl) (args1 t40) ((E.k7 x q).mono ?_)
  rintro y x' ⟨rfl, q'⟩
  exact ⟨_, rfl, q', ⟨rfl, fun h => absurd h (by decide)⟩⟩
theorem ySA_42 {a0 : Act} {w : World} {P A P2 A2 : Nat} {m1 e1 e2 sm : Nat} {m2 e3 nL nc : Int} {I : List Int} (E : EnvSA a0 w P A P2 A2 m1 e1 e2 sm m2 e3 nL nc I) {R : Exit → Act → World → Prop} {a : Act} {x : World} (q : Q w x) (oth : ∀ j, j ∉ sSA → a.tmps[j]? = a0.tmps[j]?) (dep : ∀ ed ∈ oSA_42.after, Region.binds .any ed = true → ∀ t', sSA[ed.on]? = some t' → ∃ v, a.tmps[t']? = some v ∧ specAt (spSA P A P2 A2 m1 e1 e2 sm m2 e3 nL nc I) ed.on v x) : Yld Tryz.prog R oSA_42 a x 79 (fun v x' => specAt (spSA P A P2 A2 m1 e1 e2 sm m2 e3 nL nc I) 42 v x' ∧ (42 ∈ ([] : List Nat) → v = ptrV x.heap.size)) := by
  exact yld_move ((oth 1 (by decide)).trans E.h1) ⟨rfl, fun h => absurd h (by decide)⟩
theorem ySA_43 {a0 : Act} {w : World} {P A P2 A2 : Nat} {m1 e1 e2 sm : Nat} {m2 e3 nL nc : Int} {I : List Int} (E : EnvSA a0 w P A P2 A2 m1 e1 e2 sm m2 e3 nL nc I) {R : Exit → Act → World → Prop} {a : Act} {x : World} (q : Q w x) (oth : ∀ j, j ∉ sSA → a.tmps[j]? = a0.tmps[j]?) (dep : ∀ ed ∈ oSA_43.after, Region.binds .any ed = true → ∀ t', sSA[ed.on]? = some t' → ∃ v, a.tmps[t']? = some v ∧ specAt (spSA P A P2 A2 m1 e1 e2 sm m2 e3 nL nc I) ed.on v x) : Yld Tryz.prog R oSA_43 a x 80 (fun v x' => specAt (spSA P A P2 A2 m1 e1 e2 sm m2 e3 nL nc I) 43 v x' ∧ (43 ∈ ([] : List Nat) → v = ptrV x.heap.size)) := by
  obtain ⟨v42, t42, f42⟩ := dep ⟨42, .data⟩ (by simp [oSA_43]) rfl 79 rfl
  have f42 : v42 = (.pointer (some ⟨P2, 0, none⟩)) := f42
  subst f42
  exact yld_run (x' := x) rfl (run_nckS (tmp_eval t42)) (Q.refl x) ⟨rfl, fun h => absurd h (by decide)⟩
theorem ySA_44 {a0 : Act} {w : World} {P A P2 A2 : Nat} {m1 e1 e2 sm : Nat} {m2 e3 nL nc : Int} {I : List Int} (E : EnvSA a0 w P A P2 A2 m1 e1 e2 sm m2 e3 nL nc I) {R : Exit → Act → World → Prop} {a : Act} {x : World} (q : Q w x) (oth : ∀ j, j ∉ sSA → a.tmps[j]? = a0.tmps[j]?) (dep : ∀ ed ∈ oSA_44.after, Region.binds .any ed = true → ∀ t', sSA[ed.on]? = some t' → ∃ v, a.tmps[t']? = some v ∧ specAt (spSA P A P2 A2 m1 e1 e2 sm m2 e3 nL nc I) ed.on v x) : Yld Tryz.prog R oSA_44 a x 81 (fun v x' => specAt (spSA P A P2 A2 m1 e1 e2 sm m2 e3 nL nc I) 44 v x' ∧ (44 ∈ ([] : List Nat) → v = ptrV x.heap.size)) := by
  obtain ⟨v43, t43, f43⟩ := dep ⟨43, .data⟩ (by simp [oSA_44]) rfl 80 rfl
  have f43 : v43 = (.pointer (some ⟨P2, 0, none⟩)) := f43
  subst f43
  exact yld_run (x' := x) rfl (run_faS (tmp_eval t43)) (Q.refl x) ⟨rfl, fun h => absurd h (by decide)⟩
theorem ySA_45 {a0 : Act} {w : World} {P A P2 A2 : Nat} {m1 e1 e2 sm : Nat} {m2 e3 nL nc : Int} {I : List Int} (E : EnvSA a0 w P A P2 A2 m1 e1 e2 sm m2 e3 nL nc I) {R : Exit → Act → World → Prop} {a : Act} {x : World} (q : Q w x) (oth : ∀ j, j ∉ sSA → a.tmps[j]? = a0.tmps[j]?) (dep : ∀ ed ∈ oSA_45.after, Region.binds .any ed = true → ∀ t', sSA[ed.on]? = some t' → ∃ v, a.tmps[t']? = some v ∧ specAt (spSA P A P2 A2 m1 e1 e2 sm m2 e3 nL nc I) ed.on v x) : Yld Tryz.prog R oSA_45 a x 82 (fun v x' => specAt (spSA P A P2 A2 m1 e1 e2 sm m2 e3 nL nc I) 45 v x' ∧ (45 ∈ ([] : List Nat) → v = ptrV x.heap.size)) := by
  obtain ⟨v44, t44, f44⟩ := dep ⟨44, .data⟩ (by simp [oSA_45]) rfl 81 rfl
  have f44 : v44 = (.pointer (some ⟨P2, 0, none⟩)) := f44
  subst f44
  exact yld_run (x' := x) rfl (run_ldS (tmp_eval t44) (q.cell E.c1)) (Q.refl x) ⟨rfl, fun h => absurd h (by decide)⟩
theorem ySA_46 {a0 : Act} {w : World} {P A P2 A2 : Nat} {m1 e1 e2 sm : Nat} {m2 e3 nL nc : Int} {I : List Int} (E : EnvSA a0 w P A P2 A2 m1 e1 e2 sm m2 e3 nL nc I) {R : Exit → Act → World → Prop} {a : Act} {x : World} (q : Q w x) (oth : ∀ j, j ∉ sSA → a.tmps[j]? = a0.tmps[j]?) (dep : ∀ ed ∈ oSA_46.after, Region.binds .any ed = true → ∀ t', sSA[ed.on]? = some t' → ∃ v, a.tmps[t']? = some v ∧ specAt (spSA P A P2 A2 m1 e1 e2 sm m2 e3 nL nc I) ed.on v x) : Yld Tryz.prog R oSA_46 a x 83 (fun v x' => specAt (spSA P A P2 A2 m1 e1 e2 sm m2 e3 nL nc I) 46 v x' ∧ (46 ∈ ([] : List Nat) → v = ptrV x.heap.size)) := by
  obtain ⟨v45, t45, f45⟩ := dep ⟨45, .data⟩ (by simp [oSA_46]) rfl 82 rfl
  have f45 : v45 = (.pointer (some ⟨A2, 0, none⟩)) := f45
  subst f45
  refine yld_call (enters_of Tryz.func32 (by kernel_rfl) rfl) (args1 t45) ((E.k8 x q).mono ?_)
  rintro y x' ⟨rfl, q'⟩
  exact ⟨_, rfl, q', ⟨rfl, fun h => absurd h (by decide)⟩⟩
theorem ySA_47 {a0 : Act} {w : World} {P A P2 A2 : Nat} {m1 e1 e2 sm : Nat} {m2 e3 nL nc : Int} {I : List Int} (E : EnvSA a0 w P A P2 A2 m1 e1 e2 sm m2 e3 nL nc I) {R : Exit → Act → World → Prop} {a : Act} {x : World} (q : Q w x) (oth : ∀ j, j ∉ sSA → a.tmps[j]? = a0.tmps[j]?) (dep : ∀ ed ∈ oSA_47.after, Region.binds .any ed = true → ∀ t', sSA[ed.on]? = some t' → ∃ v, a.tmps[t']? = some v ∧ specAt (spSA P A P2 A2 m1 e1 e2 sm m2 e3 nL nc I) ed.on v x) : Yld Tryz.prog R oSA_47 a x 84 (fun v x' => specAt (spSA P A P2 A2 m1 e1 e2 sm m2 e3 nL nc I) 47 v x' ∧ (47 ∈ ([] : List Nat) → v = ptrV x.heap.size)) := by
  obtain ⟨v41, t41, f41⟩ := dep ⟨41, .data⟩ (by simp [oSA_47]) rfl 78 rfl
  have f41 : v41 = (.int .i64 nL) := f41
  subst f41
  obtain ⟨v46, t46, f46⟩ := dep ⟨46, .data⟩ (by simp [oSA_47]) rfl 83 rfl
  have f46 : v46 = (.int .i64 nL) := f46
  subst f46
  exact yld_run (x' := x) rfl (run_eqi (tmp_eval t41) (tmp_eval t46)) (Q.refl x) ⟨rfl, fun h => absurd h (by decide)⟩
theorem ySA_48 {a0 : Act} {w : World} {P A P2 A2 : Nat} {m1 e1 e2 sm : Nat} {m2 e3 nL nc : Int} {I : List Int} (E : EnvSA a0 w P A P2 A2 m1 e1 e2 sm m2 e3 nL nc I) {R : Exit → Act → World → Prop} {a : Act} {x : World} (q : Q w x) (oth : ∀ j, j ∉ sSA → a.tmps[j]? = a0.tmps[j]?) (dep : ∀ ed ∈ oSA_48.after, Region.binds .any ed = true → ∀ t', sSA[ed.on]? = some t' → ∃ v, a.tmps[t']? = some v ∧ specAt (spSA P A P2 A2 m1 e1 e2 sm m2 e3 nL nc I) ed.on v x) : Yld Tryz.prog R oSA_48 a x 85 (fun v x' => specAt (spSA P A P2 A2 m1 e1 e2 sm m2 e3 nL nc I) 48 v x' ∧ (48 ∈ ([] : List Nat) → v = ptrV x.heap.size)) := by
  obtain ⟨v36, t36, f36⟩ := dep ⟨36, .data⟩ (by simp [oSA_48]) rfl 73 rfl
  have f36 : v36 = (.bool true) := f36
  subst f36
  obtain ⟨v47, t47, f47⟩ := dep ⟨47, .data⟩ (by simp [oSA_48]) rfl 84 rfl
  have f47 : v47 = (.bool true) := f47
  subst f47
  exact yld_pick t36 t47 ⟨rfl, fun h => absurd h (by decide)⟩
theorem ySA_49 {a0 : Act} {w : World} {P A P2 A2 : Nat} {m1 e1 e2 sm : Nat} {m2 e3 nL nc : Int} {I : List Int} (E : EnvSA a0 w P A P2 A2 m1 e1 e2 sm m2 e3 nL nc I) {R : Exit → Act → World → Prop} {a : Act} {x : World} (q : Q w x) (oth : ∀ j, j ∉ sSA → a.tmps[j]? = a0.tmps[j]?) (dep : ∀ ed ∈ oSA_49.after, Region.binds .any ed = true → ∀ t', sSA[ed.on]? = some t' → ∃ v, a.tmps[t']? = some v ∧ specAt (spSA P A P2 A2 m1 e1 e2 sm m2 e3 nL nc I) ed.on v x) : Yld Tryz.prog R oSA_49 a x 86 (fun v x' => specAt (spSA P A P2 A2 m1 e1 e2 sm m2 e3 nL nc I) 49 v x' ∧ (49 ∈ ([] : List Nat) → v = ptrV x.heap.size)) := by
  obtain ⟨v48, t48, f48⟩ := dep ⟨48, .data⟩ (by simp [oSA_49]) rfl 85 rfl
  have f48 : v48 = (.bool true) := f48
  subst f48
  exact yld_move t48 ⟨rfl, fun h => absurd h (by decide)⟩
theorem ySA_50 {a0 : Act} {w : World} {P A P2 A2 : Nat} {m1 e1 e2 sm : Nat} {m2 e3 nL nc : Int} {I : List Int} (E : EnvSA a0 w P A P2 A2 m1 e1 e2 sm m2 e3 nL nc I) {R : Exit → Act → World → Prop} {a : Act} {x : World} (q : Q w x) (oth : ∀ j, j ∉ sSA → a.tmps[j]? = a0.tmps[j]?) (dep : ∀ ed ∈ oSA_50.after, Region.binds .any ed = true → ∀ t', sSA[ed.on]? = some t' → ∃ v, a.tmps[t']? = some v ∧ specAt (spSA P A P2 A2 m1 e1 e2 sm m2 e3 nL nc I) ed.on v x) : Yld Tryz.prog R oSA_50 a x 87 (fun v x' => specAt (spSA P A P2 A2 m1 e1 e2 sm m2 e3 nL nc I) 50 v x' ∧ (50 ∈ ([] : List Nat) → v = ptrV x.heap.size)) := by
  exact yld_move ((oth 0 (by decide)).trans E.h0) ⟨rfl, fun h => absurd h (by decide)⟩
theorem ySA_51 {a0 : Act} {w : World} {P A P2 A2 : Nat} {m1 e1 e2 sm : Nat} {m2 e3 nL nc : Int} {I : List Int} (E : EnvSA a0 w P A P2 A2 m1 e1 e2 sm m2 e3 nL nc I) {R : Exit → Act → World → Prop} {a : Act} {x : World} (q : Q w x) (oth : ∀ j, j ∉ sSA → a.tmps[j]? = a0.tmps[j]?) (dep : ∀ ed ∈ oSA_51.after, Region.binds .any ed = true → ∀ t', sSA[ed.on]? = some t' → ∃ v, a.tmps[t']? = some v ∧ specAt (spSA P A P2 A2 m1 e1 e2 sm m2 e3 nL nc I) ed.on v x) : Yld Tryz.prog R oSA_51 a x 88 (fun v x' => specAt (spSA P A P2 A2 m1 e1 e2 sm m2 e3 nL nc I) 51 v x' ∧ (51 ∈ ([] : List Nat) → v = ptrV x.heap.size)) := by
  obtain ⟨v50, t50, f50⟩ := dep ⟨50, .data⟩ (by simp [oSA_51]) rfl 87 rfl
  have f50 : v50 = (.pointer (some ⟨P, 0, none⟩)) := f50
  subst f50
  refine yld_call (enters_of Tryz.func33 (by kernel_rfl) rfl) (args1 t50) ((E.k9 x q).mono ?_)
  rintro y x' ⟨rfl, q'⟩
  exact ⟨_, rfl, q', ⟨rfl, fun h => absurd h (by decide)⟩⟩
theorem ySA_52 {a0 : Act} {w : World} {P A P2 A2 : Nat} {m1 e1 e2 sm : Nat} {m2 e3 nL nc : Int} {I : List Int} (E : EnvSA a0 w P A P2 A2 m1 e1 e2 sm m2 e3 nL nc I) {R : Exit → Act → World → Prop} {a : Act} {x : World} (q : Q w x) (oth : ∀ j, j ∉ sSA → a.tmps[j]? = a0.tmps[j]?) (dep : ∀ ed ∈ oSA_52.after, Region.binds .any ed = true → ∀ t', sSA[ed.on]? = some t' → ∃ v, a.tmps[t']? = some v ∧ specAt (spSA P A P2 A2 m1 e1 e2 sm m2 e3 nL nc I) ed.on v x) : Yld Tryz.prog R oSA_52 a x 89 (fun v x' => specAt (spSA P A P2 A2 m1 e1 e2 sm m2 e3 nL nc I) 52 v x' ∧ (52 ∈ ([] : List Nat) → v = ptrV x.heap.size)) := by
  exact yld_move ((oth 1 (by decide)).trans E.h1) ⟨rfl, fun h => absurd h (by decide)⟩
theorem ySA_53 {a0 : Act} {w : World} {P A P2 A2 : Nat} {m1 e1 e2 sm : Nat} {m2 e3 nL nc : Int} {I : List Int} (E : EnvSA a0 w P A P2 A2 m1 e1 e2 sm m2 e3 nL nc I) {R : Exit → Act → World → Prop} {a : Act} {x : World} (q : Q w x) (oth : ∀ j, j ∉ sSA → a.tmps[j]? = a0.tmps[j]?) (dep : ∀ ed ∈ oSA_53.after, Region.binds .any ed = true → ∀ t', sSA[ed.on]? = some t' → ∃ v, a.tmps[t']? = some v ∧ specAt (spSA P A P2 A2 m1 e1 e2 sm m2 e3 nL nc I) ed.on v x) : Yld Tryz.prog R oSA_53 a x 90 (fun v x' => specAt (spSA P A P2 A2 m1 e1 e2 sm m2 e3 nL nc I) 53 v x' ∧ (53 ∈ ([] : List Nat) → v = ptrV x.heap.size)) := by
  obtain ⟨v52, t52, f52⟩ := dep ⟨52, .data⟩ (by simp [oSA_53]) rfl 89 rfl
  have f52 : v52 = (.pointer (some ⟨P2, 0, none⟩)) := f52
  subst f52
  refine yld_call (enters_of Tryz.func33 (by kernel_rfl) rfl) (args1 t52) ((E.k10 x q).mono ?_)
  rintro y x' ⟨rfl, q'⟩
  exact ⟨_, rfl, q', ⟨rfl, fun h => absurd h (by decide)⟩⟩
theorem ySA_54 {a0 : Act} {w : World} {P A P2 A2 : Nat} {m1 e1 e2 sm : Nat} {m2 e3 nL nc : Int} {I : List Int} (E : EnvSA a0 w P A P2 A2 m1 e1 e2 sm m2 e3 nL nc I) {R : Exit → Act → World → Prop} {a : Act} {x : World} (q : Q w x) (oth : ∀ j, j ∉ sSA → a.tmps[j]? = a0.tmps[j]?) (dep : ∀ ed ∈ oSA_54.after, Region.binds .any ed = true → ∀ t', sSA[ed.on]? = some t' → ∃ v, a.tmps[t']? = some v ∧ specAt (spSA P A P2 A2 m1 e1 e2 sm m2 e3 nL nc I) ed.on v x) : Yld Tryz.prog R oSA_54 a x 91 (fun v x' => specAt (spSA P A P2 A2 m1 e1 e2 sm m2 e3 nL nc I) 54 v x' ∧ (54 ∈ ([] : List Nat) → v = ptrV x.heap.size)) := by
  obtain ⟨v51, t51, f51⟩ := dep ⟨51, .data⟩ (by simp [oSA_54]) rfl 88 rfl
  have f51 : v51 = (.int .i64 nc) := f51
  subst f51
  obtain ⟨v53, t53, f53⟩ := dep ⟨53, .data⟩ (by simp [oSA_54]) rfl 90 rfl
  have f53 : v53 = (.int .i64 nc) := f53
  subst f53
  exact yld_run (x' := x) rfl (run_eqi (tmp_eval t51) (tmp_eval t53)) (Q.refl x) ⟨rfl, fun h => absurd h (by decide)⟩
theorem ySA_55 {a0 : Act} {w : World} {P A P2 A2 : Nat} {m1 e1 e2 sm : Nat} {m2 e3 nL nc : Int} {I : List Int} (E : EnvSA a0 w P A P2 A2 m1 e1 e2 sm m2 e3 nL nc I) {R : Exit → Act → World → Prop} {a : Act} {x : World} (q : Q w x) (oth : ∀ j, j ∉ sSA → a.tmps[j]? = a0.tmps[j]?) (dep : ∀ ed ∈ oSA_55.after, Region.binds .any ed = true → ∀ t', sSA[ed.on]? = some t' → ∃ v, a.tmps[t']? = some v ∧ specAt (spSA P A P2 A2 m1 e1 e2 sm m2 e3 nL nc I) ed.on v x) : Yld Tryz.prog R oSA_55 a x 92 (fun v x' => specAt (spSA P A P2 A2 m1 e1 e2 sm m2 e3 nL nc I) 55 v x' ∧ (55 ∈ ([] : List Nat) → v = ptrV x.heap.size)) := by
  obtain ⟨v49, t49, f49⟩ := dep ⟨49, .data⟩ (by simp [oSA_55]) rfl 86 rfl
  have f49 : v49 = (.bool true) := f49
  subst f49
  obtain ⟨v54, t54, f54⟩ := dep ⟨54, .data⟩ (by simp [oSA_55]) rfl 91 rfl
  have f54 : v54 = (.bool true) := f54
  subst f54
  exact yld_pick t49 t54 ⟨rfl, fun h => absurd h (by decide)⟩
theorem ySA_56 {a0 : Act} {w : World} {P A P2 A2 : Nat} {m1 e1 e2 sm : Nat} {m2 e3 nL nc : Int} {I : List Int} (E : EnvSA a0 w P A P2 A2 m1 e1 e2 sm m2 e3 nL nc I) {R : Exit → Act → World → Prop} {a : Act} {x : World} (q : Q w x) (oth : ∀ j, j ∉ sSA → a.tmps[j]? = a0.tmps[j]?) (dep : ∀ ed ∈ oSA_56.after, Region.binds .any ed = true → ∀ t', sSA[ed.on]? = some t' → ∃ v, a.tmps[t']? = some v ∧ specAt (spSA P A P2 A2 m1 e1 e2 sm m2 e3 nL nc I) ed.on v x) : Yld Tryz.prog R oSA_56 a x 93 (fun v x' => specAt (spSA P A P2 A2 m1 e1 e2 sm m2 e3 nL nc I) 56 v x' ∧ (56 ∈ ([] : List Nat) → v = ptrV x.heap.size)) := by
  obtain ⟨v55, t55, f55⟩ := dep ⟨55, .data⟩ (by simp [oSA_56]) rfl 92 rfl
  have f55 : v55 = (.bool true) := f55
  subst f55
  exact yld_move t55 ⟨rfl, fun h => absurd h (by decide)⟩
theorem ySA_57 {a0 : Act} {w : World} {P A P2 A2 : Nat} {m1 e1 e2 sm : Nat} {m2 e3 nL nc : Int} {I : List Int} (E : EnvSA a0 w P A P2 A2 m1 e1 e2 sm m2 e3 nL nc I) {R : Exit → Act → World → Prop} {a : Act} {x : World} (q : Q w x) (oth : ∀ j, j ∉ sSA → a.tmps[j]? = a0.tmps[j]?) (dep : ∀ ed ∈ oSA_57.after, Region.binds .any ed = true → ∀ t', sSA[ed.on]? = some t' → ∃ v, a.tmps[t']? = some v ∧ specAt (spSA P A P2 A2 m1 e1 e2 sm m2 e3 nL nc I) ed.on v x) : Yld Tryz.prog R oSA_57 a x 94 (fun v x' => specAt (spSA P A P2 A2 m1 e1 e2 sm m2 e3 nL nc I) 57 v x' ∧ (57 ∈ ([] : List Nat) → v = ptrV x.heap.size)) := by
  exact yld_move ((oth 0 (by decide)).trans E.h0) ⟨rfl, fun h => absurd h (by decide)⟩
theorem ySA_58 {a0 : Act} {w : World} {P A P2 A2 : Nat} {m1 e1 e2 sm : Nat} {m2 e3 nL nc : Int} {I : List Int} (E : EnvSA a0 w P A P2 A2 m1 e1 e2 sm m2 e3 nL nc I) {R : Exit → Act → World → Prop} {a : Act} {x : World} (q : Q w x) (oth : ∀ j, j ∉ sSA → a.tmps[j]? = a0.tmps[j]?) (dep : ∀ ed ∈ oSA_58.after, Region.binds .any ed = true → ∀ t', sSA[ed.on]? = some t' → ∃ v, a.tmps[t']? = some v ∧ specAt (spSA P A P2 A2 m1 e1 e2 sm m2 e3 nL nc I) ed.on v x) : Yld Tryz.prog R oSA_58 a x 95 (fun v x' => specAt (spSA P A P2 A2 m1 e1 e2 sm m2 e3 nL nc I) 58 v x' ∧ (58 ∈ ([] : List Nat) → v = ptrV x.heap.size)) := by
  obtain ⟨v57, t57, f57⟩ := dep ⟨57, .data⟩ (by simp [oSA_58]) rfl 94 rfl
  have f57 : v57 = (.pointer (some ⟨P, 0, none⟩)) := f57
  subst f57
  refine yld_call (enters_of Tryz.func30 (by kernel_rfl) rfl) (args1 t57) ((E.k11 x q).mono ?_)
  rintro y x' ⟨v, rfl, hi, q'⟩
  exact ⟨_, rfl, q', ⟨hi, fun h => absurd h (by decide)⟩⟩
theorem ySA_59 {a0 : Act} {w : World} {P A P2 A2 : Nat} {m1 e1 e2 sm : Nat} {m2 e3 nL nc : Int} {I : List Int} (E : EnvSA a0 w P A P2 A2 m1 e1 e2 sm m2 e3 nL nc I) {R : Exit → Act → World → Prop} {a : Act} {x : World} (q : Q w x) (oth : ∀ j, j ∉ sSA → a.tmps[j]? = a0.tmps[j]?) (dep : ∀ ed ∈ oSA_59.after, Region.binds .any ed = true → ∀ t', sSA[ed.on]? = some t' → ∃ v, a.tmps[t']? = some v ∧ specAt (spSA P A P2 A2 m1 e1 e2 sm m2 e3 nL nc I) ed.on v x) : Yld Tryz.prog R oSA_59 a x 96 (fun v x' => specAt (spSA P A P2 A2 m1 e1 e2 sm m2 e3 nL nc I) 59 v x' ∧ (59 ∈ ([] : List Nat) → v = ptrV x.heap.size)) := by
  exact yld_move ((oth 1 (by decide)).trans E.h1) ⟨rfl, fun h => absurd h (by decide)⟩
theorem ySA_60 {a0 : Act} {w : World} {P A P2 A2 : Nat} {m1 e1 e2 sm : Nat} {m2 e3 nL nc : Int} {I : List Int} (E : EnvSA a0 w P A P2 A2 m1 e1 e2 sm m2 e3 nL nc I) {R : Exit → Act → World → Prop} {a : Act} {x : World} (q : Q w x) (oth : ∀ j, j ∉ sSA → a.tmps[j]? = a0.tmps[j]?) (dep : ∀ ed ∈ oSA_60.after, Region.binds .any ed = true → ∀ t', sSA[ed.on]? = some t' → ∃ v, a.tmps[t']? = some v ∧ specAt (spSA P A P2 A2 m1 e1 e2 sm m2 e3 nL nc I) ed.on v x) : Yld Tryz.prog R oSA_60 a x 97 (fun v x' => specAt (spSA P A P2 A2 m1 e1 e2 sm m2 e3 nL nc I) 60 v x' ∧ (60 ∈ ([] : List Nat) → v = ptrV x.heap.size)) := by
  obtain ⟨v59, t59, f59⟩ := dep ⟨59, .data⟩ (by simp [oSA_60]) rfl 96 rfl
  have f59 : v59 = (.pointer (some ⟨P2, 0, none⟩)) := f59
  subst f59
  refine yld_call (enters_of Tryz.func30 (by kernel_rfl) rfl) (args1 t59) ((E.k12 x q).mono ?_)
  rintro y x' ⟨v, rfl, hi, q'⟩
  exact ⟨_, rfl, q', ⟨hi, fun h => absurd h (by decide)⟩⟩
theorem ySA_61 {a0 : Act} {w : World} {P A P2 A2 : Nat} {m1 e1 e2 sm : Nat} {m2 e3 nL nc : Int} {I : List Int} (E : EnvSA a0 w P A P2 A2 m1 e1 e2 sm m2 e3 nL nc I) {R : Exit → Act → World → Prop} {a : Act} {x : World} (q : Q w x) (oth : ∀ j, j ∉ sSA → a.tmps[j]? = a0.tmps[j]?) (dep : ∀ ed ∈ oSA_61.after, Region.binds .any ed = true → ∀ t', sSA[ed.on]? = some t' → ∃ v, a.tmps[t']? = some v ∧ specAt (spSA P A P2 A2 m1 e1 e2 sm m2 e3 nL nc I) ed.on v x) : Yld Tryz.prog R oSA_61 a x 98 (fun v x' => specAt (spSA P A P2 A2 m1 e1 e2 sm m2 e3 nL nc I) 61 v x' ∧ (61 ∈ ([] : List Nat) → v = ptrV x.heap.size)) := by
  obtain ⟨v58, t58, f58⟩ := dep ⟨58, .data⟩ (by simp [oSA_61]) rfl 95 rfl
  have f58 : (spI I).p v58 x := f58
  obtain ⟨v60, t60, f60⟩ := dep ⟨60, .data⟩ (by simp [oSA_61]) rfl 97 rfl
  have f60 : (spI I).p v60 x := f60
  refine yld_call (enters_of Tryz.func49 (by kernel_rfl) rfl) (args2 t58 t60) ((ints_any v58 v60 I I x f58 f60 E.hI E.hI).mono ?_)
  rintro y x' ⟨rfl, q'⟩
  exact ⟨_, rfl, q', ⟨by rw [decide_eq_true rfl]; rfl, fun h => absurd h (by decide)⟩⟩
theorem ySA_62 {a0 : Act} {w : World} {P A P2 A2 : Nat} {m1 e1 e2 sm : Nat} {m2 e3 nL nc : Int} {I : List Int} (E : EnvSA a0 w P A P2 A2 m1 e1 e2 sm m2 e3 nL nc I) {R : Exit → Act → World → Prop} {a : Act} {x : World} (q : Q w x) (oth : ∀ j, j ∉ sSA → a.tmps[j]? = a0.tmps[j]?) (dep : ∀ ed ∈ oSA_62.after, Region.binds .any ed = true → ∀ t', sSA[ed.on]? = some t' → ∃ v, a.tmps[t']? = some v ∧ specAt (spSA P A P2 A2 m1 e1 e2 sm m2 e3 nL nc I) ed.on v x) : Yld Tryz.prog R oSA_62 a x 99 (fun v x' => specAt (spSA P A P2 A2 m1 e1 e2 sm m2 e3 nL nc I) 62 v x' ∧ (62 ∈ ([] : List Nat) → v = ptrV x.heap.size)) := by
  obtain ⟨v56, t56, f56⟩ := dep ⟨56, .data⟩ (by simp [oSA_62]) rfl 93 rfl
  have f56 : v56 = (.bool true) := f56
  subst f56
  obtain ⟨v61, t61, f61⟩ := dep ⟨61, .data⟩ (by simp [oSA_62]) rfl 98 rfl
  have f61 : v61 = (.bool true) := f61
  subst f61
  exact yld_pick t56 t61 ⟨rfl, fun h => absurd h (by decide)⟩
theorem hopSA {a0 : Act} {w : World} {P A P2 A2 : Nat} {m1 e1 e2 sm : Nat} {m2 e3 nL nc : Int} {I : List Int} (E : EnvSA a0 w P A P2 A2 m1 e1 e2 sm m2 e3 nL nc I) {R : Exit → Act → World → Prop} : ∀ (i t : Nat) (o : Oper) (a : Act) (x : World), i < 63 → sSA[i]? = some t → opsSA[i]? = some o → Q w x → (∀ j, j ∉ sSA → a.tmps[j]? = a0.tmps[j]?) → (∀ ed ∈ o.after, Region.binds .any ed = true → ∀ t', sSA[ed.on]? = some t' → ∃ v, a.tmps[t']? = some v ∧ specAt (spSA P A P2 A2 m1 e1 e2 sm m2 e3 nL nc I) ed.on v x) → Yld Tryz.prog R o a x t (fun v x' => specAt (spSA P A P2 A2 m1 e1 e2 sm m2 e3 nL nc I) i v x' ∧ (i ∈ ([] : List Nat) → v = ptrV x.heap.size))
  | 0, t, o, a, x, hi, ht, ho, q, oth, dep => by
    have e1 : oSA_0 = o := Option.some.inj ho
    have e2 : 37 = t := Option.some.inj ht
    subst e1 e2
    exact ySA_0 E q oth dep
  | 1, t, o, a, x, hi, ht, ho, q, oth, dep => by
    have e1 : oSA_1 = o := Option.some.inj ho
    have e2 : 38 = t := Option.some.inj ht
    subst e1 e2
    exact ySA_1 E q oth dep
  | 2, t, o, a, x, hi, ht, ho, q, oth, dep => by
    have e1 : oSA_2 = o := Option.some.inj ho
    have e2 : 39 = t := Option.some.inj ht
    subst e1 e2
    exact ySA_2 E q oth dep
  | 3, t, o, a, x, hi, ht, ho, q, oth, dep => by
    have e1 : oSA_3 = o := Option.some.inj ho
    have e2 : 40 = t := Option.some.inj ht
    subst e1 e2
    exact ySA_3 E q oth dep
  | 4, t, o, a, x, hi, ht, ho, q, oth, dep => by
    have e1 : oSA_4 = o := Option.some.inj ho
    have e2 : 41 = t := Option.some.inj ht
    subst e1 e2
    exact ySA_4 E q oth dep
  | 5, t, o, a, x, hi, ht, ho, q, oth, dep => by
    have e1 : oSA_5 = o := Option.some.inj ho
    have e2 : 42 = t := Option.some.inj ht
    subst e1 e2
    exact ySA_5 E q oth dep
  | 6, t, o, a, x, hi, ht, ho, q, oth, dep => by
    have e1 : oSA_6 = o := Option.some.inj ho
    have e2 : 43 = t := Option.some.inj ht
    subst e1 e2
    exact ySA_6 E q oth dep
  | 7, t, o, a, x, hi, ht, ho, q, oth, dep => by
    have e1 : oSA_7 = o := Option.some.inj ho
    have e2 : 44 = t := Option.some.inj ht
    subst e1 e2
    exact ySA_7 E q oth dep
  | 8, t, o, a, x, hi, ht, ho, q, oth, dep => by
    have e1 : oSA_8 = o := Option.some.inj ho
    have e2 : 45 = t := Option.some.inj ht
    subst e1 e2
    exact ySA_8 E q oth dep
  | 9, t, o, a, x, hi, ht, ho, q, oth, dep => by
    have e1 : oSA_9 = o := Option.some.inj ho
    have e2 : 46 = t := Option.some.inj ht
    subst e1 e2
    exact ySA_9 E q oth dep
  | 10, t, o, a, x, hi, ht, ho, q, oth, dep => by
    have e1 : oSA_10 = o := Option.some.inj ho
    have e2 : 47 = t := Option.some.inj ht
    subst e1 e2
    exact ySA_10 E q oth dep
  | 11, t, o, a, x, hi, ht, ho, q, oth, dep => by
    have e1 : oSA_11 = o := Option.some.inj ho
    have e2 : 48 = t := Option.some.inj ht
    subst e1 e2
    exact ySA_11 E q oth dep
  | 12, t, o, a, x, hi, ht, ho, q, oth, dep => by
    have e1 : oSA_12 = o := Option.some.inj ho
    have e2 : 49 = t := Option.some.inj ht
    subst e1 e2
    exact ySA_12 E q oth dep
  | 13, t, o, a, x, hi, ht, ho, q, oth, dep => by
    have e1 : oSA_13 = o := Option.some.inj ho
    have e2 : 50 = t := Option.some.inj ht
    subst e1 e2
    exact ySA_13 E q oth dep
  | 14, t, o, a, x, hi, ht, ho, q, oth, dep => by
    have e1 : oSA_14 = o := Option.some.inj ho
    have e2 : 51 = t := Option.some.inj ht
    subst e1 e2
    exact ySA_14 E q oth dep
  | 15, t, o, a, x, hi, ht, ho, q, oth, dep => by
    have e1 : oSA_15 = o := Option.some.inj ho
    have e2 : 52 = t := Option.some.inj ht
    subst e1 e2
    exact ySA_15 E q oth dep
  | 16, t, o, a, x, hi, ht, ho, q, oth, dep => by
    have e1 : oSA_16 = o := Option.some.inj ho
    have e2 : 53 = t := Option.some.inj ht
    subst e1 e2
    exact ySA_16 E q oth dep
  | 17, t, o, a, x, hi, ht, ho, q, oth, dep => by
    have e1 : oSA_17 = o := Option.some.inj ho
    have e2 : 54 = t := Option.some.inj ht
    subst e1 e2
    exact ySA_17 E q oth dep
  | 18, t, o, a, x, hi, ht, ho, q, oth, dep => by
    have e1 : oSA_18 = o := Option.some.inj ho
    have e2 : 55 = t := Option.some.inj ht
    subst e1 e2
    exact ySA_18 E q oth dep
  | 19, t, o, a, x, hi, ht, ho, q, oth, dep => by
    have e1 : oSA_19 = o := Option.some.inj ho
    have e2 : 56 = t := Option.some.inj ht
    subst e1 e2
    exact ySA_19 E q oth dep
  | 20, t, o, a, x, hi, ht, ho, q, oth, dep => by
    have e1 : oSA_20 = o := Option.some.inj ho
    have e2 : 57 = t := Option.some.inj ht
    subst e1 e2
    exact ySA_20 E q oth dep
  | 21, t, o, a, x, hi, ht, ho, q, oth, dep => by
    have e1 : oSA_21 = o := Option.some.inj ho
    have e2 : 58 = t := Option.some.inj ht
    subst e1 e2
    exact ySA_21 E q oth dep
  | 22, t, o, a, x, hi, ht, ho, q, oth, dep => by
    have e1 : oSA_22 = o := Option.some.inj ho
    have e2 : 59 = t := Option.some.inj ht
    subst e1 e2
    exact ySA_22 E q oth dep
  | 23, t, o, a, x, hi, ht, ho, q, oth, dep => by
    have e1 : oSA_23 = o := Option.some.inj ho
    have e2 : 60 = t := Option.some.inj ht
    subst e1 e2
    exact ySA_23 E q oth dep
  | 24, t, o, a, x, hi, ht, ho, q, oth, dep => by
    have e1 : oSA_24 = o := Option.some.inj ho
    have e2 : 61 = t := Option.some.inj ht
    subst e1 e2
    exact ySA_24 E q oth dep
  | 25, t, o, a, x, hi, ht, ho, q, oth, dep => by
    have e1 : oSA_25 = o := Option.some.inj ho
    have e2 : 62 = t := Option.some.inj ht
    subst e1 e2
    exact ySA_25 E q oth dep
  | 26, t, o, a, x, hi, ht, ho, q, oth, dep => by
    have e1 : oSA_26 = o := Option.some.inj ho
    have e2 : 63 = t := Option.some.inj ht
    subst e1 e2
    exact ySA_26 E q oth dep
  | 27, t, o, a, x, hi, ht, ho, q, oth, dep => by
    have e1 : oSA_27 = o := Option.some.inj ho
    have e2 : 64 = t := Option.some.inj ht
    subst e1 e2
    exact ySA_27 E q oth dep
  | 28, t, o, a, x, hi, ht, ho, q, oth, dep => by
    have e1 : oSA_28 = o := Option.some.inj ho
    have e2 : 65 = t := Option.some.inj ht
    subst e1 e2
    exact ySA_28 E q oth dep
  | 29, t, o, a, x, hi, ht, ho, q, oth, dep => by
    have e1 : oSA_29 = o := Option.some.inj ho
    have e2 : 66 = t := Option.some.inj ht
    subst e1 e2
    exact ySA_29 E q oth dep
  | 30, t, o, a, x, hi, ht, ho, q, oth, dep => by
    have e1 : oSA_30 = o := Option.some.inj ho
    have e2 : 67 = t := Option.some.inj ht
    subst e1 e2
    exact ySA_30 E q oth dep
  | 31, t, o, a, x, hi, ht, ho, q, oth, dep => by
    have e1 : oSA_31 = o := Option.some.inj ho
    have e2 : 68 = t := Option.some.inj ht
    subst e1 e2
    exact ySA_31 E q oth dep
  | 32, t, o, a, x, hi, ht, ho, q, oth, dep => by
    have e1 : oSA_32 = o := Option.some.inj ho
    have e2 : 69 = t := Option.some.inj ht
    subst e1 e2
    exact ySA_32 E q oth dep
  | 33, t, o, a, x, hi, ht, ho, q, oth, dep => by
    have e1 : oSA_33 = o := Option.some.inj ho
    have e2 : 70 = t := Option.some.inj ht
    subst e1 e2
    exact ySA_33 E q oth dep
  | 34, t, o, a, x, hi, ht, ho, q, oth, dep => by
    have e1 : oSA_34 = o := Option.some.inj ho
    have e2 : 71 = t := Option.some.inj ht
    subst e1 e2
    exact ySA_34 E q oth dep
  | 35, t, o, a, x, hi, ht, ho, q, oth, dep => by
    have e1 : oSA_35 = o := Option.some.inj ho
    have e2 : 72 = t := Option.some.inj ht
    subst e1 e2
    exact ySA_35 E q oth dep
  | 36, t, o, a, x, hi, ht, ho, q, oth, dep => by
    have e1 : oSA_36 = o := Option.some.inj ho
    have e2 : 73 = t := Option.some.inj ht
    subst e1 e2
    exact ySA_36 E q oth dep
  | 37, t, o, a, x, hi, ht, ho, q, oth, dep => by
    have e1 : oSA_37 = o := Option.some.inj ho
    have e2 : 74 = t := Option.some.inj ht
    subst e1 e2
    exact ySA_37 E q oth dep
  | 38, t, o, a, x, hi, ht, ho, q, oth, dep => by
    have e1 : oSA_38 = o := Option.some.inj ho
    have e2 : 75 = t := Option.some.inj ht
    subst e1 e2
    exact ySA_38 E q oth dep
  | 39, t, o, a, x, hi, ht, ho, q, oth, dep => by
    have e1 : oSA_39 = o := Option.some.inj ho
    have e2 : 76 = t := Option.some.inj ht
    subst e1 e2
    exact ySA_39 E q oth dep
  | 40, t, o, a, x, hi, ht, ho, q, oth, dep => by
    have e1 : oSA_40 = o := Option.some.inj ho
    have e2 : 77 = t := Option.some.inj ht
    subst e1 e2
    exact ySA_40 E q oth dep
  | 41, t, o, a, x, hi, ht, ho, q, oth, dep => by
    have e1 : oSA_41 = o := Option.some.inj ho
    have e2 : 78 = t := Option.some.inj ht
    subst e1 e2
    exact ySA_41 E q oth dep
  | 42, t, o, a, x, hi, ht, ho, q, oth, dep => by
    have e1 : oSA_42 = o := Option.some.inj ho
    have e2 : 79 = t := Option.some.inj ht
    subst e1 e2
    exact ySA_42 E q oth dep
  | 43, t, o, a, x, hi, ht, ho, q, oth, dep => by
    have e1 : oSA_43 = o := Option.some.inj ho
    have e2 : 80 = t := Option.some.inj ht
    subst e1 e2
    exact ySA_43 E q oth dep
  | 44, t, o, a, x, hi, ht, ho, q, oth, dep => by
    have e1 : oSA_44 = o := Option.some.inj ho
    have e2 : 81 = t := Option.some.inj ht
    subst e1 e2
    exact ySA_44 E q oth dep
  | 45, t, o, a, x, hi, ht, ho, q, oth, dep => by
    have e1 : oSA_45 = o := Option.some.inj ho
    have e2 : 82 = t := Option.some.inj ht
    subst e1 e2
    exact ySA_45 E q oth dep
  | 46, t, o, a, x, hi, ht, ho, q, oth, dep => by
    have e1 : oSA_46 = o := Option.some.inj ho
    have e2 : 83 = t := Option.some.inj ht
    subst e1 e2
    exact ySA_46 E q oth dep
  | 47, t, o, a, x, hi, ht, ho, q, oth, dep => by
    have e1 : oSA_47 = o := Option.some.inj ho
    have e2 : 84 = t := Option.some.inj ht
    subst e1 e2
    exact ySA_47 E q oth dep
  | 48, t, o, a, x, hi, ht, ho, q, oth, dep => by
    have e1 : oSA_48 = o := Option.some.inj ho
    have e2 : 85 = t := Option.some.inj ht
    subst e1 e2
    exact ySA_48 E q oth dep
  | 49, t, o, a, x, hi, ht, ho, q, oth, dep => by
    have e1 : oSA_49 = o := Option.some.inj ho
    have e2 : 86 = t := Option.some.inj ht
    subst e1 e2
    exact ySA_49 E q oth dep
  | 50, t, o, a, x, hi, ht, ho, q, oth, dep => by
    have e1 : oSA_50 = o := Option.some.inj ho
    have e2 : 87 = t := Option.some.inj ht
    subst e1 e2
    exact ySA_50 E q oth dep
  | 51, t, o, a, x, hi, ht, ho, q, oth, dep => by
    have e1 : oSA_51 = o := Option.some.inj ho
    have e2 : 88 = t := Option.some.inj ht
    subst e1 e2
    exact ySA_51 E q oth dep
  | 52, t, o, a, x, hi, ht, ho, q, oth, dep => by
    have e1 : oSA_52 = o := Option.some.inj ho
    have e2 : 89 = t := Option.some.inj ht
    subst e1 e2
    exact ySA_52 E q oth dep
  | 53, t, o, a, x, hi, ht, ho, q, oth, dep => by
    have e1 : oSA_53 = o := Option.some.inj ho
    have e2 : 90 = t := Option.some.inj ht
    subst e1 e2
    exact ySA_53 E q oth dep
  | 54, t, o, a, x, hi, ht, ho, q, oth, dep => by
    have e1 : oSA_54 = o := Option.some.inj ho
    have e2 : 91 = t := Option.some.inj ht
    subst e1 e2
    exact ySA_54 E q oth dep
  | 55, t, o, a, x, hi, ht, ho, q, oth, dep => by
    have e1 : oSA_55 = o := Option.some.inj ho
    have e2 : 92 = t := Option.some.inj ht
    subst e1 e2
    exact ySA_55 E q oth dep
  | 56, t, o, a, x, hi, ht, ho, q, oth, dep => by
    have e1 : oSA_56 = o := Option.some.inj ho
    have e2 : 93 = t := Option.some.inj ht
    subst e1 e2
    exact ySA_56 E q oth dep
  | 57, t, o, a, x, hi, ht, ho, q, oth, dep => by
    have e1 : oSA_57 = o := Option.some.inj ho
    have e2 : 94 = t := Option.some.inj ht
    subst e1 e2
    exact ySA_57 E q oth dep
  | 58, t, o, a, x, hi, ht, ho, q, oth, dep => by
    have e1 : oSA_58 = o := Option.some.inj ho
    have e2 : 95 = t := Option.some.inj ht
    subst e1 e2
    exact ySA_58 E q oth dep
  | 59, t, o, a, x, hi, ht, ho, q, oth, dep => by
    have e1 : oSA_59 = o := Option.some.inj ho
    have e2 : 96 = t := Option.some.inj ht
    subst e1 e2
    exact ySA_59 E q oth dep
  | 60, t, o, a, x, hi, ht, ho, q, oth, dep => by
    have e1 : oSA_60 = o := Option.some.inj ho
    have e2 : 97 = t := Option.some.inj ht
    subst e1 e2
    exact ySA_60 E q oth dep
  | 61, t, o, a, x, hi, ht, ho, q, oth, dep => by
    have e1 : oSA_61 = o := Option.some.inj ho
    have e2 : 98 = t := Option.some.inj ht
    subst e1 e2
    exact ySA_61 E q oth dep
  | 62, t, o, a, x, hi, ht, ho, q, oth, dep => by
    have e1 : oSA_62 = o := Option.some.inj ho
    have e2 : 99 = t := Option.some.inj ht
    subst e1 e2
    exact ySA_62 E q oth dep
  | i + 63, t, o, a, x, hi, ht, ho, q, oth, dep => absurd hi (by omega)
theorem regionSA {id : Nat} {l : List Oper} {R : Exit → Act → World → Prop} {a0 : Act} {w : World} {P A P2 A2 : Nat} {m1 e1 e2 sm : Nat} {m2 e3 nL nc : Int} {I : List Int} (hl : l = opsSA) (hsz : a0.tmps.size = 100) (E : EnvSA a0 w P A P2 A2 m1 e1 e2 sm m2 e3 nL nc I)
    (hR : ∀ a x, Q w x → a.defers = a0.defers → a.tmps[4]? = some (.bool true) → R .normal a x) :
    (Code.region id l.toArray true).wp Tryz.prog R a0 w := by
  subst hl
  refine wp_region_factsG 63 sSA (specAt (spSA P A P2 A2 m1 e1 e2 sm m2 e3 nL nc I)) [] (by kernel_rfl) (by decide +kernel) (by decide) rfl (by decide) (fun t ht => ?_) specAt.next (by decide +kernel) ?_ (fun i v x hi hf => by cases hi) (hopSA E) (fun a x q size defers other facts apart => ?_)
  · rw [hsz]
    revert t
    decide
  · intro i o g b ho hg v x hf
    have hi : i < 64 := (List.getElem?_eq_some_iff.1 ho).1
    have key : ∀ i, i < 64 → (opsSA[i]?).bind (·.guard) = none ∨ (opsSA[i]?).bind (·.guard) = some (3, true) ∨ (opsSA[i]?).bind (·.guard) = some (8, true) ∨ (opsSA[i]?).bind (·.guard) = some (13, true) ∨ (opsSA[i]?).bind (·.guard) = some (18, true) ∨ (opsSA[i]?).bind (·.guard) = some (23, true) ∨ (opsSA[i]?).bind (·.guard) = some (36, true) ∨ (opsSA[i]?).bind (·.guard) = some (49, true) ∨ (opsSA[i]?).bind (·.guard) = some (56, true) := by decide +kernel
    have h := key i hi
    rw [ho] at h
    simp only [Option.bind_some] at h
    rw [hg] at h
    rcases h with h | h | h | h | h | h | h | h | h
    · cases h
    all_goals
      injection h with h
      injection h with h1 h2
      subst h1 h2
      exact hf
  · obtain ⟨v, t99, f99⟩ := facts 62 99 (by decide) rfl
    have f99 : v = .bool true := f99
    subst f99
    refine ⟨?_⟩
    show R .normal (a.put (some 4) (a.eval (.tmp 99))) x
    rw [tmp_eval t99]
    refine hR _ _ q defers (Array.getElem?_setIfInBounds_self_of_lt ?_)
    rw [size, hsz]
    decide
end Go.Proofs.YtieojgblamkgoaaGreatDoor
